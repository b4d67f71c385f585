import PyProof.Rows.All
import Wide.All
import OpenK.AllK
import Wide.FinOn
import HandS.ForMost
import HandS.ForExc
import HandS.IsInst
import HandS.Wide
import HandS.StrMore
import HandS.Conv
import HandS.FStr
import HandS.EndBits
import HandS.RaiseMore
import HandS.ReplaceLit
import HandS.ExcIs
import HandS.ExcSuper
import HandS.ExcInit
import KE.KExcSuper
import KE.KSuper
import HandS.ExcField
import KE.KExcIs
import HandS.TryOnly
import HandS.SetKeys
import HandS.DictComp
import HandS.TupAny
import HandS.HotCalls
import HandS.ExcInitHot
import HandS.Text
import KE.KxIndex
import KE.IntTextLaws
import HandS.ReplaceList
import HandS.More
import PySem.Challenge.RW_seamgraph_k07_faults_of_documents
set_option Elab.async false
set_option linter.all false
set_option maxRecDepth 100000
set_option maxHeartbeats 2000000
/-! A layer over the hand layer: values as trees, what is read as predicate transformers over them -/
namespace Dl
open PySem L2
/-- a value as a tree; drw: the one object that the draws change -/
inductive D where
  | non | bl (b : Bool) | int (i : Int) | str (s : Str)
  | lst (xs : List D) | tup (xs : List D) | dic (kvs : List (Key × D)) | ins (C : Str) (fs : List (Str × D)) | drw | scr (ns : List Int) | ty (n : String) | rf (a : Addr) | exc (a d : Addr) (fs : List (Str × D))
def D.I (d : D) (Q : Int → Prop) : Prop := match d with
  | .int i => Q i
  | _ => False
def D.B (d : D) (Q : Bool → Prop) : Prop := match d with
  | .bl i => Q i
  | _ => False
def D.S (d : D) (Q : Str → Prop) : Prop := match d with
  | .str i => Q i
  | _ => False
def D.L (d : D) (Q : List D → Prop) : Prop := match d with
  | .lst i => Q i
  | _ => False
def D.T (d : D) (Q : List D → Prop) : Prop := match d with
  | .tup i => Q i
  | _ => False
def D.K (d : D) (Q : List (Key × D) → Prop) : Prop := match d with
  | .dic i => Q i
  | _ => False
theorem D.I_ex {d : D} {Q : Int → Prop} (h : d.I Q) : ∃ i, d = .int i ∧ Q i := by
  cases d <;> first | exact ⟨_, rfl, h⟩ | exact h.elim
theorem D.B_ex {d : D} {Q : Bool → Prop} (h : d.B Q) : ∃ i, d = .bl i ∧ Q i := by
  cases d <;> first | exact ⟨_, rfl, h⟩ | exact h.elim
theorem D.S_ex {d : D} {Q : Str → Prop} (h : d.S Q) : ∃ i, d = .str i ∧ Q i := by
  cases d <;> first | exact ⟨_, rfl, h⟩ | exact h.elim
theorem D.L_ex {d : D} {Q : List D → Prop} (h : d.L Q) : ∃ i, d = .lst i ∧ Q i := by
  cases d <;> first | exact ⟨_, rfl, h⟩ | exact h.elim
theorem D.T_ex {d : D} {Q : List D → Prop} (h : d.T Q) : ∃ i, d = .tup i ∧ Q i := by
  cases d <;> first | exact ⟨_, rfl, h⟩ | exact h.elim
theorem D.K_ex {d : D} {Q : List (Key × D) → Prop} (h : d.K Q) : ∃ i, d = .dic i ∧ Q i := by
  cases d <;> first | exact ⟨_, rfl, h⟩ | exact h.elim
structure Wc where
  K : PySem.W.Frag
  mg : Str → Option Value
  s : Addr
mutual
inductive Rp (c : Wc) (Z : Hp) : V → D → Prop
  | non : Rp c Z .non .non
  | bl (b : Bool) : Rp c Z (.bl b) (.bl b)
  | int (i : Int) : Rp c Z (.int i) (.int i)
  | str (x : Str) : Rp c Z (.str x) (.str x)
  | lst {a : Addr} {xs : List V} {ds : List D} : Z a = some (.lst xs) → RpA c Z xs ds → Rp c Z (.ref a) (.lst ds)
  | tup {a : Addr} {xs : List V} {ds : List D} : SqT c.K Z a xs → RpA c Z xs ds → Rp c Z (.ref a) (.tup ds)
  | dic {a : Addr} {xs : List (Key × V)} {ds : List (Key × D)} : Rd Z a (.dK xs) → RpK c Z xs ds → Rp c Z (.ref a) (.dic ds)
  | ins {a C dx : Addr} {n : Str} {fs : List (Str × V)} {ds : List (Str × D)} : c.mg n = some (.ref C) → Z a = some (.ins C dx fs) → RpF c Z fs ds → Rp c Z (.ref a) (.ins n ds)
  | drw : Rp c Z (.ref c.s) .drw
  | scr {a : Addr} {ns : List Int} : SqL c.K Z a (ns.map V.int) → Rp c Z (.ref a) (.scr ns)
  | ty (n : String) : Rp c Z (.ty n) (.ty n)
  | rf (a : Addr) : Rp c Z (.ref a) (.rf a)
  | exc {a d : Addr} {fs : List (Str × V)} {ds : List (Str × D)} : Z d = some (.xd fs) → RpF c Z fs ds → Rp c Z (.ref a) (.exc a d ds)
inductive RpA (c : Wc) (Z : Hp) : List V → List D → Prop
  | nil : RpA c Z [] []
  | cons {v : V} {vs : List V} {d : D} {ds : List D} : Rp c Z v d → RpA c Z vs ds → RpA c Z (v :: vs) (d :: ds)
inductive RpK (c : Wc) (Z : Hp) : List (Key × V) → List (Key × D) → Prop
  | nil : RpK c Z [] []
  | cons {k : Key} {v : V} {vs : List (Key × V)} {d : D} {ds : List (Key × D)} : Rp c Z v d → RpK c Z vs ds → RpK c Z ((k, v) :: vs) ((k, d) :: ds)
inductive RpF (c : Wc) (Z : Hp) : List (Str × V) → List (Str × D) → Prop
  | nil : RpF c Z [] []
  | cons {k : Str} {v : V} {vs : List (Str × V)} {d : D} {ds : List (Str × D)} : Rp c Z v d → RpF c Z vs ds → RpF c Z ((k, v) :: vs) ((k, d) :: ds)
end
section
variable {c : Wc} {Z Z' : Hp}
theorem rd_mono {H H' : Hp} {a : Addr} {u : HO} (e : Same H H') (h : Rd H a u) : Rd H' a u := by
  rcases h with h | ⟨o, h⟩
  · exact .inl (e _ _ h)
  · exact .inr ⟨o, e _ _ h⟩
theorem same_t {K : PySem.W.Frag} {H H' : Hp} {a : Addr} {xs : List V} (e : Same H H') (h : SqT K H a xs) : SqT K H' a xs := by
  rcases h with (h | ⟨o, h⟩) | h
  · exact .inl (.inl (e _ _ h))
  · exact .inl (.inr ⟨o, e _ _ h⟩)
  · exact .inr h
mutual
theorem Rp.mono (e : Same Z Z') : ∀ {v : V} {d : D}, Rp c Z v d → Rp c Z' v d
  | _, _, .non => .non
  | _, _, .bl b => .bl b
  | _, _, .int i => .int i
  | _, _, .str x => .str x
  | _, _, .lst h r => .lst (e _ _ h) (RpA.mono e r)
  | _, _, .tup h r => .tup (same_t e h) (RpA.mono e r)
  | _, _, .dic h r => .dic (rd_mono e h) (RpK.mono e r)
  | _, _, .ins n h r => .ins n (e _ _ h) (RpF.mono e r)
  | _, _, .drw => .drw
  | _, _, .scr h => .scr (e.seq h)
  | _, _, .ty n => .ty n
  | _, _, .rf a => .rf a
  | _, _, .exc h r => .exc (e _ _ h) (RpF.mono e r)
theorem RpA.mono (e : Same Z Z') : ∀ {v : List V} {d : List D}, RpA c Z v d → RpA c Z' v d
  | _, _, .nil => .nil
  | _, _, .cons h r => .cons (Rp.mono e h) (RpA.mono e r)
theorem RpK.mono (e : Same Z Z') : ∀ {v : List (Key × V)} {d : List (Key × D)}, RpK c Z v d → RpK c Z' v d
  | _, _, .nil => .nil
  | _, _, .cons h r => .cons (Rp.mono e h) (RpK.mono e r)
theorem RpF.mono (e : Same Z Z') : ∀ {v : List (Str × V)} {d : List (Str × D)}, RpF c Z v d → RpF c Z' v d
  | _, _, .nil => .nil
  | _, _, .cons h r => .cons (Rp.mono e h) (RpF.mono e r)
end
theorem RpA.length : ∀ {vs : List V} {ds : List D}, RpA c Z vs ds → vs.length = ds.length
  | _, _, .nil => rfl
  | _, _, .cons _ r => by rw [List.length_cons, List.length_cons, RpA.length r]
theorem RpA.get : ∀ {vs : List V} {ds : List D} (i : Nat) {d : D}, RpA c Z vs ds → ds[i]? = some d → ∃ v, vs[i]? = some v ∧ Rp c Z v d
  | _, _, i, _, .nil, h => by simp at h
  | _, _, 0, _, .cons h _, e => by
    rw [List.getElem?_cons_zero] at e
    cases e
    exact ⟨_, rfl, h⟩
  | _, _, i + 1, _, .cons _ r, e => by
    rw [List.getElem?_cons_succ] at e
    obtain ⟨v, h1, h2⟩ := RpA.get i r e
    exact ⟨v, by rw [List.getElem?_cons_succ]; exact h1, h2⟩
theorem RpA.getV : ∀ {vs : List V} {ds : List D} (i : Nat) {v : V}, RpA c Z vs ds → vs[i]? = some v → ∃ d, ds[i]? = some d ∧ Rp c Z v d
  | _, _, i, _, .nil, h => by simp at h
  | _, _, 0, _, .cons h _, e => by
    rw [List.getElem?_cons_zero] at e
    cases e
    exact ⟨_, rfl, h⟩
  | _, _, i + 1, _, .cons _ r, e => by
    rw [List.getElem?_cons_succ] at e
    obtain ⟨v, h1, h2⟩ := RpA.getV i r e
    exact ⟨v, by rw [List.getElem?_cons_succ]; exact h1, h2⟩
theorem RpA.append : ∀ {vs ws : List V} {ds es : List D}, RpA c Z vs ds → RpA c Z ws es → RpA c Z (vs ++ ws) (ds ++ es)
  | _, _, _, _, .nil, h => h
  | _, _, _, _, .cons h r, h2 => .cons h (RpA.append r h2)
theorem RpA.drop : ∀ {vs : List V} {ds : List D} (n : Nat), RpA c Z vs ds → RpA c Z (vs.drop n) (ds.drop n)
  | _, _, 0, h => h
  | _, _, n + 1, .nil => .nil
  | _, _, n + 1, .cons _ r => RpA.drop n r
theorem RpA.take : ∀ {vs : List V} {ds : List D} (n : Nat), RpA c Z vs ds → RpA c Z (vs.take n) (ds.take n)
  | _, _, 0, _ => .nil
  | _, _, n + 1, .nil => .nil
  | _, _, n + 1, .cons h r => .cons h (RpA.take n r)
theorem RpA.set : ∀ {vs : List V} {ds : List D} (n : Nat) {v : V} {d : D}, RpA c Z vs ds → Rp c Z v d → RpA c Z (vs.set n v) (ds.set n d)
  | _, _, _, _, _, .nil, _ => .nil
  | _, _, 0, _, _, .cons h r, q => .cons q r
  | _, _, n + 1, _, _, .cons h r, q => .cons h (RpA.set n r q)
end
/-- the draws' object: two numbers, none below 0 -/
def StOk (s : Addr) (H : Hp) : Prop := ∃ i j : Int, H s = some (.lst [.int i, .int j]) ∧ 0 ≤ i ∧ 0 ≤ j
/-- the trees stand in the heap, apart from the draws' object -/
structure Bs (s : Addr) (Z H : Hp) : Prop where
  zh : Same Z H
  st : StOk s H
  zs : Z s = none
/-- from (Z, H) to (Z', H'): trees are added at new places, all else stands but the draws' object -/
structure Stp (s : Addr) (Z H Z' H' : Hp) : Prop where
  zz : Same Z Z'
  bs : Bs s Z' H'
  nw : ∀ a o, Z' a = some o → Z a = some o ∨ H a = none
  hh : ∀ a o, H a = some o → a ≠ s → H' a = some o
section
variable {s : Addr} {Z H Z' H' Z2 H2 : Hp}
theorem StOk.ne {p : Addr} (h : StOk s H) (e : H p = none) : s ≠ p := fun z => by
  obtain ⟨_, _, h, _⟩ := h
  rw [z, e] at h
  cases h
theorem Stp.refl (h : Bs s Z H) : Stp s Z H Z H := ⟨Same.refl _, h, fun _ _ e => .inl e, fun _ _ e _ => e⟩
theorem Stp.free {a : Addr} (h : Stp s Z H Z' H') (st : StOk s H) (e : H' a = none) : H a = none := by
  cases q : H a with
  | none => rfl
  | some o =>
    by_cases z : a = s
    · obtain ⟨i, j, h1, _⟩ := h.bs.st
      rw [z, h1] at e
      cases e
    · rw [h.hh a o q z] at e
      cases e
theorem Stp.trans (h : Stp s Z H Z' H') (h2 : Stp s Z' H' Z2 H2) (b : StOk s H) : Stp s Z H Z2 H2 :=
  ⟨h.zz.trans h2.zz, h2.bs, fun a o e => by
    rcases h2.nw a o e with e1 | e1
    · exact h.nw a o e1
    · exact .inr (h.free b e1), fun a o e n => h2.hh a o (h.hh a o e n) n⟩
/-- a new tree -/
theorem Stp.add {p : Addr} {o : HO} (h : Bs s Z H) (n : H p = none) : Stp s Z H (upd Z p o) (upd H p o) := by
  have zn : Z p = none := h.zh.free n
  have ne : s ≠ p := h.st.ne n
  refine ⟨fun a u e => by rw [upd_ne (ne_of_none e zn)]; exact e, ⟨fun a u e => ?_, ?_, by rw [upd_ne ne]; exact h.zs⟩, fun a u e => ?_, fun a u e _ => by rw [upd_ne (ne_of_none e n)]; exact e⟩
  · by_cases z : a = p
    · subst z
      rw [upd_same] at e ⊢
      exact e
    · rw [upd_ne z] at e ⊢
      exact h.zh a u e
  · obtain ⟨i, j, h1, h2, h3⟩ := h.st
    exact ⟨i, j, by rw [upd_ne ne]; exact h1, h2, h3⟩
  · by_cases z : a = p
    · subst z
      exact .inr n
    · rw [upd_ne z] at e
      exact .inl e
/-- a new object that is not yet a tree -/
theorem Stp.own {p : Addr} {o : HO} (h : Bs s Z H) (n : H p = none) : Stp s Z H Z (upd H p o) := by
  have ne : s ≠ p := h.st.ne n
  refine ⟨Same.refl _, ⟨fun a u e => by rw [upd_ne (ne_of_none (h.zh a u e) n)]; exact h.zh a u e, ?_, h.zs⟩, fun a u e => .inl e, fun a u e _ => by rw [upd_ne (ne_of_none e n)]; exact e⟩
  obtain ⟨i, j, h1, h2, h3⟩ := h.st
  exact ⟨i, j, by rw [upd_ne ne]; exact h1, h2, h3⟩
end
/-- what a name holds: nothing that is known, a tree, a list or a dict of this def's own that may still change -/
inductive Sl where
  | un | val (d : D) | ol (ds : List D) | od (kvs : List (Key × D))
abbrev En := List Sl
def SlOk (c : Wc) (Z H : Hp) : Sl → Option V → Prop
  | .un, _ => True
  | .val d, o => ∃ v, o = some v ∧ Rp c Z v d
  | .ol ds, o => ∃ a vs, o = some (.ref a) ∧ H a = some (.lst vs) ∧ RpA c Z vs ds
  | .od ds, o => ∃ a vs, o = some (.ref a) ∧ H a = some (.dK vs) ∧ RpK c Z vs ds
def Sl.own : Sl → Bool
  | .ol _ => true
  | .od _ => true
  | _ => false
/-- an error: its class by name, its fields where it has any -/
structure Exn where
  cls : Str
  fs : Option (List (Str × D))
def ExR (c : Wc) (Z H : Hp) (ex : Exn) (cls : Value) (od : Option Addr) : Prop :=
  ∃ C : Addr, c.mg ex.cls = some (.ref C) ∧ cls = .ref C ∧ match ex.fs with
    | none => od = none
    | some ds => ∃ d fs, od = some d ∧ Z d = some (.xd fs) ∧ RpF c Z fs ds
/-- the wishes: where the draws' object stands, what is wished of errors (of trees, of the hand layer) -/
structure Cc where
  s : Addr
  xd : Exn → Prop
  xk : XK
abbrev wc (X : Cx) (s : Addr) : Wc := ⟨X.K, X.mg, s⟩
structure Rt where
  Z0 : Hp
  H0 : Hp
  Zl : Hp
structure Ok (c : Wc) (k : Cc) (r : Rt) (Z H : Hp) (σ : St) (ρ : En) : Prop where
  en : Stp c.s r.Z0 r.H0 Z H
  s0 : StOk c.s r.H0
  lb : Same r.Zl Z
  sl : ∀ (i : Nat) (t : Sl), ρ[i]? = some t → ∃ o, σ[i]? = some o ∧ SlOk c Z H t o
  ow : ∀ (i : Nat) (t : Sl) (a : Addr), ρ[i]? = some t → t.own = true → σ[i]? = some (some (.ref a)) → Z a = none ∧ r.H0 a = none ∧ a ≠ c.s
  ds : ∀ (i j : Nat) (t u : Sl) (a : Addr), i ≠ j → ρ[i]? = some t → ρ[j]? = some u → t.own = true → u.own = true → σ[i]? = some (some (.ref a)) → σ[j]? ≠ some (some (.ref a))
  lk : ∀ (Z H : Hp) (ex : Exn) (cls : Value) (od : Option Addr), Stp c.s r.Z0 r.H0 Z H → ExR c Z H ex cls od → k.xd ex → k.xk cls od H
section
variable {c : Wc} {k : Cc} {r : Rt} {Z H Z' H' : Hp} {σ : St} {ρ : En}
theorem SlOk.own {t : Sl} {o : Option V} (h : SlOk c Z H t o) (ho : t.own = true) : ∃ a u, o = some (.ref a) ∧ H a = some u := by
  cases t with
  | un => cases ho
  | val d => cases ho
  | ol ds =>
    obtain ⟨a, vs, h1, h2, _⟩ := h
    exact ⟨a, _, h1, h2⟩
  | od ds =>
    obtain ⟨a, vs, h1, h2, _⟩ := h
    exact ⟨a, _, h1, h2⟩
theorem Ok.bs (h : Ok c k r Z H σ ρ) : Bs c.s Z H := h.en.bs
theorem SlOk.stp {t : Sl} {o : Option V} (h : SlOk c Z H t o) (e : Stp c.s Z H Z' H') (n : t.own = true → ∀ a, o = some (.ref a) → a ≠ c.s) : SlOk c Z' H' t o := by
  cases t with
  | un => trivial
  | val d =>
    obtain ⟨v, h1, h2⟩ := h
    exact ⟨v, h1, h2.mono e.zz⟩
  | ol ds =>
    obtain ⟨a, vs, h1, h2, h3⟩ := h
    exact ⟨a, vs, h1, e.hh _ _ h2 (n rfl a h1), h3.mono e.zz⟩
  | od ds =>
    obtain ⟨a, vs, h1, h2, h3⟩ := h
    exact ⟨a, vs, h1, e.hh _ _ h2 (n rfl a h1), h3.mono e.zz⟩
theorem Ok.stp (h : Ok c k r Z H σ ρ) (e : Stp c.s Z H Z' H') : Ok c k r Z' H' σ ρ := by
  refine ⟨h.en.trans e h.s0, h.s0, h.lb.trans e.zz, fun i t ht => ?_, fun i t a ht ho ha => ?_, h.ds, h.lk⟩
  · obtain ⟨o, h1, h2⟩ := h.sl i t ht
    exact ⟨o, h1, h2.stp e fun hw a ea => (h.ow i t a ht hw (by rw [h1, ea])).2.2⟩
  · obtain ⟨q1, q2, q3⟩ := h.ow i t a ht ho ha
    refine ⟨?_, q2, q3⟩
    obtain ⟨o, h1, h2⟩ := h.sl i t ht
    obtain ⟨b, u, h3, h4⟩ := h2.own ho
    rw [h1, h3] at ha
    cases ha
    cases z : Z' a with
    | none => rfl
    | some w =>
      rcases e.nw a w z with z1 | z1
      · rw [q1] at z1
        cases z1
      · rw [h4] at z1
        cases z1
/-- a name is given a tree -/
theorem Ok.set {i : Nat} {v : V} {d : D} (h : Ok c k r Z H σ ρ) (hv : Rp c Z v d) : Ok c k r Z H (σ.set i (some v)) (ρ.set i (.val d)) := by
  refine ⟨h.en, h.s0, h.lb, fun j t ht => ?_, fun j t a ht ho ha => ?_, fun j l t u a hjl ht hu ho ho' ha => ?_, h.lk⟩
  · by_cases hj : i = j
    · subst hj
      rw [List.getElem?_set] at ht
      rw [if_pos rfl] at ht
      split at ht
      · rename_i hl
        cases ht
        obtain ⟨o, h1, _⟩ := h.sl i _ (List.getElem?_eq_getElem hl)
        have hl2 : i < σ.length := (List.getElem?_eq_some_iff.mp h1).1
        refine ⟨some v, by rw [List.getElem?_set_self hl2], v, rfl, hv⟩
      · cases ht
    · rw [List.getElem?_set_ne hj] at ht ⊢
      exact h.sl j t ht
  · by_cases hj : i = j
    · subst hj
      rw [List.getElem?_set, if_pos rfl] at ht
      split at ht
      · cases ht
        cases ho
      · cases ht
    · rw [List.getElem?_set_ne hj] at ht ha
      exact h.ow j t a ht ho ha
  · have hj : i ≠ j := fun e => by
      subst e
      rw [List.getElem?_set, if_pos rfl] at ht
      split at ht
      · cases ht
        cases ho
      · cases ht
    have hl : i ≠ l := fun e => by
      subst e
      rw [List.getElem?_set, if_pos rfl] at hu
      split at hu
      · cases hu
        cases ho'
      · cases hu
    rw [List.getElem?_set_ne hj] at ht ha
    rw [List.getElem?_set_ne hl] at hu ⊢
    exact h.ds j l t u a hjl ht hu ho ho' ha
end
/-! ### judgements -/
abbrev WE := En → (D → Prop) → Prop
abbrev WA := En → (List D → Prop) → Prop
abbrev WT := En → (Bool → Prop) → Prop
structure DEnds where
  nx : En → Prop
  rt : D → Prop
  bk : En → Prop := fun _ => False
  ct : En → Prop := fun _ => False
abbrev WS := DEnds → En → Prop
def DE (X : Cx) (k : Cc) (e : Expr) (w : WE) : Prop := ∃ t, PE X e t ∧ ∀ (r : Rt) (Z H : Hp) (σ : St) (ρ : En) (Qd : D → Prop) (Q : VK), Ok (wc X k.s) k r Z H σ ρ → w ρ Qd →
  (∀ d v Z' H', Stp k.s Z H Z' H' → Rp (wc X k.s) Z' v d → Qd d → Q v H') → t σ H Q
def DA (X : Cx) (k : Cc) (es : List Expr) (w : WA) : Prop := ∃ t, PA X es t ∧ ∀ (r : Rt) (Z H : Hp) (σ : St) (ρ : En) (Qd : List D → Prop) (Q : List V → Hp → Prop), Ok (wc X k.s) k r Z H σ ρ → w ρ Qd →
  (∀ d v Z' H', Stp k.s Z H Z' H' → RpA (wc X k.s) Z' v d → Qd d → Q v H') → t σ H Q
def DT (X : Cx) (k : Cc) (e : Expr) (w : WT) : Prop := ∃ t, PT X e t ∧ ∀ (r : Rt) (Z H : Hp) (σ : St) (ρ : En) (Qd : Bool → Prop) (Q : Bool → Hp → Prop), Ok (wc X k.s) k r Z H σ ρ → w ρ Qd →
  (∀ b Z' H', Stp k.s Z H Z' H' → Qd b → Q b H') → t σ H Q
def DW (X : Cx) (k : Cc) (e : Expr) (w : WT) : Prop := ∃ t, PW X e t ∧ ∀ (r : Rt) (Z H : Hp) (σ : St) (ρ : En) (Qd : Bool → Prop) (Q : Bool → Hp → Prop), Ok (wc X k.s) k r Z H σ ρ → w ρ Qd →
  (∀ b Z' H', Stp k.s Z H Z' H' → Qd b → Q b H') → t σ H Q
structure Lk (c : Wc) (k : Cc) (r : Rt) (d : DEnds) (D : Ends) : Prop where
  nx : ∀ Z H σ ρ, Ok c k r Z H σ ρ → d.nx ρ → D.nx σ H
  rt : ∀ Z H v x, Stp c.s r.Z0 r.H0 Z H → Same r.Zl Z → Rp c Z v x → d.rt x → D.rt v H
  bk : ∀ Z H σ ρ, Ok c k r Z H σ ρ → d.bk ρ → D.bk σ H
  ct : ∀ Z H σ ρ, Ok c k r Z H σ ρ → d.ct ρ → D.ct σ H
def DS (X : Cx) (k : Cc) (st : Stmt) (w : WS) : Prop := ∃ t, PS X st t ∧ ∀ (r : Rt) (Z H : Hp) (σ : St) (ρ : En) (d : DEnds) (E : Ends), Ok (wc X k.s) k r Z H σ ρ → Lk (wc X k.s) k r d E → w d ρ → t E σ H
def DB (X : Cx) (k : Cc) (sts : List Stmt) (w : WS) : Prop := ∃ t, PSs X sts t ∧ ∀ (r : Rt) (Z H : Hp) (σ : St) (ρ : En) (d : DEnds) (E : Ends), Ok (wc X k.s) k r Z H σ ρ → Lk (wc X k.s) k r d E → w d ρ → t E σ H
abbrev WG := D → En → (En → Prop) → Prop
def DG (X : Cx) (k : Cc) (tg : Expr) (us : List Nat) (w : WG) : Prop := ∃ g, PG X tg g ∧ ∀ (r : Rt) (Z H : Hp) (σ : St) (ρ : En) (v : V) (d : D) (Qd : En → Prop) (Q : St → Hp → Prop), Ok (wc X k.s) k r Z H σ ρ → Rp (wc X k.s) Z v d → w d ρ Qd →
  (∀ σ' ρ', Ok (wc X k.s) k r Z H σ' ρ' → (∀ vs, (∀ i ∈ us, i ∈ vs) → wipe σ' vs = wipe σ vs) → Qd ρ' → Q σ' H) → g v σ H Q
abbrev WGs := List D → En → (En → Prop) → Prop
def DGs (X : Cx) (k : Cc) (tgs : List Expr) (us : List Nat) (w : WGs) : Prop := ∃ g, PGs X tgs g ∧ ∀ (r : Rt) (Z H : Hp) (σ : St) (ρ : En) (vs : List V) (ds : List D) (Qd : En → Prop) (Q : St → Hp → Prop), Ok (wc X k.s) k r Z H σ ρ → RpA (wc X k.s) Z vs ds → w ds ρ Qd →
  (∀ σ' ρ', Ok (wc X k.s) k r Z H σ' ρ' → (∀ vs, (∀ i ∈ us, i ∈ vs) → wipe σ' vs = wipe σ vs) → Qd ρ' → Q σ' H) → g vs σ H Q
/-- an operation of two values, of trees -/
abbrev R2D := D → D → (D → Prop) → Prop
def Op2 (X : Cx) (k : Cc) (r : R2) (rd : R2D) : Prop := ∀ (Z H : Hp) (x y : V) (a b : D) (Qd : D → Prop) (Q : VK), Bs k.s Z H → Rp (wc X k.s) Z x a → Rp (wc X k.s) Z y b → rd a b Qd →
  (∀ d v Z' H', Stp k.s Z H Z' H' → Rp (wc X k.s) Z' v d → Qd d → Q v H') → r x y H Q
abbrev R1D := D → (D → Prop) → Prop
def Op1 (X : Cx) (k : Cc) (r : V → Hp → VK → Prop) (rd : R1D) : Prop := ∀ (Z H : Hp) (x : V) (a : D) (Qd : D → Prop) (Q : VK), Bs k.s Z H → Rp (wc X k.s) Z x a → rd a Qd →
  (∀ d v Z' H', Stp k.s Z H Z' H' → Rp (wc X k.s) Z' v d → Qd d → Q v H') → r x H Q
abbrev RAD := List D → (D → Prop) → Prop
def OpA (X : Cx) (k : Cc) (r : List V → Hp → VK → Prop) (rd : RAD) : Prop := ∀ (Z H : Hp) (xs : List V) (ds : List D) (Qd : D → Prop) (Q : VK), Bs k.s Z H → RpA (wc X k.s) Z xs ds → rd ds Qd →
  (∀ d v Z' H', Stp k.s Z H Z' H' → Rp (wc X k.s) Z' v d → Qd d → Q v H') → r xs H Q
/-! ### expressions -/
section
variable {X : Cx} {k : Cc} {a b e : Expr} {es : List Expr} {wa wb w : WE} {pos : Pos}
def Sl.V (t : Option Sl) (Q : D → Prop) : Prop := match t with
  | some (.val d) => Q d
  | _ => False
theorem Sl.V_ex {t : Option Sl} {Q : D → Prop} (h : Sl.V t Q) : ∃ d, t = some (.val d) ∧ Q d := by
  cases t with
  | none => exact h.elim
  | some t => cases t <;> first | exact ⟨_, rfl, h⟩ | exact h.elim
def wVar (i : Nat) : WE := fun ρ Q => Sl.V ρ[i]? Q
theorem de_var {i : Nat} {x : Str} (hN : X.N[i]? = some x := by rfl) (hv : Vis X.env.scope x := by first | exact Or.inl rfl | exact Or.inr (Or.inl rfl) | exact Or.inr (Or.inr rfl)) (hd : (x == ("__debug__" : Str)) = false := by decide)
    (hcd : (x == ("__classdict__" : Str)) = false := by decide) : DE X k (.Name x pos) (wVar i) := by
  refine ⟨_, pe_var hN hv hd hcd, fun r Z H σ ρ Qd Q O h q => ?_⟩
  obtain ⟨d, h1, h2⟩ := Sl.V_ex h
  obtain ⟨o, h3, v, rfl, h4⟩ := O.sl i _ h1
  exact ⟨v, h3, q d v Z H (.refl O.bs) h4 h2⟩
def wC (d : D) : WE := fun _ Q => Q d
theorem de_int {i : Int} {j : Nat} : DE X k (.Constant (.int i) j pos) (wC (.int i)) := ⟨_, pe_int, fun r Z H σ ρ Qd Q O h q => q _ _ Z H (.refl O.bs) (.int i) h⟩
theorem de_str {x : Str} {j : Nat} : DE X k (.Constant (.str x) j pos) (wC (.str x)) := ⟨_, pe_str, fun r Z H σ ρ Qd Q O h q => q _ _ Z H (.refl O.bs) (.str x) h⟩
theorem de_bl {x : Bool} {j : Nat} : DE X k (.Constant (.bool x) j pos) (wC (.bl x)) := ⟨_, pe_bl, fun r Z H σ ρ Qd Q O h q => q _ _ Z H (.refl O.bs) (.bl x) h⟩
theorem de_non {j : Nat} : DE X k (.Constant .none j pos) (wC .non) := ⟨_, pe_non, fun r Z H σ ρ Qd Q O h q => q _ _ Z H (.refl O.bs) .non h⟩
/-- a module's constant -/
theorem de_glob {x : Str} {v : V} {d : D} {u : Value} (hm : X.mg x = some u) (r : RelV v u) (hd : ∀ Z, Rp (wc X k.s) Z v d) (hg : Gl X x := by rfl) (hdb : (x == ("__debug__" : Str)) = false := by decide) : DE X k (.Name x pos) (wC d) :=
  ⟨_, pe_glob hg hm r hdb, fun _ Z H σ ρ Qd Q O h q => q _ _ Z H (.refl O.bs) (hd Z) h⟩
theorem de_imp {w' : WE} (h : DE X k e w) (hw : ∀ ρ Q, w' ρ Q → w ρ Q) : DE X k e w' := by
  obtain ⟨t, p, f⟩ := h
  exact ⟨t, p, fun r Z H σ ρ Qd Q O h q => f r Z H σ ρ Qd Q O (hw _ _ h) q⟩
def wOp (rd : R2D) (wa wb : WE) : WE := fun ρ Q => wa ρ fun x => wb ρ fun y => rd x y Q
theorem op_core {r : R2} {rd : R2D} {ta tb : TE} (o : Op2 X k r rd)
    (ha : ∀ (r : Rt) (Z H : Hp) (σ : St) (ρ : En) (Qd : D → Prop) (Q : VK), Ok (wc X k.s) k r Z H σ ρ → wa ρ Qd → (∀ d v Z' H', Stp k.s Z H Z' H' → Rp (wc X k.s) Z' v d → Qd d → Q v H') → ta σ H Q)
    (hb : ∀ (r : Rt) (Z H : Hp) (σ : St) (ρ : En) (Qd : D → Prop) (Q : VK), Ok (wc X k.s) k r Z H σ ρ → wb ρ Qd → (∀ d v Z' H', Stp k.s Z H Z' H' → Rp (wc X k.s) Z' v d → Qd d → Q v H') → tb σ H Q) :
    ∀ (r' : Rt) (Z H : Hp) (σ : St) (ρ : En) (Qd : D → Prop) (Q : VK), Ok (wc X k.s) k r' Z H σ ρ → wOp rd wa wb ρ Qd → (∀ d v Z' H', Stp k.s Z H Z' H' → Rp (wc X k.s) Z' v d → Qd d → Q v H') → tOp r ta tb σ H Q := by
  intro r' Z H σ ρ Qd Q O h q
  refine ha r' Z H σ ρ _ _ O h fun x v Z1 H1 s1 r1 h1 => ?_
  refine hb r' Z1 H1 σ ρ _ _ (O.stp s1) h1 fun y u Z2 H2 s2 r2 h2 => ?_
  exact o Z2 H2 v u x y Qd Q s2.bs (r1.mono s2.zz) r2 h2 fun d w Z3 H3 s3 r3 h3 => q d w Z3 H3 ((s1.trans s2 O.bs.st).trans s3 O.bs.st) r3 h3
theorem de_op {op : Operator} {r : R2} {rd : R2D} (ho : OpR X (binaryOp op) r) (o : Op2 X k r rd) (ha : DE X k a wa) (hb : DE X k b wb) : DE X k (.BinOp a op b pos) (wOp rd wa wb) := by
  obtain ⟨ta, pa, fa⟩ := ha
  obtain ⟨tb, pb, fb⟩ := hb
  exact ⟨_, pe_op ho pa pb, op_core o fa fb⟩
theorem de_cmp {op : CmpOp} {r : R2} {rd : R2D} (ho : OpR X (compareOp op) r) (o : Op2 X k r rd) (ha : DE X k a wa) (hb : DE X k b wb) (hm : behindInMarks op b = false := by first | exact nobehind _ (by decide) (by decide) | rfl) : DE X k (.Compare a [op] [b] pos) (wOp rd wa wb) := by
  obtain ⟨ta, pa, fa⟩ := ha
  obtain ⟨tb, pb, fb⟩ := hb
  exact ⟨_, pe_cmpR ho pa pb hm, op_core o fa fb⟩
/-- a bool as a test's answer -/
def wB (w : WE) : WT := fun ρ Q => w ρ fun d => d.B Q
theorem dt_cmp {op : CmpOp} {r : R2} {rd : R2D} (ho : OpR X (compareOp op) r) (o : Op2 X k r rd) (ha : DE X k a wa) (hb : DE X k b wb) (hm : behindInMarks op b = false := by first | exact nobehind _ (by decide) (by decide) | rfl) : DT X k (.Compare a [op] [b] pos) (wB (wOp rd wa wb)) := by
  obtain ⟨ta, pa, fa⟩ := ha
  obtain ⟨tb, pb, fb⟩ := hb
  refine ⟨_, pt_cmpR ho pa pb hm, fun r Z H σ ρ Qd Q O h q => ?_⟩
  refine op_core o fa fb r Z H σ ρ _ _ O h fun d v Z1 H1 s1 r1 h1 => ?_
  obtain ⟨c, e0, g0⟩ := D.B_ex h1
  clear h1
  have h1 := g0
  clear g0
  subst e0
  cases r1
  exact ⟨c, rfl, q c Z1 H1 s1 h1⟩
/-- an expression whose value is a bool, as a test -/
theorem dt_val (h : DE X k e w) (he : ∀ whole, isTrue e X.env whole = (do let v ← whole; standAt e.pos; holding [v] (truthy v)) := by intro _; rfl) : DT X k e (wB w) := by
  obtain ⟨t, p, f⟩ := h
  refine ⟨_, pt_val p he, fun r Z H σ ρ Qd Q O h q => ?_⟩
  refine f r Z H σ ρ _ _ O h fun d v Z1 H1 s1 r1 h1 => ?_
  obtain ⟨c, e0, g0⟩ := D.B_ex h1
  clear h1
  have h1 := g0
  clear g0
  subst e0
  cases r1
  exact ⟨c, rfl, q c Z1 H1 s1 h1⟩
def wNotT (w : WT) : WT := fun ρ Q => w ρ fun b => Q (!b)
theorem dt_not {w : WT} (h : DT X k e w) : DT X k (.UnaryOp .Not e pos) (wNotT w) := by
  obtain ⟨t, p, f⟩ := h
  exact ⟨_, pt_not p, fun r Z H σ ρ Qd Q O h q => f r Z H σ ρ _ _ O h fun b Z1 H1 s1 h1 => q _ Z1 H1 s1 h1⟩
def wAndT (w u : WT) : WT := fun ρ Q => w ρ fun b => if b = true then u ρ Q else Q false
def wOrT (w u : WT) : WT := fun ρ Q => w ρ fun b => if b = true then Q true else u ρ Q
theorem dw_and1 {w : WT} (h : DT X k a w) : DW X k (.BoolOp .And [a] pos) w := by
  obtain ⟨t, p, f⟩ := h
  exact ⟨_, pw_and1 p, f⟩
theorem dw_or1 {w : WT} (h : DT X k a w) : DW X k (.BoolOp .Or [a] pos) w := by
  obtain ⟨t, p, f⟩ := h
  exact ⟨_, pw_or1 p, f⟩
theorem dw_and {w u : WT} (h : DT X k a w) (h2 : DW X k (.BoolOp .And (b :: es) pos) u) : DW X k (.BoolOp .And (a :: b :: es) pos) (wAndT w u) := by
  obtain ⟨t, p, f⟩ := h
  obtain ⟨t2, p2, f2⟩ := h2
  refine ⟨_, pw_and p p2, fun r Z H σ ρ Qd Q O h q => ?_⟩
  refine f r Z H σ ρ _ _ O h fun b Z1 H1 s1 h1 => ?_
  cases b with
  | true => exact iteT (f2 r Z1 H1 σ ρ Qd Q (O.stp s1) (by simpa using h1) fun c Z2 H2 s2 h2 => q c Z2 H2 (s1.trans s2 O.bs.st) h2)
  | false => exact iteF (q false Z1 H1 s1 (by simpa using h1))
theorem dw_or {w u : WT} (h : DT X k a w) (h2 : DW X k (.BoolOp .Or (b :: es) pos) u) : DW X k (.BoolOp .Or (a :: b :: es) pos) (wOrT w u) := by
  obtain ⟨t, p, f⟩ := h
  obtain ⟨t2, p2, f2⟩ := h2
  refine ⟨_, pw_or p p2, fun r Z H σ ρ Qd Q O h q => ?_⟩
  refine f r Z H σ ρ _ _ O h fun b Z1 H1 s1 h1 => ?_
  cases b with
  | false => exact iteF (f2 r Z1 H1 σ ρ Qd Q (O.stp s1) (by simpa using h1) fun c Z2 H2 s2 h2 => q c Z2 H2 (s1.trans s2 O.bs.st) h2)
  | true => exact iteT (q true Z1 H1 s1 (by simpa using h1))
theorem dt_w {w : WT} (h : DW X k e w) : DT X k e w := by
  obtain ⟨t, p, f⟩ := h
  exact ⟨t, p.pt, f⟩
/-- and, or, not of bools as values -/
def wAndV (wa wb : WE) : WE := fun ρ Q => wa ρ fun x => x.B fun b => if b = true then wb ρ Q else Q (.bl false)
def wOrV (wa wb : WE) : WE := fun ρ Q => wa ρ fun x => x.B fun b => if b = true then Q (.bl true) else wb ρ Q
def wNotV (wa : WE) : WE := fun ρ Q => wa ρ fun x => x.B fun b => Q (.bl (!b))
theorem de_one {op : BoolOp} (h : DE X k a wa) : DE X k (.BoolOp op [a] pos) wa := by
  obtain ⟨t, p, f⟩ := h
  exact ⟨t, pe_one p, f⟩
theorem de_and (h : DE X k a wa) (h2 : DE X k (.BoolOp .And (b :: es) pos) wb) : DE X k (.BoolOp .And (a :: b :: es) pos) (wAndV wa wb) := by
  obtain ⟨t, p, f⟩ := h
  obtain ⟨t2, p2, f2⟩ := h2
  refine ⟨_, pe_and p p2, fun r Z H σ ρ Qd Q O h q => ?_⟩
  refine f r Z H σ ρ _ _ O h fun d v Z1 H1 s1 r1 h1 => ?_
  obtain ⟨c, e0, g0⟩ := D.B_ex h1
  clear h1
  have h1 := g0
  clear g0
  subst e0
  cases r1
  refine ⟨c, rfl, ?_⟩
  cases c with
  | true => exact iteT (f2 r Z1 H1 σ ρ Qd Q (O.stp s1) (by simpa using h1) fun c v Z2 H2 s2 r2 h2 => q c v Z2 H2 (s1.trans s2 O.bs.st) r2 h2)
  | false => exact iteF (q _ _ Z1 H1 s1 (.bl false) (by simpa using h1))
theorem de_or (h : DE X k a wa) (h2 : DE X k (.BoolOp .Or (b :: es) pos) wb) : DE X k (.BoolOp .Or (a :: b :: es) pos) (wOrV wa wb) := by
  obtain ⟨t, p, f⟩ := h
  obtain ⟨t2, p2, f2⟩ := h2
  refine ⟨_, pe_or p p2, fun r Z H σ ρ Qd Q O h q => ?_⟩
  refine f r Z H σ ρ _ _ O h fun d v Z1 H1 s1 r1 h1 => ?_
  obtain ⟨c, e0, g0⟩ := D.B_ex h1
  clear h1
  have h1 := g0
  clear g0
  subst e0
  cases r1
  refine ⟨c, rfl, ?_⟩
  cases c with
  | false => exact iteF (f2 r Z1 H1 σ ρ Qd Q (O.stp s1) (by simpa using h1) fun c v Z2 H2 s2 r2 h2 => q c v Z2 H2 (s1.trans s2 O.bs.st) r2 h2)
  | true => exact iteT (q _ _ Z1 H1 s1 (.bl true) (by simpa using h1))
theorem de_not (h : DE X k a wa) : DE X k (.UnaryOp .Not a pos) (wNotV wa) := by
  obtain ⟨t, p, f⟩ := h
  refine ⟨_, pe_not p, fun r Z H σ ρ Qd Q O h q => ?_⟩
  refine f r Z H σ ρ _ _ O h fun d v Z1 H1 s1 r1 h1 => ?_
  obtain ⟨c, e0, g0⟩ := D.B_ex h1
  clear h1
  have h1 := g0
  clear g0
  subst e0
  cases r1
  exact ⟨c, rfl, q _ _ Z1 H1 s1 (.bl _) h1⟩
def wIfE (w : WT) (wa wb : WE) : WE := fun ρ Q => w ρ fun c => if c = true then wa ρ Q else wb ρ Q
theorem de_if {w : WT} {c : Expr} (h : DT X k c w) (ha : DE X k a wa) (hb : DE X k b wb) : DE X k (.IfExp c a b pos) (wIfE w wa wb) := by
  obtain ⟨t, p, f⟩ := h
  obtain ⟨ta, pa, fa⟩ := ha
  obtain ⟨tb, pb, fb⟩ := hb
  refine ⟨_, pe_ifExp p pa pb, fun r Z H σ ρ Qd Q O h q => ?_⟩
  refine f r Z H σ ρ _ _ O h fun b Z1 H1 s1 h1 => ?_
  cases b with
  | true => exact iteT (fa r Z1 H1 σ ρ Qd Q (O.stp s1) (by simpa using h1) fun c v Z2 H2 s2 r2 h2 => q c v Z2 H2 (s1.trans s2 O.bs.st) r2 h2)
  | false => exact iteF (fb r Z1 H1 σ ρ Qd Q (O.stp s1) (by simpa using h1) fun c v Z2 H2 s2 r2 h2 => q c v Z2 H2 (s1.trans s2 O.bs.st) r2 h2)
/-- two comparisons in a chain -/
def wChain (rd rd' : R2D) (wa wb wc : WE) : WE := fun ρ Q => wa ρ fun x => wb ρ fun y => rd x y fun z => z.B fun c => if c = true then wc ρ fun u => rd' y u Q else Q (.bl false)
theorem chain_core {r r' : R2} {rd rd' : R2D} {ta tb tc : TE} {wc' : WE} (o : Op2 X k r rd) (o' : Op2 X k r' rd')
    (ha : ∀ (r : Rt) (Z H : Hp) (σ : St) (ρ : En) (Qd : D → Prop) (Q : VK), Ok (wc X k.s) k r Z H σ ρ → wa ρ Qd → (∀ d v Z' H', Stp k.s Z H Z' H' → Rp (wc X k.s) Z' v d → Qd d → Q v H') → ta σ H Q)
    (hb : ∀ (r : Rt) (Z H : Hp) (σ : St) (ρ : En) (Qd : D → Prop) (Q : VK), Ok (wc X k.s) k r Z H σ ρ → wb ρ Qd → (∀ d v Z' H', Stp k.s Z H Z' H' → Rp (wc X k.s) Z' v d → Qd d → Q v H') → tb σ H Q)
    (hc : ∀ (r : Rt) (Z H : Hp) (σ : St) (ρ : En) (Qd : D → Prop) (Q : VK), Ok (wc X k.s) k r Z H σ ρ → wc' ρ Qd → (∀ d v Z' H', Stp k.s Z H Z' H' → Rp (wc X k.s) Z' v d → Qd d → Q v H') → tc σ H Q) :
    ∀ (r0 : Rt) (Z H : Hp) (σ : St) (ρ : En) (Qd : D → Prop) (Q : VK), Ok (wc X k.s) k r0 Z H σ ρ → wChain rd rd' wa wb wc' ρ Qd → (∀ d v Z' H', Stp k.s Z H Z' H' → Rp (wc X k.s) Z' v d → Qd d → Q v H') → tChain r r' ta tb tc σ H Q := by
  intro r0 Z H σ ρ Qd Q O h q
  refine ha r0 Z H σ ρ _ _ O h fun x v Z1 H1 s1 r1 h1 => ?_
  refine hb r0 Z1 H1 σ ρ _ _ (O.stp s1) h1 fun y u Z2 H2 s2 r2 h2 => ?_
  refine o Z2 H2 v u x y _ _ s2.bs (r1.mono s2.zz) r2 h2 fun d w Z3 H3 s3 r3 h3 => ?_
  have s13 := (s1.trans s2 O.bs.st).trans s3 O.bs.st
  obtain ⟨c, e0, g0⟩ := D.B_ex h3
  clear h3
  have h3 := g0
  clear g0
  subst e0
  cases r3
  refine ⟨c, rfl, ?_⟩
  cases c with
  | true =>
    refine iteT (hc r0 Z3 H3 σ ρ _ _ (O.stp s13) (by simpa using h3) fun z w' Z4 H4 s4 r4 h4 => ?_)
    exact o' Z4 H4 u w' y z Qd Q s4.bs (r2.mono (s3.zz.trans s4.zz)) r4 h4 fun d w5 Z5 H5 s5 r5 h5 => q d w5 Z5 H5 ((s13.trans s4 O.bs.st).trans s5 O.bs.st) r5 h5
  | false => exact iteF (q _ _ Z3 H3 s13 (.bl false) (by simpa using h3))
theorem de_chain {op op' : CmpOp} {c : Expr} {r r' : R2} {rd rd' : R2D} {wc' : WE} (ho : OpR X (compareOp op) r) (o : Op2 X k r rd) (ho' : OpR X (compareOp op') r') (o' : Op2 X k r' rd') (ha : DE X k a wa) (hb : DE X k b wb) (hc : DE X k c wc') (hm : lastMarks [op, op'] [b, c] = false := by rfl) :
    DE X k (.Compare a [op, op'] [b, c] pos) (wChain rd rd' wa wb wc') := by
  obtain ⟨ta, pa, fa⟩ := ha
  obtain ⟨tb, pb, fb⟩ := hb
  obtain ⟨tc, pc, fc⟩ := hc
  exact ⟨_, pe_chain ho ho' pa pb pc hm, chain_core o o' fa fb fc⟩
theorem dt_chain {op op' : CmpOp} {c : Expr} {r r' : R2} {rd rd' : R2D} {wc' : WE} (ho : OpR X (compareOp op) r) (o : Op2 X k r rd) (ho' : OpR X (compareOp op') r') (o' : Op2 X k r' rd') (ha : DE X k a wa) (hb : DE X k b wb) (hc : DE X k c wc') (hm : lastMarks [op, op'] [b, c] = false := by rfl) :
    DT X k (.Compare a [op, op'] [b, c] pos) (wB (wChain rd rd' wa wb wc')) := by
  obtain ⟨ta, pa, fa⟩ := ha
  obtain ⟨tb, pb, fb⟩ := hb
  obtain ⟨tc, pc, fc⟩ := hc
  refine ⟨_, pt_chain ho ho' pa pb pc hm, fun r Z H σ ρ Qd Q O h q => ?_⟩
  refine chain_core o o' fa fb fc r Z H σ ρ _ _ O h fun d v Z1 H1 s1 r1 h1 => ?_
  obtain ⟨c, e0, g0⟩ := D.B_ex h1
  clear h1
  have h1 := g0
  clear g0
  subst e0
  cases r1
  exact ⟨c, rfl, q c Z1 H1 s1 h1⟩
/-- argument lists -/
def wNil : WA := fun _ Q => Q []
def wCons (w : WE) (u : WA) : WA := fun ρ Q => w ρ fun x => u ρ fun xs => Q (x :: xs)
theorem da_nil : DA X k [] wNil := ⟨_, pa_nil, fun r Z H σ ρ Qd Q O h q => q [] [] Z H (.refl O.bs) .nil h⟩
theorem da_cons {u : WA} (h : DE X k e w) (h2 : DA X k es u) (hs : starEach (e :: es) X.env = (false, eval e X.env) :: starEach es X.env := by rfl) : DA X k (e :: es) (wCons w u) := by
  obtain ⟨t, p, f⟩ := h
  obtain ⟨t2, p2, f2⟩ := h2
  refine ⟨_, pa_cons p p2 hs, fun r Z H σ ρ Qd Q O h q => ?_⟩
  refine f r Z H σ ρ _ _ O h fun d v Z1 H1 s1 r1 h1 => ?_
  exact f2 r Z1 H1 σ ρ _ _ (O.stp s1) h1 fun ds vs Z2 H2 s2 r2 h2 => q _ _ Z2 H2 (s1.trans s2 O.bs.st) (.cons (r1.mono s2.zz) r2) h2
/-- tuples, lists as they are written; lists are trees from the start -/
def wTup (u : WA) : WE := fun ρ Q => u ρ fun xs => xs.length ≤ 100000 ∧ Q (.tup xs)
def wLst (u : WA) : WE := fun ρ Q => u ρ fun xs => xs.length ≤ 100000 ∧ Q (.lst xs)
theorem sz {n : Nat} (h : n ≤ 100000) : n ≤ sizeLine := Nat.le_trans h (by decide)
theorem rp_tup {c : Wc} {Z H : Hp} {p : Addr} {vs : List V} {ds : List D} (h : RpA c Z vs ds) (b : Bs c.s Z H) (n : H p = none) : Rp c (upd Z p (.tup vs)) (.ref p) (.tup ds) :=
  .tup (.inl (.inl upd_same)) (h.mono (Stp.add b n).zz)
theorem rp_lst {c : Wc} {Z H : Hp} {p : Addr} {vs : List V} {ds : List D} (h : RpA c Z vs ds) (b : Bs c.s Z H) (n : H p = none) : Rp c (upd Z p (.lst vs)) (.ref p) (.lst ds) :=
  .lst upd_same (h.mono (Stp.add b n).zz)
theorem de_tup {u : WA} {x1 : Nat} (h : DA X k es u) : DE X k (.Tuple es x1 pos) (wTup u) := by
  obtain ⟨t, p, f⟩ := h
  refine ⟨_, pe_tup p, fun r Z H σ ρ Qd Q O h q => ?_⟩
  refine f r Z H σ ρ _ _ O h fun ds vs Z1 H1 s1 r1 h1 => ?_
  refine ⟨by rw [r1.length]; exact sz h1.1, fun p hp => ?_⟩
  exact q _ _ _ _ (s1.trans (.add s1.bs hp) O.bs.st) (rp_tup r1 s1.bs hp) h1.2
theorem de_lst {u : WA} (h : DA X k es u) : DE X k (.List es pos) (wLst u) := by
  obtain ⟨t, p, f⟩ := h
  refine ⟨_, pe_lst p, fun r Z H σ ρ Qd Q O h q => ?_⟩
  refine f r Z H σ ρ _ _ O h fun ds vs Z1 H1 s1 r1 h1 => ?_
  refine ⟨by rw [r1.length]; exact sz h1.1, fun p hp => ?_⟩
  exact q _ _ _ _ (s1.trans (.add s1.bs hp) O.bs.st) (rp_lst r1 s1.bs hp) h1.2
end
end Dl
set_option Elab.async false
set_option linter.all false
set_option maxRecDepth 100000
set_option maxHeartbeats 2000000
namespace Dl
open PySem L2
/-! ### targets -/
section
variable {X : Cx} {k : Cc} {a b e : Expr} {es : List Expr} {wa wb w : WE} {pos : Pos}
def wgName (i : Nat) : WG := fun d ρ Q => Q (ρ.set i (.val d))
theorem wipe_set {σ : St} {i : Nat} {x : Option V} : ∀ {vs : List Nat}, i ∈ vs → wipe (σ.set i x) vs = wipe σ vs
  | [], h => by cases h
  | v :: vs, h => by
    by_cases e : i ∈ vs
    · show (wipe (σ.set i x) vs).set v none = (wipe σ vs).set v none
      rw [wipe_set e]
    · have e2 : i = v := by
        rcases List.mem_cons.mp h with z | z
        · exact z
        · exact absurd z e
      subst e2
      have q : ∀ ws : List Nat, i ∉ ws → wipe (σ.set i x) ws = (wipe σ ws).set i x := by
        intro ws
        induction ws with
        | nil => intro _; rfl
        | cons w ws ih =>
          intro hn
          have h1 : i ≠ w := fun z => hn (by rw [z]; exact List.mem_cons_self)
          have h2 : i ∉ ws := fun z => hn (List.mem_cons_of_mem _ z)
          show (wipe (σ.set i x) ws).set w none = ((wipe σ ws).set w none).set i x
          rw [ih h2, List.set_comm _ _ h1]
      show (wipe (σ.set i x) vs).set i none = (wipe σ vs).set i none
      rw [q vs e, List.set_set]
theorem dg_name {i : Nat} {x : Str} (hN : X.N.Nodup) (hi : X.N[i]? = some x := by rfl) (hx : Loc X.env.scope x := by first | exact Or.inl rfl | exact Or.inr rfl) (hf : X.fn x = true ∨ X.env.scope.names.lookup x = some .local := by first | exact .inl rfl | exact .inr rfl | assumption) : DG X k (.Name x pos) [i] (wgName i) :=
  ⟨_, pg_name hN hi hx hf, fun r Z H σ ρ v d Qd Q O rv h q => q _ _ (O.set rv) (fun vs hv => wipe_set (hv i List.mem_cons_self)) h⟩
def wgNil : WGs := fun ds ρ Q => match ds with
  | [] => Q ρ
  | _ => False
def wgCons (w : WG) (u : WGs) : WGs := fun ds ρ Q => match ds with
  | d :: r => w d ρ fun ρ' => u r ρ' Q
  | [] => False
theorem dgs_nil : DGs X k [] [] wgNil := ⟨_, pgs_nil, fun r Z H σ ρ vs ds Qd Q O rv h q => by
  cases rv with
  | nil => exact ⟨rfl, q _ _ O (fun _ _ => rfl) h⟩
  | cons _ _ => exact h.elim⟩
theorem dgs_cons {w : WG} {u : WGs} {us vs : List Nat} (h1 : DG X k e us w) (h2 : DGs X k es vs u) (hs : (assignEach (e :: es) X.env).map (·.2) = assign e X.env :: (assignEach es X.env).map (·.2) := by rfl) : DGs X k (e :: es) (us ++ vs) (wgCons w u) := by
  obtain ⟨g, p, f⟩ := h1
  obtain ⟨g2, p2, f2⟩ := h2
  refine ⟨_, pgs_cons p p2 hs, fun r Z H σ ρ vs ds Qd Q O rv h q => ?_⟩
  cases rv with
  | nil => exact h.elim
  | cons r1 r2 => exact ⟨_, _, rfl, f r Z H σ ρ _ _ _ _ O r1 h fun σ' ρ' O' w1 h' => f2 r Z H σ' ρ' _ _ _ _ O' r2 h' fun σ2 ρ2 O2 w2 h2 => q σ2 ρ2 O2 (fun vs hv => (w2 vs fun i hi => hv i (List.mem_append_right _ hi)).trans (w1 vs fun i hi => hv i (List.mem_append_left _ hi))) h2⟩
def wgTup (n : Nat) (u : WGs) : WG := fun d ρ Q => d.T fun ds => ds.length = n ∧ u ds ρ Q
theorem dg_tup {kk : Nat} {u : WGs} {n : Nat} {us : List Nat} (hc : X.calm = true) (h : DGs X k es us u) (hn : (assignEach es X.env).length = n := by rfl) (hst : (assignEach es X.env).findIdx? (·.1) = none := by rfl) : DG X k (.Tuple es kk pos) us (wgTup n u) := by
  obtain ⟨g, p, f⟩ := h
  refine ⟨_, pg_tup hc p hn hst, fun r Z H σ ρ v d Qd Q O rv h q => ?_⟩
  obtain ⟨ds, e0, hl, g0⟩ := D.T_ex h
  clear h
  have h := g0
  clear g0
  subst e0
  cases rv with
  | tup hs hr => exact ⟨_, _, rfl, same_t O.bs.zh hs, by rw [hr.length, hl], f r Z H σ ρ _ _ _ _ O hr h q⟩
/-! ### statements -/
variable {st : Stmt} {rest : List Stmt} {u v : WS}
def wNext : WS := fun d ρ => d.nx ρ
theorem db_nil : DB X k [] wNext := ⟨_, pss_nil, fun r Z H σ ρ d E O L h => L.nx Z H σ ρ O h⟩
def wSeq (u v : WS) : WS := fun d ρ => u { d with nx := v d } ρ
theorem db_cons (h : DS X k st u) (h2 : DB X k rest v) : DB X k (st :: rest) (wSeq u v) := by
  obtain ⟨t, p, f⟩ := h
  obtain ⟨t2, p2, f2⟩ := h2
  refine ⟨_, pss_cons p p2, fun r Z H σ ρ d E O L h => ?_⟩
  exact f r Z H σ ρ { d with nx := v d } { E with nx := t2 E } O ⟨fun Z' H' σ' ρ' O' h' => f2 r Z' H' σ' ρ' d E O' L h', L.rt, L.bk, L.ct⟩ h
theorem db_one (h : DS X k st u) : DB X k [st] u := by
  obtain ⟨t, p, f⟩ := h
  exact ⟨_, pss_one p, f⟩
def wSet (i : Nat) (w : WE) : WS := fun d ρ => w ρ fun x => d.nx (ρ.set i (.val x))
theorem ds_set {i : Nat} {x : Str} {pos' : Pos} (hN : X.N.Nodup) (h : DE X k e w) (hi : X.N[i]? = some x := by rfl) (hx : Loc X.env.scope x := by first | exact Or.inl rfl | exact Or.inr rfl) (hs : swapsWith e (some (.Name x pos')) pos.line X.env = pure false := by rfl)
    (hf : X.fn x = true ∨ X.env.scope.names.lookup x = some .local := by first | exact .inl rfl | exact .inr rfl | assumption) : DS X k (.Assign [.Name x pos'] e pos) (wSet i w) := by
  obtain ⟨t, p, f⟩ := h
  refine ⟨_, ps_set hN hi hx p hs hf, fun r Z H σ ρ d E O L h => ?_⟩
  exact f r Z H σ ρ _ _ O h fun x v Z1 H1 s1 r1 h1 => L.nx Z1 H1 _ _ ((O.stp s1).set r1) h1
def wAsg (w : WE) (g : WG) : WS := fun d ρ => w ρ fun x => g x ρ d.nx
theorem ds_asg {tg : Expr} {g : WG} {us : List Nat} (h : DE X k e w) (hg : DG X k tg us g) (hs : swapsWithSole [tg] e pos.line X.env = pure false := by rfl) (hw : swappedStores [tg] e X.env = pure none := by rfl) (h1 : (assignEach [tg] X.env).map (·.2) = [assign tg X.env] := by rfl) : DS X k (.Assign [tg] e pos) (wAsg w g) := by
  obtain ⟨t, p, f⟩ := h
  obtain ⟨g', p', f'⟩ := hg
  refine ⟨_, ps_asg p p' hs hw h1, fun r Z H σ ρ d E O L h => ?_⟩
  exact f r Z H σ ρ _ _ O h fun x v Z1 H1 s1 r1 h1 => f' r Z1 H1 σ ρ v x _ _ (O.stp s1) r1 h1 fun σ' ρ' O' _ h' => L.nx Z1 H1 σ' ρ' O' h'
def wDrop (w : WE) : WS := fun d ρ => w ρ fun _ => d.nx ρ
theorem ds_expr (h : DE X k e w) (hs : swapsWith e none pos.line X.env = pure false := by rfl) : DS X k (.Expr e pos) (wDrop w) := by
  obtain ⟨t, p, f⟩ := h
  refine ⟨_, ps_expr p hs, fun r Z H σ ρ d E O L h => ?_⟩
  exact f r Z H σ ρ _ _ O h fun x v Z1 H1 s1 r1 h1 => L.nx Z1 H1 _ _ (O.stp s1) h1
def wRet (w : WE) : WS := fun d ρ => w ρ d.rt
theorem ds_ret (h : DE X k e w) : DS X k (.Return (some e) pos) (wRet w) := by
  obtain ⟨t, p, f⟩ := h
  refine ⟨_, ps_ret p, fun r Z H σ ρ d E O L h => ?_⟩
  exact f r Z H σ ρ _ _ O h fun x v Z1 H1 s1 r1 h1 => L.rt Z1 H1 v x (O.en.trans s1 O.s0) (O.lb.trans s1.zz) r1 h1
def wRetN : WS := fun d _ => d.rt .non
theorem ds_retN : DS X k (.Return none pos) wRetN := ⟨_, ps_retN, fun r Z H σ ρ d E O L h => L.rt Z H _ _ O.en O.lb .non h⟩
theorem ds_pass : DS X k (.Pass pos) wNext := ⟨_, ps_pass, fun r Z H σ ρ d E O L h => L.nx Z H σ ρ O h⟩
def wBrk : WS := fun d ρ => d.bk ρ
def wCont : WS := fun d ρ => d.ct ρ
theorem ds_break : DS X k (.Break pos) wBrk := ⟨_, ps_break, fun r Z H σ ρ d E O L h => L.bk Z H σ ρ O h⟩
theorem ds_continue : DS X k (.Continue pos) wCont := ⟨_, ps_continue, fun r Z H σ ρ d E O L h => L.ct Z H σ ρ O h⟩
def wIf (w : WT) (u v : WS) : WS := fun d ρ => w ρ fun b => if b = true then u d ρ else v d ρ
theorem ds_if {w : WT} {p q : List Stmt} (h : DT X k e w) (hu : DB X k p u) (hv : DB X k q v) : DS X k (.If e p q pos) (wIf w u v) := by
  obtain ⟨t, p, f⟩ := h
  obtain ⟨t1, p1, f1⟩ := hu
  obtain ⟨t2, p2, f2⟩ := hv
  refine ⟨_, ps_if p p1 p2, fun r Z H σ ρ d E O L h => ?_⟩
  refine f r Z H σ ρ _ _ O h fun b Z1 H1 s1 h1 => ?_
  cases b with
  | true => exact iteT (f1 r Z1 H1 σ ρ d E (O.stp s1) L (by simpa using h1))
  | false => exact iteF (f2 r Z1 H1 σ ρ d E (O.stp s1) L (by simpa using h1))
theorem ds_imp {u' : WS} (h : DS X k st u) (hu : ∀ d ρ, u' d ρ → u d ρ) : DS X k st u' := by
  obtain ⟨t, p, f⟩ := h
  exact ⟨t, p, fun r Z H σ ρ d E O L h => f r Z H σ ρ d E O L (hu _ _ h)⟩
theorem db_imp {u' : WS} (h : DB X k rest u) (hu : ∀ d ρ, u' d ρ → u d ρ) : DB X k rest u' := by
  obtain ⟨t, p, f⟩ := h
  exact ⟨t, p, fun r Z H σ ρ d E O L h => f r Z H σ ρ d E O L (hu _ _ h)⟩
/-! ### what is walked -/
/-- the turns of an iterator give the trees ds -/
def ItD (c : Wc) (Z : Hp) (J : It) (ds : List D) : Prop := ∀ Z2 H2, Same Z Z2 → Bs c.s Z2 H2 → (∀ i, i < ds.length → J.go i H2) ∧ (∀ i, ds.length ≤ i → J.stop i H2) ∧
  ∀ i x H', J.yld i H2 x H' → i < ds.length → ∃ d Z3, ds[i]? = some d ∧ Stp c.s Z2 H2 Z3 H' ∧ Rp c Z3 x d
def DI (X : Cx) (k : Cc) (tg it : Expr) (w : WA) : Prop := ∃ wi, PI X tg it wi ∧ ∀ (r : Rt) (Z H : Hp) (σ : St) (ρ : En) (Qd : List D → Prop) (R : It → Hp → Prop), Ok (wc X k.s) k r Z H σ ρ → w ρ Qd →
  (∀ ds Z' H' J, Stp k.s Z H Z' H' → ItD (wc X k.s) Z' J ds → Qd ds → R J H') → wi σ H R
theorem itd_list {c : Wc} {Z : Hp} {a : Addr} {xs : List V} {ds : List D} (h : Z a = some (.lst xs)) (hr : RpA c Z xs ds) : ItD c Z (Itl c.K a) ds := by
  intro Z2 H2 e b
  have h2 : SqL c.K H2 a xs := .inl (.inl (b.zh _ _ (e _ _ h)))
  refine ⟨fun i hi => ?_, fun i hi => ⟨xs, h2, by rw [hr.length]; exact hi⟩, fun i x H' y hi => ?_⟩
  · rw [← hr.length] at hi
    exact ⟨xs, xs[i], h2, List.getElem?_eq_getElem hi⟩
  · obtain ⟨rfl, y⟩ := y
    obtain ⟨d, h3, h4⟩ := hr.getV i (y xs h2)
    exact ⟨d, Z2, h3, .refl b, h4.mono e⟩
theorem itd_tup {c : Wc} {Z : Hp} {a : Addr} {xs : List V} {ds : List D} (h : SqT c.K Z a xs) (hr : RpA c Z xs ds) : ItD c Z (Itt c.K a) ds := by
  intro Z2 H2 e b
  have h2 : SqT c.K H2 a xs := same_t b.zh (same_t e h)
  refine ⟨fun i hi => ?_, fun i hi => ⟨xs, h2, by rw [hr.length]; exact hi⟩, fun i x H' y hi => ?_⟩
  · rw [← hr.length] at hi
    exact ⟨xs, xs[i], h2, List.getElem?_eq_getElem hi⟩
  · obtain ⟨rfl, y⟩ := y
    obtain ⟨d, h3, h4⟩ := hr.getV i (y xs h2)
    exact ⟨d, Z2, h3, .refl b, h4.mono e⟩
/-- a list, a tuple that is a tree -/
def wiL (w : WE) : WA := fun ρ Q => w ρ fun d => d.L Q
def wiT (w : WE) : WA := fun ρ Q => w ρ fun d => d.T Q
theorem di_list {tg : Expr} (h : DE X k e w) : DI X k tg e (wiL w) := by
  obtain ⟨t, p, f⟩ := h
  refine ⟨_, pi_list p, fun r Z H σ ρ Qd R O h q => ?_⟩
  refine f r Z H σ ρ _ _ O h fun d v Z1 H1 s1 r1 h1 => ?_
  obtain ⟨ds, e0, g0⟩ := D.L_ex h1
  clear h1
  have h1 := g0
  clear g0
  subst e0
  cases r1 with
  | lst hs hr => exact ⟨_, rfl, ⟨_, .inl (.inl (s1.bs.zh _ _ hs))⟩, q ds Z1 H1 _ s1 (itd_list hs hr) h1⟩
theorem di_tup {tg : Expr} (h : DE X k e w) : DI X k tg e (wiT w) := by
  obtain ⟨t, p, f⟩ := h
  refine ⟨_, pi_tup p, fun r Z H σ ρ Qd R O h q => ?_⟩
  refine f r Z H σ ρ _ _ O h fun d v Z1 H1 s1 r1 h1 => ?_
  obtain ⟨ds, e0, g0⟩ := D.T_ex h1
  clear h1
  have h1 := g0
  clear g0
  subst e0
  cases r1 with
  | tup hs hr => exact ⟨_, rfl, ⟨_, same_t s1.bs.zh hs⟩, q ds Z1 H1 _ s1 (itd_tup hs hr) h1⟩
/-- range(n) -/
def rngD (n : Int) : List D := (List.range n.toNat).map fun i => .int (i : Nat)
def wiR (w : WE) : WA := fun ρ Q => w ρ fun d => d.I fun n => (-1000000 ≤ n ∧ n ≤ 1000000) ∧ Q (rngD n)
theorem itd_range {c : Wc} (Z : Hp) (n : Int) : ItD c Z (Itr 0 n.toNat) (rngD n) := by
  intro Z2 H2 e b
  have hl : (rngD n).length = n.toNat := by unfold rngD; rw [List.length_map, List.length_range]
  refine ⟨fun i hi => by rw [hl] at hi; exact hi, fun i hi => by rw [hl] at hi; exact hi, fun i x H' y hi => ?_⟩
  obtain ⟨rfl, rfl⟩ := y
  rw [hl] at hi
  refine ⟨.int (i : Nat), Z2, ?_, .refl b, ?_⟩
  · unfold rngD
    rw [List.getElem?_map, List.getElem?_range hi]
    rfl
  · rw [Int.zero_add]
    exact .int _
theorem di_range {tg a : Expr} {p pos : Pos} (h : DE X k a w) (hg : Gl X "range") (hm : X.mg "range" = none) (hs : starEach [a] X.env = [(false, eval a X.env)] := by rfl) : DI X k tg (.Call (.Name "range" p) [a] [] pos) (wiR w) := by
  obtain ⟨t, p, f⟩ := h
  refine ⟨_, pi_range1 hg hm (pa_cons p pa_nil hs) hs, fun r Z H σ ρ Qd R O h q => ?_⟩
  refine f r Z H σ ρ _ _ O h fun d v Z1 H1 s1 r1 h1 => ?_
  obtain ⟨n, e0, ⟨hlo, hn⟩, g0⟩ := D.I_ex h1
  clear h1
  have h1 := g0
  clear g0
  subst e0
  cases r1
  exact ⟨n, rfl, by omega, by omega, q _ Z1 H1 _ s1 (itd_range _ n) h1⟩
/-! ### for -/
def wForL (g : WG) (u : WS) : List D → WS
  | [] => fun d ρ => d.nx ρ
  | x :: xs => fun d ρ => g x ρ fun ρ1 => u { nx := wForL g u xs d, rt := d.rt, bk := d.nx, ct := wForL g u xs d } ρ1
def wFor (wi : WA) (g : WG) (u : WS) : WS := fun d ρ => wi ρ fun ds => wForL g u ds d ρ
theorem Ok.lower {c : Wc} {r : Rt} {Z H Zl : Hp} {σ : St} {ρ : En} (O : Ok c k { r with Zl := Zl } Z H σ ρ) (e : Same r.Zl Zl) : Ok c k r Z H σ ρ := ⟨O.en, O.s0, e.trans O.lb, O.sl, O.ow, O.ds, O.lk⟩
theorem Ok.raise {c : Wc} {r : Rt} {Z H : Hp} {σ : St} {ρ : En} (O : Ok c k r Z H σ ρ) : Ok c k { r with Zl := Z } Z H σ ρ := ⟨O.en, O.s0, Same.refl _, O.sl, O.ow, O.ds, O.lk⟩
theorem ds_for {tg it : Expr} {body : List Stmt} {wi : WA} {g : WG} {us : List Nat} (hp : PassesOwn (model X.prog X.w) X.A X.env X.xe) (hi : DI X k tg it wi) (hg : DG X k tg us g) (hb : DB X k body u) (hc : X.calm = true := by rfl)
    (hs : ∀ x, foldedSetIterable it X.env x = pure x := by intro _; rfl) : DS X k (.For tg it body [] pos) (wFor wi g u) := by
  obtain ⟨ti, pi, fi⟩ := hi
  obtain ⟨g', pg, fg⟩ := hg
  obtain ⟨tb, pb, fb⟩ := hb
  refine ⟨_, ps_for hp hc pi pg pb hs, fun r Z H σ ρ d E O L h => ?_⟩
  refine fi r Z H σ ρ _ _ O h fun ds Z1 H1 J s1 it h1 => ?_
  have O1 := O.stp s1
  have lw : Same r.Zl Z1 := O1.lb
  refine ⟨fun i m σ' H' => ∃ Z' ρ', Ok (wc X k.s) k { r with Zl := Z1 } Z' H' σ' ρ' ∧ wForL g u (ds.drop i) d ρ' ∧ i ≤ ds.length ∧ m = ds.length - i, ⟨_, Z1, ρ, O1.raise, h1, Nat.zero_le _, rfl⟩, ?_⟩
  rintro i m σ' H' ⟨Z', ρ', O', h', hi, rfl⟩
  obtain ⟨go, stop, yld⟩ := it Z' H' O'.lb O'.bs
  by_cases hlt : i < ds.length
  · refine .inr ⟨go i hlt, fun σ2 H2 => ∃ Z2 ρ2, Ok (wc X k.s) k { r with Zl := Z1 } Z2 H2 σ2 ρ2 ∧ wForL g u (ds.drop (i + 1)) d ρ2, ?_, ?_⟩
    · rintro σ2 H2 ⟨Z2, ρ2, O2, h2⟩
      exact ⟨_, by omega, Z2, ρ2, O2, h2, hlt, rfl⟩
    · intro x H2 y
      obtain ⟨dx, Z3, e1, s3, r3⟩ := yld i x H2 y hlt
      have e2 : ds.drop i = dx :: ds.drop (i + 1) := by
        rw [List.drop_eq_getElem_cons hlt]
        rw [List.getElem?_eq_getElem hlt] at e1
        rw [Option.some.inj e1]
      rw [e2] at h'
      refine fg _ Z3 H2 σ' ρ' x dx _ _ (O'.stp s3) r3 h' fun σ4 ρ4 O4 _ h4 => ?_
      refine fb _ Z3 H2 σ4 ρ4 _ _ O4 ⟨?_, ?_, ?_, ?_⟩ h4
      · exact fun Z5 H5 σ5 ρ5 O5 h5 => ⟨Z5, ρ5, O5, h5⟩
      · exact fun Z5 H5 v5 x5 e5 l5 => L.rt Z5 H5 v5 x5 e5 (lw.trans l5)
      · exact fun Z5 H5 σ5 ρ5 O5 h5 => L.nx Z5 H5 σ5 ρ5 (O5.lower lw) h5
      · exact fun Z5 H5 σ5 ρ5 O5 h5 => ⟨Z5, ρ5, O5, h5⟩
  · have e : i = ds.length := by omega
    subst e
    refine .inl ⟨stop _ (Nat.le_refl _), L.nx Z' H' σ' ρ' (O'.lower lw) ?_⟩
    rw [List.drop_length] at h'
    exact h'
/-! ### while -/
def wWhN (w : WT) (u : WS) : Nat → WS
  | 0 => fun _ _ => False
  | n + 1 => fun d ρ => w ρ fun b => if b = true then u { nx := wWhN w u n d, rt := d.rt, bk := d.nx, ct := wWhN w u n d } ρ else d.nx ρ
def wWhile (w : WT) (u : WS) : WS := fun d ρ => ∃ n, wWhN w u n d ρ
theorem ds_while {w : WT} {body : List Stmt} (hp : PassesOwn (model X.prog X.w) X.A X.env X.xe) (h : DT X k e w) (hb : DB X k body u) : DS X k (.While e body [] pos) (wWhile w u) := by
  obtain ⟨t, p, f⟩ := h
  obtain ⟨tb, pb, fb⟩ := hb
  refine ⟨_, ps_while hp p pb, fun r Z H σ ρ d E O L h => ?_⟩
  obtain ⟨n, h⟩ := h
  refine ⟨fun m σ' H' => ∃ Z' ρ', Ok (wc X k.s) k r Z' H' σ' ρ' ∧ wWhN w u m d ρ', ⟨n, Z, ρ, O, h⟩, ?_⟩
  rintro m σ' H' ⟨Z', ρ', O', h'⟩
  cases m with
  | zero => exact h'.elim
  | succ m =>
    refine f r Z' H' σ' ρ' _ _ O' h' fun b Z1 H1 s1 h1 => ?_
    cases b with
    | true =>
      refine iteT ⟨fun σ2 H2 => ∃ Z2 ρ2, Ok (wc X k.s) k r Z2 H2 σ2 ρ2 ∧ wWhN w u m d ρ2, fun σ2 H2 ⟨Z2, ρ2, O2, h2⟩ => ⟨m, Nat.lt_succ_self _, Z2, ρ2, O2, h2⟩, ?_⟩
      refine fb r Z1 H1 σ' ρ' { nx := wWhN w u m d, rt := d.rt, bk := d.nx, ct := wWhN w u m d } _ (O'.stp s1) ⟨?_, L.rt, L.nx, ?_⟩ (by simpa using h1)
      · exact fun Z5 H5 σ5 ρ5 O5 h5 => ⟨Z5, ρ5, O5, h5⟩
      · exact fun Z5 H5 σ5 ρ5 O5 h5 => ⟨Z5, ρ5, O5, h5⟩
    | false => exact iteF (L.nx Z1 H1 σ' ρ' (O'.stp s1) (by simpa using h1))
end
end Dl
set_option Elab.async false
set_option linter.all false
set_option maxRecDepth 100000
set_option maxHeartbeats 2000000
namespace Dl
open PySem PySem.Spec PyProof.Rows L2
/-! ### what a def promises, by trees -/
abbrev SpecD := List D → (D → Prop) → (Exn → Prop) → Prop
def spD (K : PySem.W.Frag) (mg : Str → Option Value) (spec : SpecD) : Sp := fun vs H Q E => ∃ (s : Addr) (Z : Hp) (ds : List D) (Qd : D → Prop) (Ed : Exn → Prop), Bs s Z H ∧ RpA ⟨K, mg, s⟩ Z vs ds ∧ spec ds Qd Ed ∧
  (∀ d v Z' H', Stp s Z H Z' H' → Rp ⟨K, mg, s⟩ Z' v d → Qd d → Q v H') ∧ (∀ ex cls od Z' H', Stp s Z H Z' H' → ExR ⟨K, mg, s⟩ Z' H' ex cls od → Ed ex → E cls od H')
def ρ0 (n : Nat) (ds : List D) : En := ds.map .val ++ List.replicate (n - ds.length) .un
theorem start_ok {c : Wc} {k : Cc} {Z H : Hp} {N : List Str} {vs : List V} {ds : List D} (b : Bs c.s Z H) (h : RpA c Z vs ds) (hl : ds.length ≤ N.length)
    (lk : ∀ (Z' H' : Hp) (ex : Exn) (cls : Value) (od : Option Addr), Stp c.s Z H Z' H' → ExR c Z' H' ex cls od → k.xd ex → k.xk cls od H') : Ok c k ⟨Z, H, Z⟩ Z H (L2.start N vs) (ρ0 N.length ds) := by
  have el := h.length
  have no : ∀ (i : Nat) (t : Sl), (ρ0 N.length ds)[i]? = some t → t.own = false := fun i t ht => by
    unfold ρ0 at ht
    by_cases hi : i < ds.length
    · rw [List.getElem?_append_left (by rw [List.length_map]; exact hi), List.getElem?_map, List.getElem?_eq_getElem hi] at ht
      cases ht
      rfl
    · rw [List.getElem?_append_right (by rw [List.length_map]; omega), List.getElem?_replicate] at ht
      split at ht
      · cases ht
        rfl
      · cases ht
  refine ⟨.refl b, b.st, Same.refl _, fun i t ht => ?_, fun i t a ht ho _ => ?_, fun i j t u a _ ht _ ho _ _ => ?_, lk⟩
  · unfold ρ0 at ht
    unfold L2.start
    by_cases hi : i < ds.length
    · rw [List.getElem?_append_left (by rw [List.length_map]; exact hi), List.getElem?_map, List.getElem?_eq_getElem hi] at ht
      cases ht
      obtain ⟨v, h1, h2⟩ := h.get i (List.getElem?_eq_getElem hi)
      exact ⟨some v, by rw [List.getElem?_append_left (by rw [List.length_map, el]; exact hi), List.getElem?_map, h1]; rfl, v, rfl, h2⟩
    · rw [List.getElem?_append_right (by rw [List.length_map]; omega), List.length_map, List.getElem?_replicate] at ht
      split at ht
      · rename_i hlt
        cases ht
        refine ⟨none, ?_, trivial⟩
        rw [List.getElem?_append_right (by rw [List.length_map, el]; omega), List.length_map, el, List.getElem?_replicate, if_pos hlt]
      · cases ht
  · rw [no i t ht] at ho
    cases ho
  · rw [no i t ht] at ho
    cases ho
/-- THE RULE for a def from which no error comes -/
theorem fn_d {P : Program} {w : World} {K : PySem.W.Frag} {mg : Str → Option Value} {base : Heap} {x qual : Str} {st : Stmt} {f : Addr} {fd : FuncData} {N ps : List Str} {n : Nat} {spec : SpecD} (F : Fun K x qual st f fd) (S : FnScope N ps (defScope st))
    (hl : ∀ ds Q E, spec ds Q E → ds.length = ps.length) (hn : ps.length ≤ N.length) (W : WS)
    (hb : ∀ (cdv : Value) (A : Around) (outer : List Env) (s : Shared) (H : Hp) (E : XK) (k : Cc), Room n (A.deeper (envOfC qual (defScope st) s.heap.objs.size f cdv)) → k.xd = (fun _ => False) →
      DB (cxOf CX0 P w K mg base N qual (defScope st) f cdv A outer s H E).nox k (defBody st) W)
    (hW : ∀ ds Q E, spec ds Q E → W { nx := fun _ => Q .non, rt := Q } (ρ0 N.length ds)) : FnOk P w K mg base CX0 (n + 1) f fd ps (spD K mg spec) := by
  refine F.ok S (fun vs H Q E h => ?_) (fun cdv A outer s H vs Q E hr h => ?_)
  · obtain ⟨s, Z, ds, Qd, Ed, _, h1, h2, _⟩ := h
    rw [h1.length]
    exact hl _ _ _ h2
  · obtain ⟨s', Z, ds, Qd, Ed, b, h1, h2, h3, _⟩ := h
    obtain ⟨t, p, q⟩ := hb cdv A outer s H E ⟨s', fun _ => False, fun _ _ _ => False⟩ hr rfl
    refine ⟨t, p, q ⟨Z, H, Z⟩ Z H (L2.start N vs) (ρ0 N.length ds) _ _ (start_ok (c := ⟨K, mg, s'⟩) b h1 (by rw [hl _ _ _ h2]; exact hn) (fun _ _ _ _ _ _ _ z => z.elim)) ⟨?_, ?_, ?_, ?_⟩ (hW ds Qd Ed h2)⟩
    · exact fun Z' H' σ ρ O hq => h3 .non .non Z' H' O.en .non hq
    · exact fun Z' H' v x st _ rx hq => h3 x v Z' H' st rx hq
    · exact fun _ _ _ _ _ z => z.elim
    · exact fun _ _ _ _ _ z => z.elim
/-- .. for a def from which an error may come -/
theorem fn_dx {P : Program} {w : World} {K : PySem.W.Frag} {mg : Str → Option Value} {base : Heap} {x qual : Str} {st : Stmt} {f : Addr} {fd : FuncData} {N ps : List Str} {n : Nat} {spec : SpecD} (F : Fun K x qual st f fd) (S : FnScope N ps (defScope st))
    (hl : ∀ ds Q E, spec ds Q E → ds.length = ps.length) (hn : ps.length ≤ N.length) (W : (Exn → Prop) → WS)
    (hb : ∀ (cdv : Value) (A : Around) (outer : List Env) (s : Shared) (H : Hp) (k : Cc), Room n (A.deeper (envOfC qual (defScope st) s.heap.objs.size f cdv)) →
      DB (cxOf (L2.CX P w) P w K mg base N qual (defScope st) f cdv A outer s H k.xk) k (defBody st) (W k.xd))
    (hW : ∀ ds Q E, spec ds Q E → W E { nx := fun _ => Q .non, rt := Q } (ρ0 N.length ds)) : FnOk P w K mg base (L2.CX P w) (n + 1) f fd ps (spD K mg spec) := by
  refine F.okX S (fun vs H Q E h => ?_) (fun cdv A outer s H vs Q E hr h => ?_)
  · obtain ⟨s, Z, ds, Qd, Ed, _, h1, h2, _⟩ := h
    rw [h1.length]
    exact hl _ _ _ h2
  · obtain ⟨s', Z, ds, Qd, Ed, b, h1, h2, h3, h4⟩ := h
    obtain ⟨t, p, q⟩ := hb cdv A outer s H ⟨s', Ed, E⟩ hr
    refine ⟨t, p, q ⟨Z, H, Z⟩ Z H (L2.start N vs) (ρ0 N.length ds) _ _ (start_ok (c := ⟨K, mg, s'⟩) b h1 (by rw [hl _ _ _ h2]; exact hn) (fun Z' H' ex cls od st e z => h4 ex cls od Z' H' st e z)) ⟨?_, ?_, ?_, ?_⟩ (hW ds Qd Ed h2)⟩
    · exact fun Z' H' σ ρ O hq => h3 .non .non Z' H' O.en .non hq
    · exact fun Z' H' v x st _ rx hq => h3 x v Z' H' st rx hq
    · exact fun _ _ _ _ _ z => z.elim
    · exact fun _ _ _ _ _ z => z.elim
section
variable {X : Cx} {k : Cc} {a b e : Expr} {es : List Expr} {wa wb w : WE} {pos p : Pos}
/-- f(e, ..), no error comes -/
def wCall0 (spec : SpecD) (u : WA) : WE := fun ρ Q => u ρ fun ds => spec ds Q fun _ => False
def wCall (spec : SpecD) (xd : Exn → Prop) (u : WA) : WE := fun ρ Q => u ρ fun ds => spec ds Q xd
theorem de_call0 {n : Nat} {f : Addr} {fd : FuncData} {ps : List Str} {spec : SpecD} {x : Str} {u : WA} (F : FnOk X.prog X.w X.K X.mg X.base CX0 n f fd ps (spD X.K X.mg spec)) (hr : Room n X.A) (hm : X.mg x = some (.ref f)) (hk : PySem.W.keepIn X.K (.ref f) = true) (hb : Binds X.K fd ps [])
    (ha : DA X k (e :: es) u) (hg : Gl X x := by rfl) (hdb : (x == ("__debug__" : Str)) = false := by decide) (he : starEach (e :: es) X.env = (false, eval e X.env) :: starEach es X.env := by rfl) (hpl : (backTo pos (starEach es X.env)).any (·.1) = false := by rfl) :
    DE X k (.Call (.Name x p) (e :: es) [] pos) (wCall0 spec u) := by
  obtain ⟨t, pa, fa⟩ := ha
  refine ⟨_, pe_call F hr hg hm hk hb .nil pass0 pa hdb he hpl, fun r Z H σ ρ Qd Q O h q => ?_⟩
  refine fa r Z H σ ρ _ _ O h fun ds vs Z1 H1 s1 r1 h1 => ?_
  rw [List.append_nil]
  exact ⟨k.s, Z1, ds, Qd, fun _ => False, s1.bs, r1, h1, fun d v Z' H' st rv qd => q d v Z' H' (s1.trans st O.bs.st) rv qd, fun _ _ _ _ _ _ _ z => z.elim⟩
theorem de_callX {n : Nat} {f : Addr} {fd : FuncData} {ps : List Str} {spec : SpecD} {x : Str} {u : WA} {CX : CXT} (F : FnOk X.prog X.w X.K X.mg X.base CX n f fd ps (spD X.K X.mg spec)) (hr : Room n X.A) (hm : X.mg x = some (.ref f)) (hk : PySem.W.keepIn X.K (.ref f) = true) (hb : Binds X.K fd ps [])
    (hx : Passes CX X k.xk) (ha : DA X k (e :: es) u) (hg : Gl X x := by rfl) (hdb : (x == ("__debug__" : Str)) = false := by decide) (he : starEach (e :: es) X.env = (false, eval e X.env) :: starEach es X.env := by rfl) (hpl : (backTo pos (starEach es X.env)).any (·.1) = false := by rfl) :
    DE X k (.Call (.Name x p) (e :: es) [] pos) (wCall spec k.xd u) := by
  obtain ⟨t, pa, fa⟩ := ha
  refine ⟨_, pe_call F hr hg hm hk hb .nil hx pa hdb he hpl, fun r Z H σ ρ Qd Q O h q => ?_⟩
  refine fa r Z H σ ρ _ _ O h fun ds vs Z1 H1 s1 r1 h1 => ?_
  rw [List.append_nil]
  exact ⟨k.s, Z1, ds, Qd, k.xd, s1.bs, r1, h1, fun d v Z' H' st rv qd => q d v Z' H' (s1.trans st O.bs.st) rv qd, fun ex cls od Z' H' st er z => O.lk Z' H' ex cls od (O.en.trans (s1.trans st O.bs.st) O.s0) er z⟩
/-- a def that may raise, called where it does not -/
theorem de_callN {n : Nat} {f : Addr} {fd : FuncData} {ps : List Str} {spec : SpecD} {x : Str} {u : WA} (F : FnOk X.prog X.w X.K X.mg X.base (L2.CX X.prog X.w) n f fd ps (spD X.K X.mg spec)) (hr : Room n X.A) (hm : X.mg x = some (.ref f)) (hk : PySem.W.keepIn X.K (.ref f) = true) (hb : Binds X.K fd ps [])
    (ha : DA X k (e :: es) u) (hg : Gl X x := by rfl) (hdb : (x == ("__debug__" : Str)) = false := by decide) (he : starEach (e :: es) X.env = (false, eval e X.env) :: starEach es X.env := by rfl) (hpl : (backTo pos (starEach es X.env)).any (·.1) = false := by rfl) :
    DE X k (.Call (.Name x p) (e :: es) [] pos) (wCall0 spec u) := by
  obtain ⟨t, pa, fa⟩ := ha
  refine ⟨_, pe_call F hr hg hm hk hb .nil passL pa hdb he hpl, fun r Z H σ ρ Qd Q O h q => ?_⟩
  refine fa r Z H σ ρ _ _ O h fun ds vs Z1 H1 s1 r1 h1 => ?_
  rw [List.append_nil]
  exact ⟨k.s, Z1, ds, Qd, fun _ => False, s1.bs, r1, h1, fun d v Z' H' st rv qd => q d v Z' H' (s1.trans st O.bs.st) rv qd, fun _ _ _ _ _ _ _ z => z.elim⟩
/-- a built-in function, a built-in type, called -/
def wCB (rd : RAD) (u : WA) : WE := fun ρ Q => u ρ fun ds => rd ds Q
theorem de_b {id : String} {r : List V → Hp → VK → Prop} {rd : RAD} {x : Str} {u : WA} (hc : CallR X (.builtin id) r) (o : OpA X k r rd) (hm : X.mg x = none) (hv : bootBuiltins x = some (.builtin id)) (ha : DA X k (e :: es) u) (hg : Gl X x := by rfl) (hn : x ≠ "__name__" := by decide) (hdb : (x == ("__debug__" : Str)) = false := by decide)
    (he : starEach (e :: es) X.env = (false, eval e X.env) :: starEach es X.env := by rfl) (hpl : (backTo pos (starEach es X.env)).any (·.1) = false := by rfl) : DE X k (.Call (.Name x p) (e :: es) [] pos) (wCB rd u) := by
  obtain ⟨t, pa, fa⟩ := ha
  refine ⟨_, pe_callB hc hg hm hv pa hn hdb he hpl, fun r Z H σ ρ Qd Q O h q => ?_⟩
  refine fa r Z H σ ρ _ _ O h fun ds vs Z1 H1 s1 r1 h1 => ?_
  exact o Z1 H1 vs ds Qd Q s1.bs r1 h1 fun d v Z' H' st rv qd => q d v Z' H' (s1.trans st O.bs.st) rv qd
theorem de_ty {T : String} {r : List V → Hp → VK → Prop} {rd : RAD} {x : Str} {u : WA} (hc : CallR X (.type T) r) (o : OpA X k r rd) (hm : X.mg x = none) (hv : bootBuiltins x = some (.type T)) (ha : DA X k (e :: es) u) (hg : Gl X x := by rfl) (hn : x ≠ "__name__" := by decide) (hdb : (x == ("__debug__" : Str)) = false := by decide)
    (he : starEach (e :: es) X.env = (false, eval e X.env) :: starEach es X.env := by rfl) (hpl : (backTo pos (starEach es X.env)).any (·.1) = false := by rfl) : DE X k (.Call (.Name x p) (e :: es) [] pos) (wCB rd u) := by
  obtain ⟨t, pa, fa⟩ := ha
  refine ⟨_, pe_callTy hc hg hm hv pa hn hdb he hpl, fun r Z H σ ρ Qd Q O h q => ?_⟩
  refine fa r Z H σ ρ _ _ O h fun ds vs Z1 H1 s1 r1 h1 => ?_
  exact o Z1 H1 vs ds Qd Q s1.bs r1 h1 fun d v Z' H' st rv qd => q d v Z' H' (s1.trans st O.bs.st) rv qd
/-- a method of a text, with no argument, with one -/
abbrev RM0 := Str → (D → Prop) → Prop
def wM0 (rd : Str → (D → Prop) → Prop) (w : WE) : WE := fun ρ Q => w ρ fun d => d.S fun z => rd z Q
theorem de_m0 {id : String} {name : Str} {apos : Pos} {o : Expr} {r : V → List V → Hp → VK → Prop} {rd : Str → (D → Prop) → Prop} (slot : Slot "str" name id) (ty : typeOf (.builtin id) = pure (.type "method_descriptor")) (rule : MtR X id r)
    (om : ∀ (Z H : Hp) (z : Str) (Qd : D → Prop) (Q : VK), Bs k.s Z H → rd z Qd → (∀ d v Z' H', Stp k.s Z H Z' H' → Rp (wc X k.s) Z' v d → Qd d → Q v H') → r (.str z) [] H Q) (h : DE X k o w)
    (hbase : attributeBase o name X.env (eval o X.env) = eval o X.env := by rfl) (hline : (apos.endLine == pos.line) = true := by rfl) : DE X k (.Call (.Attribute o name apos) [] [] pos) (wM0 rd w) := by
  obtain ⟨t, pa, fa⟩ := h
  refine ⟨_, pe_m0 slot ty rule pa hbase hline, fun r Z H σ ρ Qd Q O h q => ?_⟩
  refine fa r Z H σ ρ _ _ O h fun d v Z1 H1 s1 r1 h1 => ?_
  obtain ⟨z, e0, g0⟩ := D.S_ex h1
  clear h1
  have h1 := g0
  clear g0
  subst e0
  cases r1
  exact ⟨⟨z, rfl⟩, om Z1 H1 z Qd Q s1.bs h1 fun d v Z' H' st rv qd => q d v Z' H' (s1.trans st O.bs.st) rv qd⟩
def wM1 (rd : Str → D → (D → Prop) → Prop) (w u : WE) : WE := fun ρ Q => w ρ fun d => d.S fun z => u ρ fun y => rd z y Q
theorem de_m1 {id : String} {name : Str} {apos : Pos} {o : Expr} {r : V → List V → Hp → VK → Prop} {rd : Str → D → (D → Prop) → Prop} (slot : Slot "str" name id) (ty : typeOf (.builtin id) = pure (.type "method_descriptor")) (rule : MtR X id r)
    (om : ∀ (Z H : Hp) (z : Str) (y : V) (d : D) (Qd : D → Prop) (Q : VK), Bs k.s Z H → Rp (wc X k.s) Z y d → rd z d Qd → (∀ d v Z' H', Stp k.s Z H Z' H' → Rp (wc X k.s) Z' v d → Qd d → Q v H') → r (.str z) [y] H Q) (h : DE X k o w) (h2 : DE X k e wa)
    (hs : starEach [e] X.env = [(false, eval e X.env)] := by rfl) (hbase : attributeBase o name X.env (eval o X.env) = eval o X.env := by rfl) (hline : (apos.endLine == pos.line) = true := by rfl) : DE X k (.Call (.Attribute o name apos) [e] [] pos) (wM1 rd w wa) := by
  obtain ⟨t, pa, fa⟩ := h
  obtain ⟨t2, pa2, fa2⟩ := h2
  refine ⟨_, pe_m1 slot ty rule pa pa2 hs hbase hline, fun r Z H σ ρ Qd Q O h q => ?_⟩
  refine fa r Z H σ ρ _ _ O h fun d v Z1 H1 s1 r1 h1 => ?_
  obtain ⟨z, e0, g0⟩ := D.S_ex h1
  clear h1
  have h1 := g0
  clear g0
  subst e0
  cases r1
  refine ⟨⟨z, rfl⟩, fa2 r Z1 H1 σ ρ _ _ (O.stp s1) h1 fun d v Z2 H2 s2 r2 h2 => ?_⟩
  exact om Z2 H2 z v d Qd Q s2.bs r2 h2 fun d v Z' H' st rv qd => q d v Z' H' ((s1.trans s2 O.bs.st).trans st O.bs.st) rv qd
/-- subscripts -/
theorem de_ix {r : R2} {rd : R2D} (hi : IxR X r) (o : Op2 X k r rd) (ha : DE X k a wa) (hb : DE X k b wb) (hs : PlainIx b := by intro _ _; rfl) : DE X k (.Subscript a b pos) (wOp rd wa wb) := by
  obtain ⟨ta, pa, fa⟩ := ha
  obtain ⟨tb, pb, fb⟩ := hb
  exact ⟨_, pe_ix hi pa pb hs, op_core o fa fb⟩
/-- slices -/
abbrev WO := En → (Option Int → Prop) → Prop
def DO (X : Cx) (k : Cc) (e : Option Expr) (w : WO) : Prop := ∃ t, PO X e t ∧ ∀ (r : Rt) (Z H : Hp) (σ : L2.St) (ρ : En) (Qd : Option Int → Prop) (Q : Option Int → Hp → Prop), Ok (wc X k.s) k r Z H σ ρ → w ρ Qd → (∀ i Z' H', Stp k.s Z H Z' H' → Qd i → Q i H') → t σ H Q
def wNo : WO := fun _ Q => Q none
def wPart (w : WE) : WO := fun ρ Q => w ρ fun d => d.I fun i => Q (some i)
theorem do_no : DO X k none wNo := ⟨_, po_none, fun r Z H σ ρ Qd Q O h q => q none Z H (.refl O.bs) h⟩
theorem do_some (h : DE X k e w) : DO X k (some e) (wPart w) := by
  obtain ⟨t, p, f⟩ := h
  refine ⟨_, po_some p, fun r Z H σ ρ Qd Q O h q => ?_⟩
  refine f r Z H σ ρ _ _ O h fun d v Z1 H1 s1 r1 h1 => ?_
  obtain ⟨i, e0, g0⟩ := D.I_ex h1
  clear h1
  have h1 := g0
  clear g0
  subst e0
  cases r1
  exact ⟨i, rfl, q _ Z1 H1 s1 h1⟩
abbrev RSD := D → Option Int → Option Int → (D → Prop) → Prop
def wSl (rd : RSD) (w : WE) (l u : WO) : WE := fun ρ Q => w ρ fun d => l ρ fun i => u ρ fun j => rd d i j Q
def OpS (X : Cx) (k : Cc) (r : V → Option Int → Option Int → Hp → VK → Prop) (rd : RSD) : Prop := ∀ (Z H : Hp) (x : V) (d : D) (i j : Option Int) (Qd : D → Prop) (Q : VK), Bs k.s Z H → Rp (wc X k.s) Z x d → rd d i j Qd →
  (∀ d v Z' H', Stp k.s Z H Z' H' → Rp (wc X k.s) Z' v d → Qd d → Q v H') → r x i j H Q
theorem de_slice {r : V → Option Int → Option Int → Hp → VK → Prop} {rd : RSD} {lo hi : Option Expr} {l u : WO} {p2 : Pos} (hr : SlR X r) (o : OpS X k r rd) (h : DE X k e w) (hl : DO X k lo l) (hu : DO X k hi u) : DE X k (.Subscript e (.Slice lo hi none p2) pos) (wSl rd w l u) := by
  obtain ⟨t, p, f⟩ := h
  obtain ⟨t1, p1, f1⟩ := hl
  obtain ⟨t2, p2, f2⟩ := hu
  refine ⟨_, pe_slice hr p p1 p2, fun r Z H σ ρ Qd Q O h q => ?_⟩
  refine f r Z H σ ρ _ _ O h fun d v Z1 H1 s1 r1 h1 => ?_
  refine f1 r Z1 H1 σ ρ _ _ (O.stp s1) h1 fun i Z2 H2 s2 h2 => ?_
  have s12 := s1.trans s2 O.bs.st
  refine f2 r Z2 H2 σ ρ _ _ (O.stp s12) h2 fun j Z3 H3 s3 h3 => ?_
  have s13 := s12.trans s3 O.bs.st
  exact o Z3 H3 v d i j Qd Q s3.bs (r1.mono (s2.zz.trans s3.zz)) h3 fun d v Z' H' st rv qd => q d v Z' H' (s13.trans st O.bs.st) rv qd
/-- a field -/
def D.F (d : D) (n f : Str) (Q : D → Prop) : Prop := match d with
  | .ins m fs => m = n ∧ (match fs.lookup f with
    | some v => Q v
    | none => False)
  | _ => False
theorem D.F_ex {d : D} {n f : Str} {Q : D → Prop} (h : d.F n f Q) : ∃ fs v, d = .ins n fs ∧ fs.lookup f = some v ∧ Q v := by
  cases d with
  | ins m fs =>
    obtain ⟨rfl, h⟩ := h
    cases e : fs.lookup f with
    | none =>
      rw [e] at h
      exact h.elim
    | some v =>
      rw [e] at h
      exact ⟨fs, v, rfl, e, h⟩
  | _ => exact h.elim
def wFld (n f : Str) (w : WE) : WE := fun ρ Q => w ρ fun d => d.F n f Q
theorem rpf_lookup {c : Wc} {Z : Hp} {f : Str} : ∀ {fs : List (Str × V)} {ds : List (Str × D)} {d : D}, RpF c Z fs ds → ds.lookup f = some d → ∃ v, fs.lookup f = some v ∧ Rp c Z v d
  | _, _, _, .nil, h => by cases h
  | _, _, _, .cons (k := g) h r, e => by
    rw [List.lookup_cons] at e ⊢
    cases q : f == g with
    | true =>
      rw [q] at e
      cases e
      exact ⟨_, rfl, h⟩
    | false =>
      rw [q] at e
      exact rpf_lookup r e
theorem de_fld {n f : Str} {C : Addr} (hm : X.mg n = some (.ref C)) (hc : Cls X.K C) (hn : NoAttr X.K C f) (h : DE X k e w) (hb : attributeBase e f X.env (eval e X.env) = eval e X.env := by rfl) : DE X k (.Attribute e f pos) (wFld n f w) := by
  obtain ⟨t, p, g⟩ := h
  refine ⟨_, pe_fld p hb, fun r Z H σ ρ Qd Q O h q => ?_⟩
  refine g r Z H σ ρ _ _ O h fun d v Z1 H1 s1 r1 h1 => ?_
  obtain ⟨fs, x, e0, hl, g0⟩ := D.F_ex h1
  clear h1
  have h1 := g0
  clear g0
  subst e0
  cases r1 with
  | ins m hz hr =>
    have e : X.mg n = _ := m
    rw [hm] at e
    cases e
    obtain ⟨u, h2, h3⟩ := rpf_lookup hr hl
    exact ⟨_, _, _, _, u, rfl, s1.bs.zh _ _ hz, hc, hn, h2, q x u Z1 H1 s1 h3 h1⟩
end
/-! ### list comprehensions -/
/-- the readings in one form -/
def tEc (c : Wc) (k : Cc) (w : WE) : TE := fun σ H Q => ∃ r Z ρ Qd, Ok c k r Z H σ ρ ∧ w ρ Qd ∧ ∀ d v Z' H', Stp c.s Z H Z' H' → Rp c Z' v d → Qd d → Q v H'
def tTc (c : Wc) (k : Cc) (w : WT) : TT := fun σ H Q => ∃ r Z ρ Qd, Ok c k r Z H σ ρ ∧ w ρ Qd ∧ ∀ d Z' H', Stp c.s Z H Z' H' → Qd d → Q d H'
def tGc (c : Wc) (k : Cc) (us : List Nat) (w : WG) : TG := fun v σ H Q => ∃ r Z ρ d Qd, Ok c k r Z H σ ρ ∧ Rp c Z v d ∧ w d ρ Qd ∧ ∀ σ' ρ', Ok c k r Z H σ' ρ' → (∀ vs, (∀ i ∈ us, i ∈ vs) → wipe σ' vs = wipe σ vs) → Qd ρ' → Q σ' H
section
variable {X : Cx} {k : Cc} {e : Expr} {es : List Expr} {w : WE} {pos : Pos}
theorem PE.weak {t t' : TE} (h : PE X e t) (hw : ∀ σ H Q, t' σ H Q → t σ H Q) : PE X e t' := ⟨fun pins s σ H Q I q => h.run pins s σ H Q I (hw _ _ _ q)⟩
theorem DE.pe (h : DE X k e w) : PE X e (tEc (wc X k.s) k w) := by
  obtain ⟨t, p, f⟩ := h
  exact PE.weak p fun σ H Q ⟨r, Z, ρ, Qd, O, h, q⟩ => f r Z H σ ρ Qd Q O h q
def DTs (X : Cx) (k : Cc) (es : List Expr) (w : WT) : Prop := ∃ t, PTs X es t ∧ ∀ (r : Rt) (Z H : Hp) (σ : L2.St) (ρ : En) (Qd : Bool → Prop) (Q : Bool → Hp → Prop), Ok (wc X k.s) k r Z H σ ρ → w ρ Qd → (∀ b Z' H', Stp k.s Z H Z' H' → Qd b → Q b H') → t σ H Q
def wYes : WT := fun _ Q => Q true
theorem dts_nil : DTs X k [] wYes := ⟨_, pts_nil, fun r Z H σ ρ Qd Q O h q => q true Z H (.refl O.bs) h⟩
theorem dts_one {w : WT} (h : DT X k e w) : DTs X k [e] w := by
  obtain ⟨t, p, f⟩ := h
  exact ⟨_, pts_one p, f⟩
theorem DTs.pt {w : WT} (h : DTs X k es w) : PTs X es (tTc (wc X k.s) k w) := by
  obtain ⟨t, p, f⟩ := h
  exact ⟨fun pins s σ H Q I ⟨r, Z, ρ, Qd, O, h, q⟩ => p.run pins s σ H Q I (f r Z H σ ρ Qd Q O h q)⟩
theorem DG.pg {w : WG} {us : List Nat} (h : DG X k e us w) : PG X e (tGc (wc X k.s) k us w) := by
  obtain ⟨t, p, f⟩ := h
  exact ⟨fun pins s σ H v u Q I rv ⟨r, Z, ρ, d, Qd, O, rd, h, q⟩ => p.run pins s σ H v u Q I rv (f r Z H σ ρ v d Qd Q O rd h q)⟩
theorem wipe_idem {σ : L2.St} {vs : List Nat} : wipe (wipe σ vs) vs = wipe σ vs := by
  have q : ∀ (ws : List Nat) (i : Nat) (τ : L2.St), (wipe (τ.set i none) ws) = (wipe τ ws).set i none := by
    intro ws
    induction ws with
    | nil => intro i τ; rfl
    | cons w ws ih =>
      intro i τ
      show (wipe (τ.set i none) ws).set w none = ((wipe τ ws).set w none).set i none
      rw [ih]
      by_cases e : i = w
      · subst e; rfl
      · rw [List.set_comm _ _ e]
  have m : ∀ (ws : List Nat) (τ : L2.St), wipe (wipe τ ws) ws = wipe τ ws := by
    intro ws
    induction ws with
    | nil => intro τ; rfl
    | cons w ws ih =>
      intro τ
      show (wipe ((wipe τ ws).set w none) ws).set w none = (wipe τ ws).set w none
      rw [q, ih, List.set_set]
  exact m vs σ
def wipeD (ρ : En) : List Nat → En
  | [] => ρ
  | v :: vs => (wipeD ρ vs).set v .un
theorem Ok.un {c : Wc} {r : Rt} {Z H : Hp} {σ : L2.St} {ρ : En} {i : Nat} (O : Ok c k r Z H σ ρ) : Ok c k r Z H (σ.set i none) (ρ.set i .un) := by
  refine ⟨O.en, O.s0, O.lb, fun j t ht => ?_, fun j t a ht ho ha => ?_, fun j l t u a hjl ht hu ho ho' ha => ?_, O.lk⟩
  · by_cases hj : i = j
    · subst hj
      rw [List.getElem?_set, if_pos rfl] at ht
      split at ht
      · rename_i hl
        cases ht
        obtain ⟨o, h1, _⟩ := O.sl i _ (List.getElem?_eq_getElem hl)
        have hl2 : i < σ.length := (List.getElem?_eq_some_iff.mp h1).1
        exact ⟨none, by rw [List.getElem?_set_self hl2], trivial⟩
      · cases ht
    · rw [List.getElem?_set_ne hj] at ht ⊢
      exact O.sl j t ht
  · by_cases hj : i = j
    · subst hj
      rw [List.getElem?_set, if_pos rfl] at ht
      split at ht
      · cases ht
        cases ho
      · cases ht
    · rw [List.getElem?_set_ne hj] at ht ha
      exact O.ow j t a ht ho ha
  · have hj : i ≠ j := fun e => by
      subst e
      rw [List.getElem?_set, if_pos rfl] at ht
      split at ht
      · cases ht
        cases ho
      · cases ht
    have hl : i ≠ l := fun e => by
      subst e
      rw [List.getElem?_set, if_pos rfl] at hu
      split at hu
      · cases hu
        cases ho'
      · cases hu
    rw [List.getElem?_set_ne hj] at ht ha
    rw [List.getElem?_set_ne hl] at hu ⊢
    exact O.ds j l t u a hjl ht hu ho ho' ha
theorem Ok.wipe {c : Wc} {r : Rt} {Z H : Hp} {σ : L2.St} {ρ : En} (O : Ok c k r Z H σ ρ) : ∀ vs : List Nat, Ok c k r Z H (wipe σ vs) (wipeD ρ vs)
  | [] => O
  | v :: vs => (O.wipe vs).un
/-- no wish of errors -/
abbrev Cc.still (k : Cc) : Cc := ⟨k.s, fun _ => False, fun _ _ _ => False⟩
theorem Ok.still {c : Wc} {r : Rt} {Z H : Hp} {σ : L2.St} {ρ : En} (O : Ok c k r Z H σ ρ) : Ok c k.still r Z H σ ρ := ⟨O.en, O.s0, O.lb, O.sl, O.ow, O.ds, fun _ _ _ _ _ _ _ z => z.elim⟩
theorem Stp.mut {s p : Addr} {Z H Z' H' : Hp} {o : HO} (h : Stp s Z H Z' H') (b : StOk s H) (n : H p = none) (z : Z' p = none) : Stp s Z H Z' (upd H' p o) := by
  have ne : s ≠ p := b.ne n
  refine ⟨h.zz, ⟨fun a u e => by rw [upd_ne (ne_of_none e z)]; exact h.bs.zh a u e, ?_, h.bs.zs⟩, h.nw, fun a u e q => by rw [upd_ne (ne_of_none e n)]; exact h.hh a u e q⟩
  obtain ⟨i, j, h1, h2, h3⟩ := h.bs.st
  exact ⟨i, j, by rw [upd_ne ne]; exact h1, h2, h3⟩
theorem Stp.frz {s p : Addr} {Z H Z' H' : Hp} {o : HO} (h : Stp s Z H Z' H') (b : StOk s H) (n : H p = none) (z : Z' p = none) (e : H' p = some o) : Stp s Z H (upd Z' p o) H' := by
  have ne : s ≠ p := b.ne n
  have zz : Same Z' (upd Z' p o) := fun a u q => by rw [upd_ne (ne_of_none q z)]; exact q
  refine ⟨h.zz.trans zz, ⟨fun a u q => ?_, h.bs.st, by rw [upd_ne ne]; exact h.bs.zs⟩, fun a u q => ?_, h.hh⟩
  · by_cases w : a = p
    · subst w
      rw [upd_same] at q
      rw [e]
      exact q
    · rw [upd_ne w] at q
      exact h.bs.zh a u q
  · by_cases w : a = p
    · subst w
      exact .inr n
    · rw [upd_ne w] at q
      exact h.nw a u q
def wLcL (g : WG) (wt : WT) (we : WE) (ρ : En) : List D → List D → (List D → Prop) → Prop
  | [], acc, Q => Q acc
  | x :: xs, acc, Q => g x ρ fun ρ1 => wt ρ1 fun b => if b = true then we ρ1 fun y => wLcL g wt we ρ xs (acc ++ [y]) Q else wLcL g wt we ρ xs acc Q
def wLc (wi : WA) (g : WG) (wt : WT) (we : WE) (vs : List Nat) : WE := fun ρ Q => wi ρ fun ds => ds.length ≤ 1000000 ∧ wLcL g wt we (wipeD ρ vs) ds [] fun ys => Q (.lst ys)
theorem lc_core_d {wi : WA} {g : WG} {wt : WT} {vs us : List Nat} {ti : TI} (hus : ∀ i ∈ us, i ∈ vs)
    (fi : ∀ (r : Rt) (Z H : Hp) (σ : L2.St) (ρ : En) (Qd : List D → Prop) (R : It → Hp → Prop), Ok (wc X k.s) k r Z H σ ρ → wi ρ Qd → (∀ ds Z' H' J, Stp k.s Z H Z' H' → ItD (wc X k.s) Z' J ds → Qd ds → R J H') → ti σ H R) :
    ∀ (r : Rt) (Z H : Hp) (σ : L2.St) (ρ : En) (Qd : D → Prop) (Q : VK), Ok (wc X k.s) k r Z H σ ρ → wLc wi g wt w vs ρ Qd → (∀ d v Z' H', Stp k.s Z H Z' H' → Rp (wc X k.s) Z' v d → Qd d → Q v H') →
      tLc ti (tGc (wc X k.s) k.still us g) (tTc (wc X k.s) k.still wt) (tEc (wc X k.s) k.still w) vs σ H Q := by
  intro r Z H σ ρ Qd Q O h q
  refine fi r Z H σ ρ _ _ O h fun ds Z1 H1 J s1 it h1 => ?_
  obtain ⟨hlen, h1⟩ := h1
  intro D hD
  have O1 := O.stp s1
  have b1 : StOk k.s H1 := O1.bs.st
  have nD : k.s ≠ D := b1.ne hD
  refine ⟨fun i m H' => ∃ Z' acc avs, Stp k.s Z1 H1 Z' H' ∧ H' D = some (.lst avs) ∧ RpA (wc X k.s) Z' avs acc ∧ Z' D = none ∧ acc.length ≤ i ∧ wLcL g wt w (wipeD ρ vs) (ds.drop i) acc (fun ys => Qd (.lst ys)) ∧ i ≤ ds.length ∧ m = ds.length - i,
    ⟨_, Z1, [], [], (Stp.refl O1.bs).mut b1 hD (O1.bs.zh.free hD), upd_same, .nil, O1.bs.zh.free hD, Nat.le_refl _, h1, Nat.zero_le _, rfl⟩, ?_⟩
  rintro i m H' ⟨Z', acc, avs, st, hd, ra, zd, hal, h', hi, rfl⟩
  obtain ⟨go, stop, yld⟩ := it Z' H' st.zz st.bs
  by_cases hlt : i < ds.length
  · refine .inr ⟨go i hlt, fun H2 => ∃ Z2 acc2 avs2, Stp k.s Z1 H1 Z2 H2 ∧ H2 D = some (.lst avs2) ∧ RpA (wc X k.s) Z2 avs2 acc2 ∧ Z2 D = none ∧ acc2.length ≤ i + 1 ∧ wLcL g wt w (wipeD ρ vs) (ds.drop (i + 1)) acc2 (fun ys => Qd (.lst ys)), ?_, ?_⟩
    · rintro H2 ⟨Z2, acc2, avs2, st2, hd2, ra2, zd2, hal2, h2⟩
      exact ⟨_, by omega, Z2, acc2, avs2, st2, hd2, ra2, zd2, hal2, h2, hlt, rfl⟩
    · intro x H2 y
      obtain ⟨dx, Z3, e1, s3, r3⟩ := yld i x H2 y hlt
      have e2 : ds.drop i = dx :: ds.drop (i + 1) := by
        rw [List.drop_eq_getElem_cons hlt]
        rw [List.getElem?_eq_getElem hlt] at e1
        rw [Option.some.inj e1]
      rw [e2] at h'
      have zn : ∀ {Za Ha Zb Hb : Hp}, Stp k.s Za Ha Zb Hb → Za D = none → Ha D = some (.lst avs) → Zb D = none := fun {Za Ha Zb Hb} st za ha => by
        cases z : Zb D with
        | none => rfl
        | some o =>
          rcases st.nw D o z with z1 | z1
          · rw [za] at z1
            cases z1
          · rw [ha] at z1
            cases z1
      have st3 := st.trans s3 b1
      have O3 := ((O1.stp st3).wipe vs).still
      have hd3 := s3.hh D _ hd (Ne.symm nD)
      refine ⟨r, Z3, wipeD ρ vs, dx, _, O3, r3, h', fun σ4 ρ4 O4 w4 h4 => ?_⟩
      refine ⟨by rw [w4 vs hus, wipe_idem], r, Z3, ρ4, _, O4, h4, fun bb Z5 H5 s5 h5 => ?_⟩
      have hd5 := s5.hh D _ hd3 (Ne.symm nD)
      have zd5 := zn s5 (zn s3 zd hd) hd3
      cases bb with
      | true =>
        refine iteT ⟨r, Z5, ρ4, _, O4.stp s5, (by simpa using h5), fun d v Z6 H6 s6 r6 h6 => ?_⟩
        have hd6 := s6.hh D _ hd5 (Ne.symm nD)
        have zd6 := zn s6 zd5 hd5
        have st6 := (st3.trans s5 b1).trans s6 b1
        refine ⟨avs, hd6, ?_, Z6, acc ++ [d], avs ++ [v], st6.mut b1 hD zd6, upd_same, (ra.mono ((s3.zz.trans s5.zz).trans s6.zz)).append (.cons r6 .nil), zd6, by rw [List.length_append]; simp; omega, h6⟩
        have e5 := ra.length
        have e6 : sizeLine = 16777216 := by decide
        omega
      | false =>
        exact iteF ⟨Z5, acc, avs, st3.trans s5 b1, hd5, ra.mono (s3.zz.trans s5.zz), zd5, by omega, by simpa using h5⟩
  · have e : i = ds.length := by omega
    subst e
    refine .inl ⟨stop _ (Nat.le_refl _), ?_⟩
    rw [List.drop_length] at h'
    exact q (.lst acc) (.ref D) (upd Z' D (.lst avs)) H' (s1.trans (st.frz b1 hD zd hd) O.bs.st) (.lst upd_same (ra.mono fun a u e => by rw [upd_ne (ne_of_none e zd)]; exact e)) h'
theorem de_lc {elt tg it : Expr} {ifs : List Expr} {scope : Scope} {own : List (Str × Nat)} {wi : WA} {g : WG} {wt : WT} {us : List Nat} (hN : X.N.Nodup) (hi : DI X k tg it wi) (ok : BlkOk X.N X.env.scope scope own)
    (hg : ∀ (s : Shared) (H : Hp) (C : Addr) (cl : List (Str × Addr)) (fp : List Addr), DG (X.blk s H scope (compEnvC scope cl C X.env) fp) k.still tg us g)
    (ht : ∀ (s : Shared) (H : Hp) (C : Addr) (cl : List (Str × Addr)) (fp : List Addr), DTs (X.blk s H scope (compEnvC scope cl C X.env) fp) k.still ifs wt)
    (he : ∀ (s : Shared) (H : Hp) (C : Addr) (cl : List (Str × Addr)) (fp : List Addr), DE (X.blk s H scope (compEnvC scope cl C X.env) fp) k.still elt w)
    (hus : ∀ i ∈ us, i ∈ own.map (·.2) := by decide) (hc : X.calm = true := by rfl) (hs : ∀ x, foldedSetIterable it X.env x = pure x := by intro _; rfl) : DE X k (.ListComp elt [⟨tg, it, ifs, 0⟩] scope pos) (wLc wi g wt w (own.map (·.2))) := by
  obtain ⟨ti, pi, fi⟩ := hi
  exact ⟨_, pe_lc (g := tGc (wc X k.s) k.still us g) (tt := tTc (wc X k.s) k.still wt) (te := tEc (wc X k.s) k.still w) hc hN pi ok (fun s H C cl fp => (hg s H C cl fp).pg) (fun s H C cl fp => (ht s H C cl fp).pt) (fun s H C cl fp => (he s H C cl fp).pe) hs, lc_core_d hus fi⟩
theorem ds_setLc {i : Nat} {y : Str} {py spos : Pos} {elt tg it : Expr} {ifs : List Expr} {scope : Scope} {own : List (Str × Nat)} {wi : WA} {g : WG} {wt : WT} {us : List Nat} (hN : X.N.Nodup)
    (hsw : swapsWith (.ListComp elt [⟨tg, it, ifs, 0⟩] scope pos) (some (.Name y py)) spos.line X.env = pure true) (hi : DI X k tg it wi) (ok : BlkOk X.N X.env.scope scope own)
    (hg : ∀ (s : Shared) (H : Hp) (C : Addr) (cl : List (Str × Addr)) (fp : List Addr), DG (X.blk s H scope (compEnvC scope cl C X.env) fp) k.still tg us g)
    (ht : ∀ (s : Shared) (H : Hp) (C : Addr) (cl : List (Str × Addr)) (fp : List Addr), DTs (X.blk s H scope (compEnvC scope cl C X.env) fp) k.still ifs wt)
    (he : ∀ (s : Shared) (H : Hp) (C : Addr) (cl : List (Str × Addr)) (fp : List Addr), DE (X.blk s H scope (compEnvC scope cl C X.env) fp) k.still elt w)
    (hus : ∀ i ∈ us, i ∈ own.map (·.2) := by decide) (hc : X.calm = true := by rfl) (hs : ∀ x, foldedSetIterable it X.env x = pure x := by intro _; rfl) (hy : X.N[i]? = some y := by rfl) (hyl : X.env.scope.names.lookup y = some .local := by rfl) :
    DS X k (.Assign [.Name y py] (.ListComp elt [⟨tg, it, ifs, 0⟩] scope pos) spos) (wSet i (wLc wi g wt w (own.map (·.2)))) := by
  obtain ⟨ti, pi, fi⟩ := hi
  refine ⟨_, ps_setLc (g := tGc (wc X k.s) k.still us g) (tt := tTc (wc X k.s) k.still wt) (te := tEc (wc X k.s) k.still w) hc hN hy hyl hsw pi ok (fun s H C cl fp => (hg s H C cl fp).pg) (fun s H C cl fp => (ht s H C cl fp).pt) (fun s H C cl fp => (he s H C cl fp).pe) hs, fun r Z H σ ρ d E O L h => ?_⟩
  exact lc_core_d hus fi r Z H σ ρ _ _ O h fun x v Z1 H1 s1 r1 h1 => L.nx Z1 H1 _ _ ((O.stp s1).set r1) h1
end
end Dl
set_option Elab.async false
set_option linter.all false
set_option maxRecDepth 100000
set_option maxHeartbeats 2000000
namespace Dl
open PySem PySem.Spec PyProof.Rows L2
/-! ### trees as data, for == -/
mutual
def D.py : D → PyData
  | .non => .none
  | .bl b => .bool b
  | .int i => .int i
  | .str s => .str s
  | .lst xs => .list (D.pyA xs)
  | .tup xs => .tuple (D.pyA xs)
  | _ => .none
def D.pyA : List D → List PyData
  | [] => []
  | x :: xs => x.py :: D.pyA xs
end
mutual
/-- no dict, no object, texts of characters -/
def D.fit : D → Bool
  | .non => true
  | .bl _ => true
  | .int _ => true
  | .str s => PyData.strOk s
  | .lst xs => D.fitA xs
  | .tup xs => D.fitA xs
  | _ => false
def D.fitA : List D → Bool
  | [] => true
  | x :: xs => x.fit && D.fitA xs
end
mutual
def D.dep : D → Nat
  | .lst xs => D.depA xs + 1
  | .tup xs => D.depA xs + 1
  | _ => 0
def D.depA : List D → Nat
  | [] => 0
  | x :: xs => max x.dep (D.depA xs)
end
mutual
theorem dep_py : ∀ d : D, d.py.depth = d.dep
  | .lst xs => by simp only [D.py, D.dep, PyData.depth, depA_py xs]
  | .tup xs => by simp only [D.py, D.dep, PyData.depth, depA_py xs]
  | .non => by simp only [D.py, D.dep, PyData.depth]
  | .bl _ => by simp only [D.py, D.dep, PyData.depth]
  | .int _ => by simp only [D.py, D.dep, PyData.depth]
  | .str _ => by simp only [D.py, D.dep, PyData.depth]
  | .dic _ => by simp only [D.py, D.dep, PyData.depth]
  | .ins _ _ => by simp only [D.py, D.dep, PyData.depth]
  | .drw => by simp only [D.py, D.dep, PyData.depth]
  | .scr _ => by simp only [D.py, D.dep, PyData.depth]
  | .ty _ => by simp only [D.py, D.dep, PyData.depth]
  | .rf _ => by simp only [D.py, D.dep, PyData.depth]
  | .exc _ _ _ => by simp only [D.py, D.dep, PyData.depth]
theorem depA_py : ∀ ds : List D, PyData.depthAll (D.pyA ds) = D.depA ds
  | [] => by simp only [D.pyA, D.depA, PyData.depthAll]
  | d :: ds => by simp only [D.pyA, D.depA, PyData.depthAll, dep_py d, depA_py ds]
end
mutual
theorem fit_py : ∀ d : D, d.fit = true → d.py.canLay0 = true
  | .lst xs, h => by
    simp only [D.fit] at h
    simp only [D.py, PyData.canLay0, fitA_py xs h]
  | .tup xs, h => by
    simp only [D.fit] at h
    simp only [D.py, PyData.canLay0, fitA_py xs h]
  | .non, _ => by simp only [D.py, PyData.canLay0]
  | .bl _, _ => by simp only [D.py, PyData.canLay0]
  | .int _, _ => by simp only [D.py, PyData.canLay0]
  | .str s, h => by
    simp only [D.fit] at h
    simp only [D.py, PyData.canLay0, h]
theorem fitA_py : ∀ ds : List D, D.fitA ds = true → PyData.canLayAll0 (D.pyA ds) = true
  | [], _ => by simp only [D.pyA, PyData.canLayAll0]
  | d :: ds, h => by
    simp only [D.fitA, Bool.and_eq_true] at h
    simp only [D.pyA, PyData.canLayAll0, fit_py d h.1, fitA_py ds h.2, Bool.and_self]
end
mutual
theorem rp_dp {c : Wc} {Z H : Hp} (e : Same Z H) : ∀ (d : D) (v : V), Rp c Z v d → d.fit = true → Dp c.K H v d.py
  | .lst xs, _, .lst h r, f => by
    simp only [D.fit] at f
    simp only [D.py]
    exact .lst (.inl (.inl (e _ _ h))) (rpa_dp e xs _ r f)
  | .tup xs, _, .tup h r, f => by
    simp only [D.fit] at f
    simp only [D.py]
    exact .tup (same_t e h) (rpa_dp e xs _ r f)
  | .non, _, .non, _ => by simp only [D.py]; exact .non
  | .bl b, _, .bl _, _ => by simp only [D.py]; exact .bl b
  | .int i, _, .int _, _ => by simp only [D.py]; exact .int i
  | .str s, _, .str _, _ => by simp only [D.py]; exact .str s
theorem rpa_dp {c : Wc} {Z H : Hp} (e : Same Z H) : ∀ (ds : List D) (vs : List V), RpA c Z vs ds → D.fitA ds = true → DpAll c.K H vs (D.pyA ds)
  | [], _, .nil, _ => by simp only [D.pyA]; exact .nil
  | d :: ds, _, .cons h r, f => by
    simp only [D.fitA, Bool.and_eq_true] at f
    simp only [D.pyA]
    exact .cons (rp_dp e d _ h f.1) (rpa_dp e ds _ r f.2)
end
/-- fit to be compared -/
def D.ok (d : D) : Prop := d.fit = true ∧ d.dep ≤ 64
theorem D.ok.shaped {d : D} (h : d.ok) : SeqAt.shaped d.py = true := by
  unfold SeqAt.shaped
  rw [fit_py d h.1, dep_py, decide_eq_true h.2]
  rfl
/-- Python's == of two trees -/
def deq (a b : D) : Bool := PyData.eqv a.py b.py
/-- .. where both are single values of a kind -/
def eqS : D → D → Option Bool
  | .str x, .str y => some (decide (x = y))
  | .int x, .int y => some (decide (x = y))
  | .bl x, .bl y => some (decide (x = y))
  | .non, .non => some true
  | .non, .str _ => some false
  | .str _, .non => some false
  | .non, .int _ => some false
  | .int _, .non => some false
  | .non, .bl _ => some false
  | .bl _, .non => some false
  | .int _, .str _ => some false
  | .str _, .int _ => some false
  | .bl _, .str _ => some false
  | .str _, .bl _ => some false
  | _, _ => none
def rdEq : R2D := fun a b Q => match eqS a b with
  | some r => Q (.bl r)
  | none => (a.ok ∧ b.ok) ∧ Q (.bl (deq a b))
def rdNe : R2D := fun a b Q => match eqS a b with
  | some r => Q (.bl (!r))
  | none => (a.ok ∧ b.ok) ∧ Q (.bl (!deq a b))
section
variable {X : Cx} {k : Cc}
theorem eqS_scal {c : Wc} {Z : Hp} {x y : V} {a b : D} {r : Bool} (h : eqS a b = some r) (ra : Rp c Z x a) (rb : Rp c Z y b) : scal x y = true ∧ decide (x = y) = r := by
  cases ra <;> cases rb <;> first
    | (simp only [eqS, Option.some.injEq] at h
       subst h
       refine ⟨rfl, ?_⟩
       simp)
    | (simp [eqS] at h)
theorem op_eq_d (hu : X.A.units + 64 < cLine) : OpR X (compareOp .Eq) (fun x y H Q => rEq x y H Q ∨ rEqD X.K x y H Q) := .or op_eq (op_eqD hu)
theorem op_ne_d (hu : X.A.units + 64 < cLine) : OpR X (compareOp .NotEq) (fun x y H Q => rNe x y H Q ∨ rNeD X.K x y H Q) := .or op_ne (op_neD hu)
theorem o2_eq : Op2 X k (fun x y H Q => rEq x y H Q ∨ rEqD X.K x y H Q) rdEq := by
  intro Z H x y a b Qd Q B ra rb h q
  unfold rdEq at h
  cases e : eqS a b with
  | some r =>
    rw [e] at h
    obtain ⟨h1, h2⟩ := eqS_scal e ra rb
    exact .inl ⟨h1, by rw [h2]; exact q _ _ Z H (.refl B) (.bl _) h⟩
  | none =>
    rw [e] at h
    obtain ⟨⟨oa, ob⟩, h⟩ := h
    exact .inr ⟨a.py, b.py, rp_dp (c := wc X k.s) B.zh a x ra oa.1, rp_dp (c := wc X k.s) B.zh b y rb ob.1, oa.shaped, ob.shaped, q _ _ Z H (.refl B) (.bl _) h⟩
theorem o2_ne : Op2 X k (fun x y H Q => rNe x y H Q ∨ rNeD X.K x y H Q) rdNe := by
  intro Z H x y a b Qd Q B ra rb h q
  unfold rdNe at h
  cases e : eqS a b with
  | some r =>
    rw [e] at h
    obtain ⟨h1, h2⟩ := eqS_scal e ra rb
    exact .inl ⟨h1, by rw [h2]; exact q _ _ Z H (.refl B) (.bl _) h⟩
  | none =>
    rw [e] at h
    obtain ⟨⟨oa, ob⟩, h⟩ := h
    exact .inr ⟨a.py, b.py, rp_dp (c := wc X k.s) B.zh a x ra oa.1, rp_dp (c := wc X k.s) B.zh b y rb ob.1, oa.shaped, ob.shaped, q _ _ Z H (.refl B) (.bl _) h⟩
/-! ### whole numbers -/
def rdI (C : Int → Int → Prop) (g : Int → Int → D) : R2D := fun a b Q => a.I fun i => b.I fun j => C i j ∧ Q (g i j)
def rdI0 (g : Int → Int → D) : R2D := fun a b Q => a.I fun i => b.I fun j => Q (g i j)
theorem o2_int {C : Int → Int → Prop} {g : Int → Int → V} {gd : Int → Int → D} (hg : ∀ c Z i j, Rp c Z (g i j) (gd i j)) : Op2 X k (rI C g) (rdI C gd) := by
  intro Z H x y a b Qd Q B ra rb h q
  obtain ⟨i, e1, h1⟩ := D.I_ex h
  obtain ⟨j, e2, hc, h2⟩ := D.I_ex h1
  subst e1 e2
  cases ra
  cases rb
  exact ⟨i, j, rfl, rfl, hc, q _ _ Z H (.refl B) (hg _ _ _ _) h2⟩
theorem o2_int0 {g : Int → Int → V} {gd : Int → Int → D} (hg : ∀ c Z i j, Rp c Z (g i j) (gd i j)) : Op2 X k (rI0 g) (rdI0 gd) := by
  intro Z H x y a b Qd Q B ra rb h q
  obtain ⟨i, e1, h1⟩ := D.I_ex h
  obtain ⟨j, e2, h2⟩ := D.I_ex h1
  subst e1 e2
  cases ra
  cases rb
  exact ⟨i, j, rfl, rfl, q _ _ Z H (.refl B) (hg _ _ _ _) h2⟩
variable {a b e c : Expr} {es : List Expr} {wa wb w wc' : WE} {pos p : Pos}
theorem de_add (ha : DE X k a wa) (hb : DE X k b wb) : DE X k (.BinOp a .Add b pos) (wOp (rdI0 fun i j => .int (i + j)) wa wb) := de_op op_add (o2_int0 fun _ _ _ _ => .int _) ha hb
theorem de_sub (ha : DE X k a wa) (hb : DE X k b wb) : DE X k (.BinOp a .Sub b pos) (wOp (rdI0 fun i j => .int (i - j)) wa wb) := de_op op_sub (o2_int0 fun _ _ _ _ => .int _) ha hb
theorem de_mul (ha : DE X k a wa) (hb : DE X k b wb) : DE X k (.BinOp a .Mult b pos) (wOp (rdI CMul fun i j => .int (i * j)) wa wb) := de_op op_mul (o2_int fun _ _ _ _ => .int _) ha hb
theorem de_mod (ha : DE X k a wa) (hb : DE X k b wb) : DE X k (.BinOp a .Mod b pos) (wOp (rdI (fun _ j => 0 < j) fun i j => .int (i % j)) wa wb) := de_op op_mod (o2_int fun _ _ _ _ => .int _) ha hb
theorem de_fdiv (ha : DE X k a wa) (hb : DE X k b wb) : DE X k (.BinOp a .FloorDiv b pos) (wOp (rdI CDivW fun i j => .int (i / j)) wa wb) := de_op op_fdivW (o2_int fun _ _ _ _ => .int _) ha hb
theorem de_pow (ha : DE X k a wa) (hb : DE X k b wb) : DE X k (.BinOp a .Pow b pos) (wOp (rdI CPow fun i j => .int (i ^ j.toNat)) wa wb) := de_op op_pow (o2_int fun _ _ _ _ => .int _) ha hb
theorem de_shl (ha : DE X k a wa) (hb : DE X k b wb) : DE X k (.BinOp a .LShift b pos) (wOp (rdI CPow fun i j => .int (i * 2 ^ j.toNat)) wa wb) := de_op op_shl (o2_int fun _ _ _ _ => .int _) ha hb
def wNeg (wa : WE) : WE := fun ρ Q => wa ρ fun d => d.I fun i => Q (.int (-i))
theorem de_neg (ha : DE X k a wa) : DE X k (.UnaryOp .USub a pos) (wNeg wa) := by
  obtain ⟨t, p, f⟩ := ha
  refine ⟨_, pe_un un_neg p, fun r Z H σ ρ Qd Q O h q => ?_⟩
  refine f r Z H σ ρ _ _ O h fun d v Z1 H1 s1 r1 h1 => ?_
  obtain ⟨i, e0, h2⟩ := D.I_ex h1
  subst e0
  cases r1
  exact ⟨i, rfl, q _ _ Z1 H1 s1 (.int _) h2⟩
abbrev rdLt : R2D := rdI0 fun i j => .bl (decide (i < j))
abbrev rdLe : R2D := rdI0 fun i j => .bl (decide (i ≤ j))
abbrev rdGt : R2D := rdI0 fun i j => .bl (decide (j < i))
abbrev rdGe : R2D := rdI0 fun i j => .bl (decide (j ≤ i))
theorem o2_lt : Op2 X k (rI0 fun i j => .bl (decide (i < j))) rdLt := o2_int0 fun _ _ _ _ => .bl _
theorem o2_le : Op2 X k (rI0 fun i j => .bl (decide (i ≤ j))) rdLe := o2_int0 fun _ _ _ _ => .bl _
theorem o2_gt : Op2 X k (rI0 fun i j => .bl (decide (j < i))) rdGt := o2_int0 fun _ _ _ _ => .bl _
theorem o2_ge : Op2 X k (rI0 fun i j => .bl (decide (j ≤ i))) rdGe := o2_int0 fun _ _ _ _ => .bl _
/-! ### None -/
def rdIsN : R2D := fun a b Q => b = .non ∧ Q (.bl (match a with | .non => true | _ => false))
def rdNotN : R2D := fun a b Q => b = .non ∧ Q (.bl (match a with | .non => false | _ => true))
theorem o2_isN : Op2 X k (fun x y H Q => y = .non ∧ Q (.bl (decide (x = .non))) H) rdIsN := by
  intro Z H x y a b Qd Q B ra rb h q
  obtain ⟨rfl, h⟩ := h
  cases rb
  refine ⟨rfl, q _ _ Z H (.refl B) (.bl _) ?_⟩
  cases ra <;> exact h
theorem o2_notN : Op2 X k (fun x y H Q => y = .non ∧ Q (.bl (!decide (x = .non))) H) rdNotN := by
  intro Z H x y a b Qd Q B ra rb h q
  obtain ⟨rfl, h⟩ := h
  cases rb
  refine ⟨rfl, q _ _ Z H (.refl B) (.bl _) ?_⟩
  cases ra <;> exact h
/-! ### texts -/
def rdAddS : R2D := fun a b Q => a.S fun x => b.S fun y => x.length + y.length ≤ 1000000 ∧ Q (.str (x ++ y))
theorem o2_addS : Op2 X k (fun x y H Q => ∃ i j, x = .str i ∧ y = .str j ∧ i.length + j.length ≤ sizeLine ∧ Q (.str (i ++ j)) H) rdAddS := by
  intro Z H x y a b Qd Q B ra rb h q
  obtain ⟨i, e1, h1⟩ := D.S_ex h
  obtain ⟨j, e2, hc, h2⟩ := D.S_ex h1
  subst e1 e2
  cases ra
  cases rb
  exact ⟨i, j, rfl, rfl, Nat.le_trans hc (by decide), q _ _ Z H (.refl B) (.str _) h2⟩
theorem de_addS (ha : DE X k a wa) (hb : DE X k b wb) : DE X k (.BinOp a .Add b pos) (wOp rdAddS wa wb) := de_op op_add_str o2_addS ha hb
/-- one sign in a text -/
def rdInS (neg : Bool) : R2D := fun a b Q => a.S fun x => b.S fun y => x.length = 1 ∧ Q (.bl (neg.xor (decide (x.cps.getD 0 0 ∈ y.cps.toList))))
theorem sign_of {x : Str} (h : x.length = 1) : x = ⟨#[x.cps.getD 0 0]⟩ := by
  obtain ⟨⟨l⟩⟩ := x
  match l, h with
  | [c], _ => rfl
theorem o2_inS : Op2 X k (fun x y H Q => ∃ (c : Nat) (z : Str), x = .str ⟨#[c]⟩ ∧ y = .str z ∧ Q (.bl (decide (c ∈ z.cps.toList))) H) (rdInS false) := by
  intro Z H x y a b Qd Q B ra rb h q
  obtain ⟨i, e1, h1⟩ := D.S_ex h
  obtain ⟨j, e2, hc, h2⟩ := D.S_ex h1
  subst e1 e2
  cases ra
  cases rb
  exact ⟨_, j, congrArg V.str (sign_of hc), rfl, q _ _ Z H (.refl B) (.bl _) (by simpa using h2)⟩
theorem o2_notInS : Op2 X k (fun x y H Q => ∃ (c : Nat) (z : Str), x = .str ⟨#[c]⟩ ∧ y = .str z ∧ Q (.bl (!decide (c ∈ z.cps.toList))) H) (rdInS true) := by
  intro Z H x y a b Qd Q B ra rb h q
  obtain ⟨i, e1, h1⟩ := D.S_ex h
  obtain ⟨j, e2, hc, h2⟩ := D.S_ex h1
  subst e1 e2
  cases ra
  cases rb
  exact ⟨_, j, congrArg V.str (sign_of hc), rfl, q _ _ Z H (.refl B) (.bl _) (by simpa using h2)⟩
/-- s[i], xs[i], t[i] -/
def rdIxS : R2D := fun a b Q => a.S fun x => b.I fun i => x.length ≤ 1000000 ∧ ∃ n, atI x.cps.toList i = some n ∧ Q (.str ⟨#[n]⟩)
theorem o2_ixS : Op2 X k rIxS rdIxS := by
  intro Z H x y a b Qd Q B ra rb h q
  obtain ⟨s, e1, h1⟩ := D.S_ex h
  obtain ⟨i, e2, hl, n, ha, h2⟩ := D.I_ex h1
  subst e1 e2
  cases ra
  cases rb
  exact ⟨s, i, n, rfl, rfl, Nat.le_trans hl (by decide), ha, q _ _ Z H (.refl B) (.str _) h2⟩
theorem rpa_at {c : Wc} {Z : Hp} {vs : List V} {ds : List D} {i : Int} {d : D} (r : RpA c Z vs ds) (h : atI ds i = some d) : ∃ v, atI vs i = some v ∧ Rp c Z v d := by
  unfold atI at h ⊢
  rw [r.length]
  cases e : ixN ds.length i with
  | none =>
    rw [e] at h
    cases h
  | some j =>
    rw [e] at h
    obtain ⟨v, h1, h2⟩ := r.get j h
    exact ⟨v, h1, h2⟩
def rdIxT : R2D := fun a b Q => a.T fun ds => b.I fun i => ∃ d, atI ds i = some d ∧ Q d
def rdIxL : R2D := fun a b Q => a.L fun ds => b.I fun i => ∃ d, atI ds i = some d ∧ Q d
theorem o2_ixT : Op2 X k (rIxT X.K) rdIxT := by
  intro Z H x y a b Qd Q B ra rb h q
  obtain ⟨ds, e1, h1⟩ := D.T_ex h
  obtain ⟨i, e2, d, hd, h2⟩ := D.I_ex h1
  subst e1 e2
  cases rb
  cases ra with
  | tup hs hr =>
    obtain ⟨v, h3, h4⟩ := rpa_at hr hd
    exact ⟨_, _, i, v, rfl, rfl, same_t B.zh hs, h3, q d v Z H (.refl B) h4 h2⟩
theorem o2_ixL : Op2 X k (rIxL X.K) rdIxL := by
  intro Z H x y a b Qd Q B ra rb h q
  obtain ⟨ds, e1, h1⟩ := D.L_ex h
  obtain ⟨i, e2, d, hd, h2⟩ := D.I_ex h1
  subst e1 e2
  cases rb
  cases ra with
  | lst hs hr =>
    obtain ⟨v, h3, h4⟩ := rpa_at hr hd
    exact ⟨_, _, i, v, rfl, rfl, .inl (.inl (B.zh _ _ hs)), h3, q d v Z H (.refl B) h4 h2⟩
/-- s[i:j] -/
def rdSlS : RSD := fun a i j Q => a.S fun x => x.length ≤ 1000000 ∧ Q (.str (cutS x i j))
theorem os_slS : OpS X k rSlS rdSlS := by
  intro Z H x d i j Qd Q B ra h q
  obtain ⟨s, e1, hl, h1⟩ := D.S_ex h
  subst e1
  cases ra
  exact ⟨s, rfl, Nat.le_trans hl (by decide), q _ _ Z H (.refl B) (.str _) h1⟩
def cutD (xs : List D) (lo hi : Option Int) : List D := (xs.drop (HT.sIx xs.length 0 lo)).take (HT.sIx xs.length xs.length hi - HT.sIx xs.length 0 lo)
theorem rpa_cut {c : Wc} {Z : Hp} {vs : List V} {ds : List D} {i j : Option Int} (r : RpA c Z vs ds) : RpA c Z (cutV vs i j) (cutD ds i j) := by
  unfold cutV cutD
  rw [r.length]
  exact (r.drop _).take _
def rdSlL : RSD := fun a i j Q => a.L fun xs => Q (.lst (cutD xs i j))
theorem os_slL : OpS X k (rSlL X.K) rdSlL := by
  intro Z H x d i j Qd Q B ra h q
  obtain ⟨s, e1, h1⟩ := D.L_ex h
  subst e1
  cases ra with
  | lst hs hr => exact ⟨_, _, rfl, .inl (.inl (B.zh _ _ hs)), fun p hp => q _ _ _ _ (.add B hp) (rp_lst (c := wc X k.s) (rpa_cut hr) B hp) h1⟩
/-! ### lists, tuples put together -/
def rdCatL : R2D := fun a b Q => a.L fun xs => b.L fun ys => xs.length + ys.length ≤ 1000000 ∧ Q (.lst (xs ++ ys))
theorem o2_catL : Op2 X k rCat rdCatL := by
  intro Z H x y a b Qd Q B ra rb h q
  obtain ⟨xs, e1, h1⟩ := D.L_ex h
  obtain ⟨ys, e2, hc, h2⟩ := D.L_ex h1
  subst e1 e2
  cases ra with
  | lst hs hr =>
    cases rb with
    | lst hs2 hr2 => exact ⟨_, _, _, _, rfl, rfl, B.zh _ _ hs, B.zh _ _ hs2, by rw [hr.length, hr2.length]; exact Nat.le_trans hc (by decide), fun p hp => q _ _ _ _ (.add B hp) (rp_lst (c := wc X k.s) (hr.append hr2) B hp) h2⟩
theorem de_catL (ha : DE X k a wa) (hb : DE X k b wb) : DE X k (.BinOp a .Add b pos) (wOp rdCatL wa wb) := de_op op_cat o2_catL ha hb
def rdCatT : R2D := fun a b Q => a.T fun xs => b.T fun ys => (xs ≠ [] ∧ xs.length + ys.length ≤ 1000000) ∧ Q (.tup (xs ++ ys))
theorem o2_catT : Op2 X k (rCatT X.K) rdCatT := by
  intro Z H x y a b Qd Q B ra rb h q
  obtain ⟨xs, e1, h1⟩ := D.T_ex h
  obtain ⟨ys, e2, ⟨hn, hc⟩, h2⟩ := D.T_ex h1
  subst e1 e2
  cases ra with
  | tup hs hr =>
    cases rb with
    | tup hs2 hr2 =>
      refine ⟨_, _, _, _, rfl, rfl, same_t B.zh hs, same_t B.zh hs2, fun z => hn ?_, by rw [hr.length, hr2.length]; exact Nat.le_trans hc (by decide), fun z => ?_, fun _ p hp => q _ _ _ _ (.add B hp) (rp_tup (c := wc X k.s) (hr.append hr2) B hp) h2⟩
      · subst z
        cases hr
        rfl
      · subst z
        cases hr2
        rw [List.append_nil] at h2
        exact q _ _ Z H (.refl B) (.tup hs hr) h2
theorem de_catT (ha : DE X k a wa) (hb : DE X k b wb) : DE X k (.BinOp a .Add b pos) (wOp rdCatT wa wb) := de_op op_catT o2_catT ha hb
/-! ### built-in functions -/
def D.len : D → Option Nat
  | .str s => if s.length ≤ 1000000 then some s.length else none
  | .lst xs => some xs.length
  | .tup xs => some xs.length
  | .scr xs => some xs.length
  | _ => none
def rdLen : RAD := fun ds Q => match ds with
  | [d] => match d.len with
    | some n => Q (.int n)
    | none => False
  | _ => False
theorem call_len_d : CallR X (.builtin "len") (fun xs H Q => (∃ z, xs = [.str z] ∧ z.length ≤ sizeLine ∧ Q (.int z.length) H) ∨ ∃ p ys, xs = [.ref p] ∧ (SqL X.K H p ys ∨ SqT X.K H p ys) ∧ Q (.int ys.length) H) := .or call_len_str call_len_seq
theorem oa_len : OpA X k (fun xs H Q => (∃ z, xs = [.str z] ∧ z.length ≤ sizeLine ∧ Q (.int z.length) H) ∨ ∃ p ys, xs = [.ref p] ∧ (SqL X.K H p ys ∨ SqT X.K H p ys) ∧ Q (.int ys.length) H) rdLen := by
  intro Z H xs ds Qd Q B ra h q
  match ds, xs, ra, h with
  | [d], [v], .cons r .nil, h =>
    unfold rdLen at h
    cases e : d.len with
    | none =>
      simp only [e] at h
    | some n =>
      simp only [e] at h
      cases r with
      | str z =>
        simp only [D.len] at e
        split at e
        · rename_i hz
          cases e
          exact .inl ⟨z, rfl, Nat.le_trans hz (by decide), q _ _ Z H (.refl B) (.int _) h⟩
        · cases e
      | lst hs hr =>
        simp only [D.len, Option.some.injEq] at e
        subst e
        rw [← hr.length] at h
        exact .inr ⟨_, _, rfl, .inl (.inl (.inl (B.zh _ _ hs))), q _ _ Z H (.refl B) (.int _) h⟩
      | tup hs hr =>
        simp only [D.len, Option.some.injEq] at e
        subst e
        rw [← hr.length] at h
        exact .inr ⟨_, _, rfl, .inr (same_t B.zh hs), q _ _ Z H (.refl B) (.int _) h⟩
      | scr hs =>
        simp only [D.len, Option.some.injEq] at e
        subst e
        refine .inr ⟨_, _, rfl, .inl (B.zh.seq hs), q _ _ Z H (.refl B) (.int _) ?_⟩
        rw [List.length_map]
        exact h
      | _ => simp [D.len] at e
theorem de_len {u : WA} (hm : X.mg "len" = none) (ha : DA X k [e] u) (hg : Gl X "len" := by rfl) (he : starEach [e] X.env = (false, eval e X.env) :: starEach [] X.env := by rfl) : DE X k (.Call (.Name "len" p) [e] [] pos) (wCB rdLen u) := de_b call_len_d oa_len hm PySem.boot_len ha hg (by decide) (by decide) he
def rdOrd : RAD := fun ds Q => match ds with
  | [.str x] => x.length = 1 ∧ Q (.int (x.cps.getD 0 0 : Nat))
  | _ => False
theorem oa_ord : OpA X k (fun xs H Q => ∃ x, xs = [.str x] ∧ x.length = 1 ∧ Q (.int (x.cps.getD 0 0 : Nat)) H) rdOrd := by
  intro Z H xs ds Qd Q B ra h q
  match ds, xs, ra, h with
  | [.str x], [_], .cons (.str _) .nil, h => exact ⟨x, rfl, h.1, q _ _ Z H (.refl B) (.int _) h.2⟩
theorem de_ord {u : WA} (hm : X.mg "ord" = none) (ha : DA X k [e] u) (hg : Gl X "ord" := by rfl) (he : starEach [e] X.env = (false, eval e X.env) :: starEach [] X.env := by rfl) : DE X k (.Call (.Name "ord" p) [e] [] pos) (wCB rdOrd u) := de_b call_ord oa_ord hm PyProof.Rows.boot_ord ha hg (by decide) (by decide) he
def D.blA : List D → Option (List Bool)
  | [] => some []
  | .bl b :: r => (D.blA r).map (b :: ·)
  | _ => none
theorem blA_map : ∀ {ds : List D} {bs : List Bool}, D.blA ds = some bs → ds = bs.map .bl
  | [], _, h => by
    cases h
    rfl
  | .bl b :: r, _, h => by
    simp only [D.blA, Option.map_eq_some_iff] at h
    obtain ⟨c, h1, rfl⟩ := h
    rw [blA_map h1]
    rfl
theorem rpa_bl {c : Wc} {Z : Hp} : ∀ {bs : List Bool} {vs : List V}, RpA c Z vs (bs.map .bl) → vs = bs.map V.bl
  | [], _, .nil => rfl
  | b :: bs, _, .cons (.bl _) r => by rw [rpa_bl r]; rfl
def rdAll : RAD := fun ds Q => match ds with
  | [d] => d.L fun xs => match D.blA xs with
    | some bs => Q (.bl (bs.all id))
    | none => False
  | _ => False
def rdAny : RAD := fun ds Q => match ds with
  | [d] => d.L fun xs => match D.blA xs with
    | some bs => Q (.bl (bs.any id))
    | none => False
  | _ => False
theorem oa_all : OpA X k (rAll X.K) rdAll := by
  intro Z H xs ds Qd Q B ra h q
  match ds, xs, ra, h with
  | [d], [v], .cons r .nil, h =>
    obtain ⟨ys, e0, h1⟩ := D.L_ex h
    subst e0
    cases e : D.blA ys with
    | none =>
      rw [e] at h1
      exact h1.elim
    | some bs =>
      rw [e] at h1
      have e2 := blA_map e
      subst e2
      cases r with
      | lst hs hr =>
        have e3 := rpa_bl hr
        subst e3
        exact ⟨_, bs, rfl, .inl (.inl (B.zh _ _ hs)), q _ _ Z H (.refl B) (.bl _) h1⟩
theorem oa_any : OpA X k (rAny X.K) rdAny := by
  intro Z H xs ds Qd Q B ra h q
  match ds, xs, ra, h with
  | [d], [v], .cons r .nil, h =>
    obtain ⟨ys, e0, h1⟩ := D.L_ex h
    subst e0
    cases e : D.blA ys with
    | none =>
      rw [e] at h1
      exact h1.elim
    | some bs =>
      rw [e] at h1
      have e2 := blA_map e
      subst e2
      cases r with
      | lst hs hr =>
        have e3 := rpa_bl hr
        subst e3
        exact ⟨_, bs, rfl, .inl (.inl (B.zh _ _ hs)), q _ _ Z H (.refl B) (.bl _) h1⟩
theorem boot_all : bootBuiltins "all" = some (.builtin "all") := by decide +kernel
theorem boot_any : bootBuiltins "any" = some (.builtin "any") := by decide +kernel
theorem de_all {u : WA} (hm : X.mg "all" = none) (ha : DA X k [e] u) (hc : X.calm = true := by rfl) (hg : Gl X "all" := by rfl) (he : starEach [e] X.env = (false, eval e X.env) :: starEach [] X.env := by rfl) : DE X k (.Call (.Name "all" p) [e] [] pos) (wCB rdAll u) := de_b (cr_all hc) oa_all hm boot_all ha hg (by decide) (by decide) he
theorem de_any {u : WA} (hm : X.mg "any" = none) (ha : DA X k [e] u) (hc : X.calm = true := by rfl) (hg : Gl X "any" := by rfl) (he : starEach [e] X.env = (false, eval e X.env) :: starEach [] X.env := by rfl) : DE X k (.Call (.Name "any" p) [e] [] pos) (wCB rdAny u) := de_b (cr_any hc) oa_any hm boot_any ha hg (by decide) (by decide) he
/-! ### isinstance by a built-in class -/
def tyN : D → Option String
  | .non => some "NoneType"
  | .bl _ => some "bool"
  | .int _ => some "int"
  | .str _ => some "str"
  | .lst _ => some "list"
  | .tup _ => some "tuple"
  | .dic _ => some "dict"
  | _ => none
def isaT (t n : String) : Bool := t == n || (t == "bool" && n == "int")
theorem kit_tab : ∀ t ∈ ["NoneType", "bool", "int", "str", "list", "tuple", "dict"], ∀ n ∈ ["bool", "int", "str", "list", "tuple", "dict"], kitB t n = some (isaT t n) := by decide +kernel
theorem tyN_in {d : D} {t : String} (h : tyN d = some t) : t ∈ ["NoneType", "bool", "int", "str", "list", "tuple", "dict"] := by
  cases d <;> simp only [tyN, Option.some.injEq] at h <;> first | (subst h; decide) | cases h
theorem tyX_of {c : Wc} {Z H : Hp} {v : V} {d : D} {t : String} (r : Rp c Z v d) (e : Same Z H) (h : tyN d = some t) : TyX c.K H v (.type t) := by
  cases r with
  | non => cases h; exact .base .non
  | bl b => cases h; exact .base (.bl b)
  | int b => cases h; exact .base (.int b)
  | str b => cases h; exact .base (.str b)
  | lst hs hr => cases h; exact .base (.lst (e _ _ hs))
  | dic hs hr =>
    cases h
    rcases rd_mono e hs with h | ⟨o, h⟩
    · exact .base (.dK h)
    · exact .fDict h
  | tup hs hr =>
    cases h
    rcases same_t e hs with (h | ⟨o, h⟩) | ⟨o, _, _, h1, h2, _⟩
    · exact .base (.tup h)
    · exact .fTuple h
    · exact .kTuple h1 h2
  | _ => cases h
def rdIsi : RAD := fun ds Q => match ds with
  | [x, .ty n] => n ∈ ["bool", "int", "str", "list", "tuple", "dict"] ∧ (match tyN x with
    | some t => Q (.bl (isaT t n))
    | none => False)
  | _ => False
theorem oa_isi : OpA X k (rIsi X.K) rdIsi := by
  intro Z H xs ds Qd Q B ra h q
  match ds, xs, ra, h with
  | [x, .ty n], [v, _], .cons r (.cons (.ty _) .nil), h =>
    obtain ⟨hn, h⟩ := h
    cases e : tyN x with
    | none =>
      rw [e] at h
      exact h.elim
    | some t =>
      rw [e] at h
      exact ⟨v, .ty n, .type t, .type n, isaT t n, rfl, .ty n, tyX_of (c := wc X k.s) r B.zh e, kit_ty (kit_tab t (tyN_in e) n hn), q _ _ Z H (.refl B) (.bl _) h⟩
theorem de_isi {u : WA} (hm : X.mg "isinstance" = none) (ha : DA X k (e :: es) u) (hg : Gl X "isinstance" := by rfl) (he : starEach (e :: es) X.env = (false, eval e X.env) :: starEach es X.env := by rfl) (hpl : (backTo pos (starEach es X.env)).any (·.1) = false := by rfl) : DE X k (.Call (.Name "isinstance" p) (e :: es) [] pos) (wCB rdIsi u) :=
  de_b call_isi oa_isi hm PyProof.Rows.boot_isinstance ha hg (by decide) (by decide) he hpl
/-- a built-in class as a value -/
theorem de_tyN {x : Str} {n : String} (hm : X.mg x = none) (hv : bootBuiltins x = some (.type n)) (hg : Gl X x := by rfl) (hn : x ≠ "__name__" := by decide) (hdb : (x == ("__debug__" : Str)) = false := by decide) : DE X k (.Name x pos) (wC (.ty n)) :=
  ⟨_, pe_bltn (v := .ty n) hg hm hv rfl hn hdb, fun r Z H σ ρ Qd Q O h q => q _ _ Z H (.refl O.bs) (.ty n) h⟩
/-! ### methods of texts -/
theorem om_bl {g : Str → Bool} : ∀ (Z H : Hp) (z : Str) (Qd : D → Prop) (Q : VK), Bs k.s Z H → (fun (z : Str) (Q : D → Prop) => Q (.bl (g z))) z Qd → (∀ d v Z' H', Stp k.s Z H Z' H' → Rp (wc X k.s) Z' v d → Qd d → Q v H') →
    (fun x xs H (Q : VK) => ∃ a, x = V.str a ∧ xs = ([] : List V) ∧ True ∧ Q (.bl (g a)) H) (.str z) [] H Q := fun Z H z Qd Q B h q => ⟨z, rfl, rfl, trivial, q _ _ Z H (.refl B) (.bl _) h⟩
abbrev wSB (g : Str → Bool) (w : WE) : WE := wM0 (fun z Q => Q (.bl (g z))) w
theorem om_bl1 {g : Str → Str → Bool} : ∀ (Z H : Hp) (z : Str) (y : V) (d : D) (Qd : D → Prop) (Q : VK), Bs k.s Z H → Rp (wc X k.s) Z y d → (fun (z : Str) (d : D) (Q : D → Prop) => d.S fun y => Q (.bl (g z y))) z d Qd → (∀ d v Z' H', Stp k.s Z H Z' H' → Rp (wc X k.s) Z' v d → Qd d → Q v H') →
    (fun x xs H (Q : VK) => ∃ a b, x = V.str a ∧ xs = [V.str b] ∧ Q (.bl (g a b)) H) (.str z) [y] H Q := fun Z H z y d Qd Q B r h q => by
  obtain ⟨b, e0, h1⟩ := D.S_ex h
  subst e0
  cases r
  exact ⟨z, b, rfl, rfl, q _ _ Z H (.refl B) (.bl _) h1⟩
abbrev wSB1 (g : Str → Str → Bool) (w u : WE) : WE := wM1 (fun z d Q => d.S fun y => Q (.bl (g z y))) w u
def D.strA : List D → Option (List Str)
  | [] => some []
  | .str b :: r => (D.strA r).map (b :: ·)
  | _ => none
theorem strA_map : ∀ {ds : List D} {bs : List Str}, D.strA ds = some bs → ds = bs.map .str
  | [], _, h => by
    cases h
    rfl
  | .str b :: r, _, h => by
    simp only [D.strA, Option.map_eq_some_iff] at h
    obtain ⟨c, h1, rfl⟩ := h
    rw [strA_map h1]
    rfl
theorem rpa_str {c : Wc} {Z : Hp} : ∀ {bs : List Str} {vs : List V}, RpA c Z vs (bs.map .str) → vs = bs.map V.str
  | [], _, .nil => rfl
  | b :: bs, _, .cons (.str _) r => by rw [rpa_str r]; rfl
def rdJoin : Str → D → (D → Prop) → Prop := fun z d Q => d.L fun xs => match D.strA xs with
  | some ys => (ys.map (·.length)).sum + ys.length * z.length ≤ 1000000 ∧ Q (.str (Txt.join z ys))
  | none => False
theorem om_join : ∀ (Z H : Hp) (z : Str) (y : V) (d : D) (Qd : D → Prop) (Q : VK), Bs k.s Z H → Rp (wc X k.s) Z y d → rdJoin z d Qd → (∀ d v Z' H', Stp k.s Z H Z' H' → Rp (wc X k.s) Z' v d → Qd d → Q v H') →
    (fun x xs H (Q : VK) => ∃ a p, ∃ ys : List Str, x = V.str a ∧ xs = [V.ref p] ∧ (SqL X.K H p (ys.map V.str) ∨ SqT X.K H p (ys.map V.str)) ∧ (ys.map (·.length)).sum + ys.length * a.length ≤ 16777216 ∧ Q (.str (Txt.join a ys)) H) (.str z) [y] H Q := fun Z H z y d Qd Q B r h q => by
  obtain ⟨xs, e0, h1⟩ := D.L_ex h
  subst e0
  cases e : D.strA xs with
  | none =>
    rw [e] at h1
    exact h1.elim
  | some ys =>
    rw [e] at h1
    have e2 := strA_map e
    subst e2
    cases r with
    | lst hs hr =>
      have e3 := rpa_str hr
      subst e3
      exact ⟨z, _, ys, rfl, rfl, .inl (.inl (.inl (B.zh _ _ hs))), Nat.le_trans h1.1 (by decide), q _ _ Z H (.refl B) (.str _) h1.2⟩
end
end Dl
set_option Elab.async false
set_option linter.all false
set_option maxRecDepth 100000
set_option maxHeartbeats 2000000
namespace Dl
open PySem PySem.Spec PyProof.Rows L2
section
variable {X : Cx} {k : Cc} {a b e c : Expr} {es : List Expr} {wa wb w wc' : WE} {pos p pos2 : Pos}
/-! ### + , subscripts, slices of any kind -/
def rdAdd : R2D := fun a b Q => match a, b with
  | .int i, .int j => Q (.int (i + j))
  | .str x, .str y => x.length + y.length ≤ 1000000 ∧ Q (.str (x ++ y))
  | .lst xs, .lst ys => xs.length + ys.length ≤ 1000000 ∧ Q (.lst (xs ++ ys))
  | .tup xs, .tup ys => (xs ≠ [] ∧ xs.length + ys.length ≤ 1000000) ∧ Q (.tup (xs ++ ys))
  | _, _ => False
theorem de_plus (ha : DE X k a wa) (hb : DE X k b wb) : DE X k (.BinOp a .Add b pos) (wOp rdAdd wa wb) := by
  refine de_op (.or op_add (.or op_add_str (.or op_cat op_catT))) ?_ ha hb
  intro Z H x y a b Qd Q B ra rb h q
  cases ra with
  | int i => cases rb with
    | int j => exact .inl (o2_int0 (X := X) (k := k) (gd := fun i j => .int (i + j)) (fun _ _ _ _ => .int _) Z H _ _ (.int i) (.int j) Qd Q B (.int i) (.int j) h q)
    | _ => exact h.elim
  | str x => cases rb with
    | str y => exact .inr (.inl (o2_addS (X := X) (k := k) Z H _ _ (.str x) (.str y) Qd Q B (.str x) (.str y) h q))
    | _ => exact h.elim
  | lst hs hr => cases rb with
    | lst hs2 hr2 => exact .inr (.inr (.inl (o2_catL (X := X) (k := k) Z H _ _ (.lst _) (.lst _) Qd Q B (.lst hs hr) (.lst hs2 hr2) h q)))
    | _ => exact h.elim
  | tup hs hr => cases rb with
    | tup hs2 hr2 => exact .inr (.inr (.inr (o2_catT (X := X) (k := k) Z H _ _ (.tup _) (.tup _) Qd Q B (.tup hs hr) (.tup hs2 hr2) h q)))
    | _ => exact h.elim
  | _ => exact h.elim
def rdIx : R2D := fun a b Q => match a with
  | .str x => b.I fun i => x.length ≤ 1000000 ∧ (match atI x.cps.toList i with
    | some n => Q (.str ⟨#[n]⟩)
    | none => False)
  | .lst xs => b.I fun i => match atI xs i with
    | some d => Q d
    | none => False
  | .tup xs => b.I fun i => match atI xs i with
    | some d => Q d
    | none => False
  | .scr ns => b.I fun i => match atI ns i with
    | some n => Q (.int n)
    | none => False
  | .drw => b.I fun i => (i = 0 ∨ i = 1) ∧ ∀ n : Int, 0 ≤ n → Q (.int n)
  | _ => False
theorem de_sub1 (ha : DE X k a wa) (hb : DE X k b wb) (hs : PlainIx b := by intro _ _; rfl) : DE X k (.Subscript a b pos) (wOp rdIx wa wb) := by
  refine de_ix ix_seq ?_ ha hb hs
  intro Z H x y a b Qd Q B ra rb h q
  cases ra <;> first
    | exact h.elim
    | skip
  · obtain ⟨i, e0, hl, h1⟩ := D.I_ex h
    split at h1
    · rename_i n hn
      exact .inr (.inr (o2_ixS (X := X) (k := k) Z H _ _ (.str _) b Qd Q B (.str _) rb (by subst e0; exact ⟨hl, n, hn, h1⟩) q))
    · exact h1.elim
  · rename_i hs hr
    obtain ⟨i, e0, h1⟩ := D.I_ex h
    split at h1
    · rename_i n hn
      exact .inl (o2_ixL (X := X) (k := k) Z H _ _ _ b Qd Q B (.lst hs hr) rb (by subst e0; exact ⟨n, hn, h1⟩) q)
    · exact h1.elim
  · rename_i hs hr
    obtain ⟨i, e0, h1⟩ := D.I_ex h
    split at h1
    · rename_i n hn
      exact .inr (.inl (o2_ixT (X := X) (k := k) Z H _ _ _ b Qd Q B (.tup hs hr) rb (by subst e0; exact ⟨n, hn, h1⟩) q))
    · exact h1.elim
  · obtain ⟨i, e0, h01, h1⟩ := D.I_ex h
    subst e0
    cases rb
    obtain ⟨n0, n1, hs, p0, p1⟩ := B.st
    rcases h01 with e | e
    · subst e
      exact .inl ⟨_, _, 0, .int n0, rfl, rfl, .inl (.inl hs), rfl, q _ _ Z H (.refl B) (.int _) (h1 n0 p0)⟩
    · subst e
      exact .inl ⟨_, _, 1, .int n1, rfl, rfl, .inl (.inl hs), rfl, q _ _ Z H (.refl B) (.int _) (h1 n1 p1)⟩
  · rename_i ns hs
    obtain ⟨i, e0, h1⟩ := D.I_ex h
    subst e0
    cases rb
    split at h1
    · rename_i n hn
      refine .inl ⟨_, _, i, .int n, rfl, rfl, B.zh.seq hs, ?_, q _ _ Z H (.refl B) (.int _) h1⟩
      unfold atI at hn ⊢
      rw [List.length_map]
      cases e : ixN ns.length i with
      | none =>
        rw [e] at hn
        cases hn
      | some j =>
        rw [e] at hn
        show (List.map V.int ns)[j]? = some (.int n)
        rw [List.getElem?_map, show ns[j]? = some n from hn]
        rfl
    · exact h1.elim
def rdSl : RSD := fun a i j Q => match a with
  | .str x => x.length ≤ 1000000 ∧ Q (.str (cutS x i j))
  | .lst xs => Q (.lst (cutD xs i j))
  | _ => False
theorem de_slc {lo hi : Option Expr} {l u : WO} {p2 : Pos} (h : DE X k e w) (hl : DO X k lo l) (hu : DO X k hi u) : DE X k (.Subscript e (.Slice lo hi none p2) pos) (wSl rdSl w l u) := by
  refine de_slice (SlR.or sl_str sl_list) ?_ h hl hu
  intro Z H x d i j Qd Q B ra h q
  cases ra <;> first
    | exact h.elim
    | skip
  · exact .inl (os_slS (X := X) (k := k) Z H _ (.str _) i j Qd Q B (.str _) h q)
  · rename_i hs hr
    exact .inr (os_slL (X := X) (k := k) Z H _ _ i j Qd Q B (.lst hs hr) h q)
/-! ### comparisons in short -/
theorem de_eq (hu : X.A.units + 64 < cLine) (ha : DE X k a wa) (hb : DE X k b wb) (hm : behindInMarks .Eq b = false := by first | exact nobehind _ (by decide) (by decide) | rfl) : DE X k (.Compare a [.Eq] [b] pos) (wOp rdEq wa wb) := de_cmp (op_eq_d hu) o2_eq ha hb hm
theorem de_ne (hu : X.A.units + 64 < cLine) (ha : DE X k a wa) (hb : DE X k b wb) (hm : behindInMarks .NotEq b = false := by first | exact nobehind _ (by decide) (by decide) | rfl) : DE X k (.Compare a [.NotEq] [b] pos) (wOp rdNe wa wb) := de_cmp (op_ne_d hu) o2_ne ha hb hm
theorem dt_eq (hu : X.A.units + 64 < cLine) (ha : DE X k a wa) (hb : DE X k b wb) (hm : behindInMarks .Eq b = false := by first | exact nobehind _ (by decide) (by decide) | rfl) : DT X k (.Compare a [.Eq] [b] pos) (wB (wOp rdEq wa wb)) := dt_cmp (op_eq_d hu) o2_eq ha hb hm
theorem dt_ne (hu : X.A.units + 64 < cLine) (ha : DE X k a wa) (hb : DE X k b wb) (hm : behindInMarks .NotEq b = false := by first | exact nobehind _ (by decide) (by decide) | rfl) : DT X k (.Compare a [.NotEq] [b] pos) (wB (wOp rdNe wa wb)) := dt_cmp (op_ne_d hu) o2_ne ha hb hm
/-- a value's truth -/
def D.tru : D → Option Bool
  | .non => some false
  | .bl b => some b
  | .int i => some (i != 0)
  | .str y => if y.length ≤ 1000000 then some ((y.length : Int) != 0) else none
  | .lst xs => some (!xs.isEmpty)
  | .tup xs => some (!xs.isEmpty)
  | .scr xs => some (!xs.isEmpty)
  | _ => none
def wTru (w : WE) : WT := fun ρ Q => w ρ fun d => match d.tru with
  | some b => Q b
  | none => False
theorem isE_rpa {c : Wc} {Z : Hp} {xs : List V} {ds : List D} (r : RpA c Z xs ds) : xs.isEmpty = ds.isEmpty := by cases r <;> rfl
theorem dt_truth (h : DE X k e w) (he : ∀ whole, isTrue e X.env whole = (do let v ← whole; standAt e.pos; holding [v] (truthy v)) := by intro _; rfl) : DT X k e (wTru w) := by
  obtain ⟨t, p, f⟩ := h
  refine ⟨_, pt_truth p he, fun r Z H σ ρ Qd Q O h q => ?_⟩
  refine f r Z H σ ρ _ _ O h fun d v Z1 H1 s1 r1 h1 => ?_
  cases e : d.tru with
  | none =>
    rw [e] at h1
    exact h1.elim
  | some b =>
    rw [e] at h1
    refine ⟨b, ?_, q b Z1 H1 s1 h1⟩
    cases r1 with
    | non => cases e; rfl
    | bl _ => cases e; rfl
    | int _ => cases e; rfl
    | str y =>
      simp only [D.tru] at e
      split at e
      · rename_i hz
        cases e
        exact ⟨Nat.le_trans hz (by decide), rfl⟩
      · cases e
    | lst hs hr =>
      cases e
      exact .inl ⟨_, .inl (.inl (s1.bs.zh _ _ hs)), by rw [isE_rpa hr]⟩
    | tup hs hr =>
      cases e
      exact .inr (.inl ⟨_, same_t s1.bs.zh hs, by rw [isE_rpa hr]⟩)
    | scr hs =>
      cases e
      exact .inl ⟨_, s1.bs.zh.seq hs, by rw [List.isEmpty_map]⟩
    | _ => cases e
/-! ### texts with holes -/
def rdFmt : R1D := fun d Q => match d with
  | .str y => y.length ≤ 1000000 ∧ Q (.str y)
  | .int i => i.natAbs.log2 < 1920 ∧ Q (.str (toString i))
  | _ => False
def wFmt (w : WE) : WE := fun ρ Q => w ρ fun d => rdFmt d Q
theorem de_fmt (h : DE X k e w) : DE X k (.FormattedValue e (-1) none pos) (wFmt w) := by
  obtain ⟨t, p, f⟩ := h
  refine ⟨_, pe_fmt p, fun r Z H σ ρ Qd Q O h q => ?_⟩
  refine f r Z H σ ρ _ _ O h fun d v Z1 H1 s1 r1 h1 => ?_
  cases r1 with
  | str y => exact .inl ⟨y, rfl, Nat.le_trans h1.1 (by decide), q _ _ Z1 H1 s1 (.str _) h1.2⟩
  | int i => exact .inr ⟨i, rfl, h1.1, q _ _ Z1 H1 s1 (.str _) h1.2⟩
  | _ => exact h1.elim
def wJs : List WE → Str → En → (Str → Prop) → Prop
  | [], acc, _, Q => Q acc
  | w :: ws, acc, ρ, Q => w ρ fun d => d.S fun y => (acc ++ y).length ≤ 1000000 ∧ wJs ws (acc ++ y) ρ Q
def DJ (X : Cx) (k : Cc) (es : List Expr) (ws : List WE) : Prop := ∃ ts, PJ X es ts ∧ ∀ (r : Rt) (σ : L2.St) (ρ : En) (acc : Str) (Z H : Hp) (Qd : Str → Prop) (Q : Str → Hp → Prop), Ok (wc X k.s) k r Z H σ ρ → wJs ws acc ρ Qd → (∀ y Z' H', Stp k.s Z H Z' H' → Qd y → Q y H') → tJs ts acc σ H Q
theorem dj_nil : DJ X k [] [] := ⟨[], .nil, fun r σ ρ acc Z H Qd Q O h q => q acc Z H (.refl O.bs) h⟩
theorem dj_cons {ws : List WE} (h : DE X k e w) (h2 : DJ X k es ws) : DJ X k (e :: es) (w :: ws) := by
  obtain ⟨t, p, f⟩ := h
  obtain ⟨ts, p2, f2⟩ := h2
  refine ⟨t :: ts, .cons p p2, fun r σ ρ acc Z H Qd Q O h q => ?_⟩
  refine f r Z H σ ρ _ _ O h fun d v Z1 H1 s1 r1 h1 => ?_
  obtain ⟨y, e0, hl, h2⟩ := D.S_ex h1
  subst e0
  cases r1
  exact ⟨y, rfl, Nat.le_trans hl (by decide), f2 r σ ρ _ Z1 H1 Qd Q (O.stp s1) h2 fun y Z2 H2 s2 h2 => q y Z2 H2 (s1.trans s2 O.bs.st) h2⟩
def wJoined (ws : List WE) : WE := fun ρ Q => wJs ws Str.empty ρ fun y => Q (.str y)
theorem de_joined {v1 v2 : Expr} {rest : List Expr} {ws : List WE} (h : DJ X k (v1 :: v2 :: rest) ws) : DE X k (.JoinedStr (v1 :: v2 :: rest) pos) (wJoined ws) := by
  obtain ⟨ts, p, f⟩ := h
  exact ⟨_, pe_joined p, fun r Z H σ ρ Qd Q O h q => f r σ ρ _ Z H _ _ O h fun y Z' H' s h => q _ _ Z' H' s (.str y) h⟩
theorem de_joined1 (h : DE X k e w) : DE X k (.JoinedStr [e] pos) w := by
  obtain ⟨t, p, f⟩ := h
  exact ⟨_, pe_joined1 p, f⟩
/-! ### an own error without __init__ is raised, with one argument -/
structure ExcT (K : PySem.W.Frag) (mg : Str → Option Value) (x : Str) (C : Addr) : Prop where
  g : mg x = some (.ref C)
  x : PySem.W.excIn K C [.type "ValueError", .type "Exception", .type "BaseException", .type "object"] "ValueError.__new__" = true
  k : PySem.W.keepIn K (.ref C) = true
  b : PySem.W.subIn K (.ref C) (.type "BaseException") = some true
  t : PySem.W.typeIn K (.ref C) = some (.type "type")
def wRaise1 (x : Str) (xd : Exn → Prop) (w : WE) : WS := fun d ρ => w ρ fun _ => xd ⟨x, none⟩
theorem ds_raise1 {x : Str} {C : Addr} (T : ExcT X.K X.mg x C) (tk : Takes X (fun cls d _ H => k.xk cls d H)) (h : DE X k e w) (hc : X.calm = true := by rfl) (hg : Gl X x := by rfl) (hs : starEach [e] X.env = (false, eval e X.env) :: starEach [] X.env := by rfl) (hdb : (x == ("__debug__" : Str)) = false := by decide) :
    DS X k (.Raise (some (.Call (.Name x p) [e] [] pos)) none pos2) (wRaise1 x k.xd w) := by
  obtain ⟨t, pe, f⟩ := h
  refine ⟨_, ps_raise hc tk (SkE.pmk_own1 PySem.F.excBase_ValueError T.x T.g T.k (raises_own T.b T.t) hg pe hs hdb), fun r Z H σ ρ d E O L h => ?_⟩
  refine f r Z H σ ρ _ _ O h fun x v Z1 H1 s1 r1 h1 => ?_
  exact O.lk Z1 H1 _ _ _ (O.en.trans s1 O.s0) ⟨C, T.g, rfl, rfl⟩ h1
end
end Dl
set_option Elab.async false
set_option linter.all false
set_option maxRecDepth 100000
set_option maxHeartbeats 2000000
namespace Dl
open PySem PySem.Spec PyProof.Rows L2
section
variable {X : Cx} {k : Cc} {a b e c : Expr} {es : List Expr} {wa wb w wc' : WE} {pos p p1 p2 pos2 : Pos}
/-! ### the draws' object is written -/
def wStw (we wo wi : WE) : WS := fun d ρ => we ρ fun v => wo ρ fun o => wi ρ fun i => v.I fun n => i.I fun j => (o = .drw ∧ 0 ≤ n ∧ (j = 0 ∨ j = 1)) ∧ d.nx ρ
theorem StOk.put {s : Addr} {Z H : Hp} {a b : Int} (B : Bs s Z H) (h0 : 0 ≤ a) (h1 : 0 ≤ b) : Stp s Z H Z (upd H s (.lst [.int a, .int b])) :=
  ⟨Same.refl _, ⟨fun x o e => by rw [upd_ne (fun z => by rw [z, B.zs] at e; cases e)]; exact B.zh x o e, ⟨a, b, upd_same, h0, h1⟩, B.zs⟩, fun _ _ e => .inl e, fun x o e n => by rw [upd_ne n]; exact e⟩
theorem ds_stw (he : DE X k e w) (ha : DE X k a wa) (hb : DE X k b wb) (hs : swapsWithSole [.Subscript a b p] e pos.line X.env = pure false := by rfl) (hw : swappedStores [.Subscript a b p] e X.env = pure none := by rfl)
    (h1 : (assignEach [.Subscript a b p] X.env).map (·.2) = [assign (.Subscript a b p) X.env] := by rfl) (hx : PlainIx b := by intro _ _; rfl)
    (pg : ∀ {to ti : TE}, PE X a to → PE X b ti → PG X (.Subscript a b p) (gSub to ti rSetL) := by intro _ _ h1 h2; exact pg_sub h1 h2 set_list) : DS X k (.Assign [.Subscript a b p] e pos) (wStw w wa wb) := by
  obtain ⟨t, pe, f⟩ := he
  obtain ⟨ta, pa, fa⟩ := ha
  obtain ⟨tb, pb, fb⟩ := hb
  refine ⟨_, ps_asg pe (pg pa pb) hs hw h1, fun r Z H σ ρ d E O L h => ?_⟩
  refine f r Z H σ ρ _ _ O h fun x v Z1 H1 s1 r1 h1 => ?_
  refine fa r Z1 H1 σ ρ _ _ (O.stp s1) h1 fun y u Z2 H2 s2 r2 h2 => ?_
  have s12 := s1.trans s2 O.bs.st
  refine fb r Z2 H2 σ ρ _ _ (O.stp s12) h2 fun z u2 Z3 H3 s3 r3 h3 => ?_
  have s13 := s12.trans s3 O.bs.st
  obtain ⟨n, e1, h4⟩ := D.I_ex h3
  obtain ⟨j, e2, ⟨e3, hn, hj⟩, h5⟩ := D.I_ex h4
  subst e1 e2 e3
  cases r1
  cases r2
  cases r3
  obtain ⟨n0, n1, hh, q0, q1⟩ := s13.bs.st
  rcases hj with e | e
  · subst e
    exact ⟨_, _, 0, 0, rfl, rfl, hh, rfl, L.nx Z3 _ σ ρ (O.stp (s13.trans (StOk.put s13.bs hn q1) O.bs.st)) h5⟩
  · subst e
    exact ⟨_, _, 1, 1, rfl, rfl, hh, rfl, L.nx Z3 _ σ ρ (O.stp (s13.trans (StOk.put s13.bs q0 hn) O.bs.st)) h5⟩
/-! ### a text is walked sign by sign -/
def sgnD (s : Str) : List D := s.cps.toList.map fun c => .str ⟨#[c]⟩
def wiS (w : WE) : WA := fun ρ Q => w ρ fun d => d.S fun s => s.length ≤ 1000000 ∧ Q (sgnD s)
theorem itd_str {c : Wc} (Z : Hp) (s : Str) : ItD c Z (Its s) (sgnD s) := by
  intro Z2 H2 e b
  have hl : (sgnD s).length = s.cps.size := by unfold sgnD; rw [List.length_map, Array.length_toList]
  refine ⟨fun i hi => ?_, fun i hi => ?_, fun i x H' y hi => ?_⟩
  · rw [hl] at hi
    exact hi
  · rw [hl] at hi
    exact hi
  · obtain ⟨rfl, ch, h1, rfl⟩ := y
    refine ⟨.str ⟨#[ch]⟩, Z2, ?_, .refl b, .str _⟩
    unfold sgnD
    rw [List.getElem?_map, Array.getElem?_toList, h1]
    rfl
theorem di_str {tg : Expr} (h : DE X k e w) : DI X k tg e (wiS w) := by
  obtain ⟨t, p, f⟩ := h
  refine ⟨_, pi_str p, fun r Z H σ ρ Qd R O h q => ?_⟩
  refine f r Z H σ ρ _ _ O h fun d v Z1 H1 s1 r1 h1 => ?_
  obtain ⟨ds, e0, hl, h2⟩ := D.S_ex h1
  subst e0
  cases r1
  exact ⟨_, rfl, q _ Z1 H1 _ s1 (itd_str Z1 ds) h2⟩
/-! ### int(..), {} -/
def rdCint : RAD := fun ds Q => match ds with
  | [.int i] => Q (.int i)
  | [.bl b] => Q (.int (if b then 1 else 0))
  | _ => False
theorem de_Cint {u : WA} (hm : X.mg "int" = none) (ha : DA X k [e] u) (hg : Gl X "int" := by rfl) (he : starEach [e] X.env = (false, eval e X.env) :: starEach [] X.env := by rfl) : DE X k (.Call (.Name "int" p) [e] [] pos) (wCB rdCint u) := by
  refine de_ty call_int1 ?_ hm PyProof.Rows.boot_int ha hg (by decide) (by decide) he
  intro Z H xs ds Qd Q B ra h q
  match ds, xs, ra, h with
  | [.int i], [_], .cons (.int _) .nil, h => exact .inl ⟨i, rfl, q _ _ Z H (.refl B) (.int _) h⟩
  | [.bl i], [_], .cons (.bl _) .nil, h => exact .inr ⟨i, rfl, q _ _ Z H (.refl B) (.int _) h⟩
theorem de_dic0 : DE X k (.Dict [] [] pos) (wC (.dic [])) := ⟨_, pe_dnewK, fun r Z H σ ρ Qd Q O h q p hp => q _ _ _ _ (.add O.bs hp) (.dic (.inl upd_same) .nil) h⟩
/-! ### s[0].isalpha() and s.replace('_', '0').isalnum(): the replacing wants that a number or a text was written ahead -/
def PEk (X : Cx) (e : Expr) (t : TE) : Prop := ∀ (pins : List (Addr × Obj)) (s : Shared) (σ : L2.St) (H : Hp) (Q : VK), Inv X pins σ H s → t σ H Q → wpAny (model X.prog X.w) X.A (eval e X.env) (fun u s' => EP X pins σ Q u s' ∧ 1 ≤ s'.toks) X.xe s
theorem pek_ix {i : Int} {j : Nat} {ta : TE} {r : R2} (hr : IxR X r) (ha : PE X a ta) : PEk X (.Subscript a (.Constant (.int i) j p1) pos) (tOp r ta (tC (.int i))) := by
  intro pins s σ H Q I h
  refine Subscript_ (thn (ha.run pins s σ H _ I h) fun v s1 ⟨x, H1, I1, r1, q1⟩ => wpAny_Constant_int ?_)
  exact wpAny_mono (PySem.wpAny_toks_of (n := 1) (by show 1 ≤ s1.toks + 1; omega) (hr a (.Constant (.int i) j p1) pins { s1 with toks := s1.toks + 1 } σ H1 x (.int i) v _ Q (I1.tok _) r1 ⟨_, rfl⟩ q1 rfl)) (fun _ _ h => ⟨h.2, h.1⟩) fun _ _ h => h.2
theorem pek_m0 {o : Expr} {to : TE} {id : String} {name : Str} {apos : Pos} {r : V → List V → Hp → VK → Prop} (slot : Slot "str" name id) (ty : typeOf (.builtin id) = pure (.type "method_descriptor")) (rule : MtR X id r) (ho : PEk X o to)
    (hbase : attributeBase o name X.env (eval o X.env) = eval o X.env := by rfl) (hline : (apos.endLine == pos.line) = true := by rfl) : PEk X (.Call (.Attribute o name apos) [] [] pos) (tM0 r to) := by
  intro pins s σ H Q I h
  refine PySem.Call_method0 hbase hline (thn (ho pins s σ H _ I h) fun v s1 ⟨⟨x, H1, I1, r1, q1⟩, hk⟩ => ?_)
  obtain ⟨⟨a, rfl⟩, q1⟩ := q1
  obtain ⟨t, rfl⟩ := _root_.id r1
  refine ⟨"str", _, F.plainAttrs_str, slot, ty, typeIs_str _ _ _, (fun _ e => nomatch e), ?_⟩
  exact wpAny_mono (PySem.wpAny_toks_of hk (Calls.callWith_builtin rfl (PySem.evalArgs_none (rule pins s1 σ H1 _ [] _ [] Q I1 r1 .nil q1)))) (fun _ _ h => ⟨h.2, h.1⟩) fun _ _ h => h.2
theorem pet_m0 {o : Expr} {to : TE} {id : String} {name : Str} {apos : Pos} {r : V → List V → Hp → VK → Prop} (slot : Slot "str" name id) (ty : typeOf (.builtin id) = pure (.type "method_descriptor")) (rule : MtR X id r) (ho : PET X o to)
    (hbase : attributeBase o name X.env (eval o X.env) = eval o X.env := by rfl) (hline : (apos.endLine == pos.line) = true := by rfl) : PET X (.Call (.Attribute o name apos) [] [] pos) (tM0 r to) := by
  intro pins s σ H Q h0 I h
  refine PySem.Call_method0 hbase hline (thn (ho pins s σ H _ h0 I h) fun v s1 ⟨x, H1, I1, r1, q1⟩ => ?_)
  obtain ⟨⟨a, rfl⟩, q1⟩ := q1
  obtain ⟨t, rfl⟩ := _root_.id r1
  exact ⟨"str", _, F.plainAttrs_str, slot, ty, typeIs_str _ _ _, (fun _ e => nomatch e), Calls.callWith_builtin rfl (PySem.evalArgs_none (rule pins s1 σ H1 _ [] _ [] Q I1 r1 .nil q1))⟩
theorem pe_andK {b : Expr} {ta tb : TE} (ha : PEk X a ta) (hb : PET X b tb) : PE X (.BoolOp .And [a, b] pos) (tAndV ta tb) := by
  refine ⟨fun pins s σ H Q I h => ?_⟩
  refine BoolOp_and (thn (ha pins s σ H _ I h) fun v s1 ⟨⟨x, H1, I1, r1, q1⟩, hk⟩ => ?_)
  obtain ⟨c, rfl, q1⟩ := q1
  cases r1
  refine wpAny_truthy_bool ?_
  cases c with
  | true => exact BoolOp_one (hb pins s1 σ H1 Q hk I1 q1)
  | false => exact ⟨.bl false, H1, I1, rfl, q1⟩
def nameEnd (t : Str) : Option Bool := match t.cps.toList with
  | [] => none
  | ch :: _ => if t.length ≤ 1000 then some (Txt.isalpha ⟨#[ch]⟩ && Txt.isalnum (Txt.replace t "_" "0")) else none
def wNameEnd (i : Nat) : WE := fun ρ Q => Sl.V ρ[i]? fun d => d.S fun t => match nameEnd t with
  | some b => Q (.bl b)
  | none => False
theorem de_nameEnd {i : Nat} {x : Str} {q1 q2 q3 c0 c1 c2 a1 a2 a3 p1 p2 p3 : Pos} {j0 j1 j2 : Nat} (hN : X.N[i]? = some x := by rfl) (hv : Vis X.env.scope x := by first | exact Or.inl rfl | exact Or.inr (Or.inl rfl) | exact Or.inr (Or.inr rfl)) (hd : (x == ("__debug__" : Str)) = false := by decide)
    (hcd : (x == ("__classdict__" : Str)) = false := by decide)
    (b1 : attributeBase (.Subscript (.Name x q1) (.Constant (.int 0) j0 c0) q2) "isalpha" X.env (eval (.Subscript (.Name x q1) (.Constant (.int 0) j0 c0) q2) X.env) = eval (.Subscript (.Name x q1) (.Constant (.int 0) j0 c0) q2) X.env := by rfl) (l1 : (a1.endLine == p1.line) = true := by rfl)
    (b2 : attributeBase (.Name x q3) "replace" X.env (eval (.Name x q3) X.env) = eval (.Name x q3) X.env := by rfl) (l2 : (a2.endLine == p2.line) = true := by rfl)
    (st : starEach [.Constant (.str "_") j1 c1, .Constant (.str "0") j2 c2] X.env = [(false, eval (.Constant (.str "_") j1 c1) X.env), (false, eval (.Constant (.str "0") j2 c2) X.env)] := by rfl)
    (b3 : attributeBase (.Call (.Attribute (.Name x q3) "replace" a2) [.Constant (.str "_") j1 c1, .Constant (.str "0") j2 c2] [] p2) "isalnum" X.env (eval (.Call (.Attribute (.Name x q3) "replace" a2) [.Constant (.str "_") j1 c1, .Constant (.str "0") j2 c2] [] p2) X.env) = eval (.Call (.Attribute (.Name x q3) "replace" a2) [.Constant (.str "_") j1 c1, .Constant (.str "0") j2 c2] [] p2) X.env := by rfl)
    (l3 : (a3.endLine == p3.line) = true := by rfl) :
    DE X k (.BoolOp .And [.Call (.Attribute (.Subscript (.Name x q1) (.Constant (.int 0) j0 c0) q2) "isalpha" a1) [] [] p1, .Call (.Attribute (.Call (.Attribute (.Name x q3) "replace" a2) [.Constant (.str "_") j1 c1, .Constant (.str "0") j2 c2] [] p2) "isalnum" a3) [] [] p3] pos) (wNameEnd i) := by
  refine ⟨_, pe_andK (pek_m0 PySem.F.slot_str_isalpha PySem.F.type_str_isalpha mt_isalpha (pek_ix ix_str (pe_var hN hv hd hcd)) b1 l1) (pet_m0 PySem.F.slot_str_isalnum PySem.F.type_str_isalnum mt_isalnum (CwR.pet_replC (pe_var hN hv hd hcd) (by decide) st b2 l2) b3 l3), fun r Z H σ ρ Qd Q O h q => ?_⟩
  obtain ⟨d, h1, h2⟩ := Sl.V_ex h
  obtain ⟨t, e0, h3⟩ := D.S_ex h2
  subst e0
  obtain ⟨o, h4, v, rfl, h5⟩ := O.sl i _ h1
  cases h5
  unfold nameEnd at h3
  split at h3
  · rename_i bb hb
    split at hb
    · cases hb
    · rename_i ch cr hc
      split at hb
      · rename_i hl
        cases hb
        have hz : t.cps.toList.length ≤ 1000 := by rw [Array.length_toList]; exact hl
        have hat : atI t.cps.toList 0 = some ch := by
          rw [hc]
          unfold atI ixN
          rw [if_pos (by omega), if_pos (by rw [List.length_cons]; omega)]
          rfl
        refine ⟨_, h4, t, 0, ch, rfl, rfl, Nat.le_trans hl (by decide), hat, ⟨_, rfl⟩, _, rfl, rfl, trivial, _, rfl, ?_⟩
        cases hq : Txt.isalpha ⟨#[ch]⟩ with
        | false =>
          rw [hq] at h3
          exact iteF (q _ _ Z H (.refl O.bs) (.bl _) (by simpa using h3))
        | true =>
          rw [hq] at h3
          have z : t.length + (t.length + 1) * ("0" : Str).length ≤ 16777216 := by
            have e1 : ("0" : Str).length = 1 := rfl
            rw [e1]
            omega
          exact iteT ⟨_, h4, t, rfl, z, ⟨_, rfl⟩, _, rfl, rfl, trivial, q _ _ Z H (.refl O.bs) (.bl _) (by simpa using h3)⟩
      · cases hb
  · exact h3.elim
end
/-! ### the law: its first statement makes the draws' object -/
theorem pss_any {X : Cx} {rest : List Stmt} {W : WS} (h : ∀ s0 : Addr, DB X ⟨s0, fun _ => False, fun _ _ _ => False⟩ rest W) :
    PSs X rest (fun E σ H => ∃ (s0 : Addr) (r : Rt) (Z : Hp) (ρ : En) (d : DEnds), Ok (wc X s0) ⟨s0, fun _ => False, fun _ _ _ => False⟩ r Z H σ ρ ∧ Lk (wc X s0) ⟨s0, fun _ => False, fun _ _ _ => False⟩ r d E ∧ W d ρ) := by
  refine ⟨fun pins s σ H E I ⟨s0, r, Z, ρ, d, O, L, hw⟩ => ?_⟩
  obtain ⟨t, p, f⟩ := h s0
  exact p.run pins s σ H E I (f r Z H σ ρ d E O L hw)
theorem fn_law {P : Program} {w : World} {K : PySem.W.Frag} {mg : Str → Option Value} {base : Heap} {qual x0 : Str} {st : Stmt} {f : Addr} {fd : FuncData} {N : List Str} {n : Nat} (F : Fun K x0 qual st f fd) (S : FnScope N ["script"] (defScope st)) (W : WS) {st1 : Stmt} {rest : List Stmt} (hbd : defBody st = st1 :: rest)
    (hN : 2 ≤ N.length)
    (h1 : ∀ (cdv : Value) (A : Around) (outer : List Env) (s : Shared) (H : Hp) (E : XK), PS (cxOf CX0 P w K mg base N qual (defScope st) f cdv A outer s H E).nox st1 (tAsg (tLst (tCons (tC (.int 0)) (tCons (tC (.int 0)) tNil))) (gName 1)))
    (hb : ∀ (cdv : Value) (A : Around) (outer : List Env) (s : Shared) (H : Hp) (E : XK) (k : Cc), Room n (A.deeper (envOfC qual (defScope st) s.heap.objs.size f cdv)) → DB (cxOf CX0 P w K mg base N qual (defScope st) f cdv A outer s H E).nox k rest W)
    (hW : ∀ (ns : List Int), ns.length ≤ 63 → W { nx := fun _ => False, rt := fun d => d = .bl true } (.val (.scr ns) :: .val .drw :: List.replicate (N.length - 2) .un)) :
    FnOk P w K mg base CX0 (n + 1) f fd ["script"] (fun vs H Q _ => ∃ (a : Addr) (ns : List Int), vs = [.ref a] ∧ SqL K H a (ns.map V.int) ∧ ns.length ≤ 63 ∧ ∀ H', Q (.bl true) H') := by
  refine F.ok S (fun vs H Q E h => ?_) (fun cdv A outer s H vs Q E hr h => ?_)
  · obtain ⟨a, ns, rfl, _⟩ := h
    rfl
  · obtain ⟨a, ns, rfl, hS, hlen, q⟩ := h
    rw [hbd]
    refine ⟨_, pss_cons (h1 cdv A outer s H E) (pss_any fun s0 => hb cdv A outer s H E ⟨s0, fun _ => False, fun _ _ _ => False⟩ hr), ?_⟩
    refine ⟨by show 2 ≤ sizeLine; decide, fun p hp => ?_⟩
    have st : StOk p (upd H p (.lst [.int 0, .int 0])) := ⟨0, 0, upd_same, Int.le_refl _, Int.le_refl _⟩
    have zh : Same H (upd H p (.lst [.int 0, .int 0])) := fun b o e => by rw [upd_ne (ne_of_none e hp)]; exact e
    obtain ⟨n2, e2⟩ : ∃ n2, N.length = n2 + 2 := ⟨N.length - 2, by omega⟩
    have es : (L2.start N [V.ref a]).set 1 (some (.ref p)) = some (.ref a) :: some (.ref p) :: List.replicate n2 none := by
      unfold L2.start
      rw [e2]
      rfl
    refine ⟨p, ⟨H, upd H p (.lst [.int 0, .int 0]), H⟩, H, .val (.scr ns) :: .val .drw :: List.replicate (N.length - 2) .un, _, ?_, ?_, hW ns hlen⟩
    · rw [es, e2, Nat.add_sub_cancel]
      refine ⟨.refl ⟨zh, st, hp⟩, st, Same.refl _, fun i t ht => ?_, fun i t b ht ho hb => ?_, fun i j t u b _ ht _ ho _ _ => ?_, fun _ _ _ _ _ _ _ z => z.elim⟩
      · match i, ht with
        | 0, ht =>
          cases ht
          exact ⟨_, rfl, _, rfl, .scr hS⟩
        | 1, ht =>
          cases ht
          exact ⟨_, rfl, _, rfl, .drw⟩
        | i + 2, ht =>
          rw [List.getElem?_cons_succ, List.getElem?_cons_succ, List.getElem?_replicate] at ht
          split at ht
          · rename_i hi
            cases ht
            exact ⟨none, by rw [List.getElem?_cons_succ, List.getElem?_cons_succ, List.getElem?_replicate, if_pos hi], trivial⟩
          · cases ht
      · exfalso
        match i, ht with
        | 0, ht => cases ht; cases ho
        | 1, ht => cases ht; cases ho
        | i + 2, ht =>
          rw [List.getElem?_cons_succ, List.getElem?_cons_succ, List.getElem?_replicate] at ht
          split at ht
          · cases ht; cases ho
          · cases ht
      · exfalso
        match i, ht with
        | 0, ht => cases ht; cases ho
        | 1, ht => cases ht; cases ho
        | i + 2, ht =>
          rw [List.getElem?_cons_succ, List.getElem?_cons_succ, List.getElem?_replicate] at ht
          split at ht
          · cases ht; cases ho
          · cases ht
    · refine ⟨fun _ _ _ _ _ z => z.elim, fun Z' H' v x _ _ rx e => ?_, fun _ _ _ _ _ z => z.elim, fun _ _ _ _ _ z => z.elim⟩
      subst e
      cases rx
      exact q H'
end Dl
set_option Elab.async false
set_option linter.all false
set_option maxRecDepth 100000
set_option maxHeartbeats 2000000
namespace Dl
open PySem PySem.Spec PyProof.Rows L2
/-! ### comprehensions, by lists -/
theorem lcl_map {we : WE} {ρ : En} {i : Nat} (f : D → D) : ∀ (xs acc : List D) (Q : List D → Prop), (∀ x ∈ xs, ∀ K : D → Prop, K (f x) → we (ρ.set i (.val x)) K) → Q (acc ++ xs.map f) → wLcL (wgName i) wYes we ρ xs acc Q
  | [], acc, Q, _, h => by
    rw [List.map_nil, List.append_nil] at h
    exact h
  | x :: xs, acc, Q, hf, h => by
    refine iteT (A := we (ρ.set i (.val x)) fun y => wLcL (wgName i) wYes we ρ xs (acc ++ [y]) Q) (B := wLcL (wgName i) wYes we ρ xs acc Q) ?_
    refine hf x List.mem_cons_self _ ?_
    refine lcl_map f xs _ Q (fun y hy => hf y (List.mem_cons_of_mem _ hy)) ?_
    rw [List.append_assoc]
    exact h
theorem lcl_any {we : WE} {ρ : En} {i : Nat} (P : D → Prop) : ∀ (xs acc : List D) (Q : List D → Prop), (∀ x ∈ xs, ∀ K : D → Prop, (∀ y, P y → K y) → we (ρ.set i (.val x)) K) → (∀ ys, ys.length = xs.length → (∀ y ∈ ys, P y) → Q (acc ++ ys)) → wLcL (wgName i) wYes we ρ xs acc Q
  | [], acc, Q, _, h => by
    have := h [] rfl (fun _ z => by cases z)
    rw [List.append_nil] at this
    exact this
  | x :: xs, acc, Q, hf, h => by
    refine iteT (A := we (ρ.set i (.val x)) fun y => wLcL (wgName i) wYes we ρ xs (acc ++ [y]) Q) (B := wLcL (wgName i) wYes we ρ xs acc Q) ?_
    refine hf x List.mem_cons_self _ fun y hy => ?_
    refine lcl_any P xs _ Q (fun y hy => hf y (List.mem_cons_of_mem _ hy)) fun ys hl hp => ?_
    rw [List.append_assoc]
    refine h (y :: ys) (by rw [List.length_cons, List.length_cons, hl]) fun z hz => ?_
    rcases List.mem_cons.mp hz with e | e
    · rw [e]; exact hy
    · exact hp z e
theorem blA_of (bs : List Bool) : D.blA (bs.map .bl) = some bs := by
  induction bs with
  | nil => rfl
  | cons b bs ih =>
    show (D.blA (bs.map .bl)).map (b :: ·) = _
    rw [ih]
    rfl
theorem strA_of (bs : List Str) : D.strA (bs.map .str) = some bs := by
  induction bs with
  | nil => rfl
  | cons b bs ih =>
    show (D.strA (bs.map .str)).map (b :: ·) = _
    rw [ih]
    rfl
theorem deq_refl {d : D} (h : d.fit = true) : deq d d = true := SeqAt.eqv_refl d.py (fit_py d h)
/-- == and != of one tree with itself -/
theorem ne_same {d : D} {Q : D → Prop} (h : d.ok) (q : Q (.bl false)) : rdNe d d Q := by
  unfold rdNe
  cases d with
  | str x => simpa [eqS] using q
  | int x => simpa [eqS] using q
  | bl x => simpa [eqS] using q
  | non => simpa [eqS] using q
  | lst xs =>
    refine ⟨⟨h, h⟩, ?_⟩
    rw [deq_refl h.1]
    exact q
  | tup xs =>
    refine ⟨⟨h, h⟩, ?_⟩
    rw [deq_refl h.1]
    exact q
  | dic _ => exact absurd h.1 (by simp [D.fit])
  | ins _ _ => exact absurd h.1 (by simp [D.fit])
  | drw => exact absurd h.1 (by simp [D.fit])
  | scr _ => exact absurd h.1 (by simp [D.fit])
  | ty _ => exact absurd h.1 (by simp [D.fit])
  | rf _ => exact absurd h.1 (by simp [D.fit])
  | exc _ _ _ => exact absurd h.1 (by simp [D.fit])
theorem ia_NoneType_bool : isaT "NoneType" "bool" = false := by decide
theorem ia_NoneType_int : isaT "NoneType" "int" = false := by decide
theorem ia_NoneType_str : isaT "NoneType" "str" = false := by decide
theorem ia_NoneType_list : isaT "NoneType" "list" = false := by decide
theorem ia_NoneType_tuple : isaT "NoneType" "tuple" = false := by decide
theorem ia_NoneType_dict : isaT "NoneType" "dict" = false := by decide
theorem ia_bool_bool : isaT "bool" "bool" = true := by decide
theorem ia_bool_int : isaT "bool" "int" = true := by decide
theorem ia_bool_str : isaT "bool" "str" = false := by decide
theorem ia_bool_list : isaT "bool" "list" = false := by decide
theorem ia_bool_tuple : isaT "bool" "tuple" = false := by decide
theorem ia_bool_dict : isaT "bool" "dict" = false := by decide
theorem ia_int_bool : isaT "int" "bool" = false := by decide
theorem ia_int_int : isaT "int" "int" = true := by decide
theorem ia_int_str : isaT "int" "str" = false := by decide
theorem ia_int_list : isaT "int" "list" = false := by decide
theorem ia_int_tuple : isaT "int" "tuple" = false := by decide
theorem ia_int_dict : isaT "int" "dict" = false := by decide
theorem ia_str_bool : isaT "str" "bool" = false := by decide
theorem ia_str_int : isaT "str" "int" = false := by decide
theorem ia_str_str : isaT "str" "str" = true := by decide
theorem ia_str_list : isaT "str" "list" = false := by decide
theorem ia_str_tuple : isaT "str" "tuple" = false := by decide
theorem ia_str_dict : isaT "str" "dict" = false := by decide
theorem ia_list_bool : isaT "list" "bool" = false := by decide
theorem ia_list_int : isaT "list" "int" = false := by decide
theorem ia_list_str : isaT "list" "str" = false := by decide
theorem ia_list_list : isaT "list" "list" = true := by decide
theorem ia_list_tuple : isaT "list" "tuple" = false := by decide
theorem ia_list_dict : isaT "list" "dict" = false := by decide
theorem ia_tuple_bool : isaT "tuple" "bool" = false := by decide
theorem ia_tuple_int : isaT "tuple" "int" = false := by decide
theorem ia_tuple_str : isaT "tuple" "str" = false := by decide
theorem ia_tuple_list : isaT "tuple" "list" = false := by decide
theorem ia_tuple_tuple : isaT "tuple" "tuple" = true := by decide
theorem ia_tuple_dict : isaT "tuple" "dict" = false := by decide
theorem ia_dict_bool : isaT "dict" "bool" = false := by decide
theorem ia_dict_int : isaT "dict" "int" = false := by decide
theorem ia_dict_str : isaT "dict" "str" = false := by decide
theorem ia_dict_list : isaT "dict" "list" = false := by decide
theorem ia_dict_tuple : isaT "dict" "tuple" = false := by decide
theorem ia_dict_dict : isaT "dict" "dict" = true := by decide
theorem inT_bool : "bool" ∈ ["bool", "int", "str", "list", "tuple", "dict"] := by decide
theorem inT_int : "int" ∈ ["bool", "int", "str", "list", "tuple", "dict"] := by decide
theorem inT_str : "str" ∈ ["bool", "int", "str", "list", "tuple", "dict"] := by decide
theorem inT_list : "list" ∈ ["bool", "int", "str", "list", "tuple", "dict"] := by decide
theorem inT_tuple : "tuple" ∈ ["bool", "int", "str", "list", "tuple", "dict"] := by decide
theorem inT_dict : "dict" ∈ ["bool", "int", "str", "list", "tuple", "dict"] := by decide
/-! ### texts by their codes -/
abbrev cs (s : Str) : List Nat := s.cps.toList
theorem cs_len (s : Str) : (cs s).length = s.length := Array.length_toList
theorem cs_inj {s t : Str} (h : cs s = cs t) : s = t := by
  obtain ⟨a⟩ := s
  obtain ⟨b⟩ := t
  exact congrArg Str.mk (Array.toList_inj.mp h)
theorem ends_c (t : Str) (c : Nat) : Txt.endswith t ⟨#[c]⟩ = decide ((cs t).getLast? = some c) := by
  have hl : (⟨#[c]⟩ : Str).length = 1 := rfl
  have hn := cs_len t
  rw [List.getLast?_eq_getElem?, hn, ← Bool.coe_iff_coe]
  unfold Txt.endswith
  rw [Bool.and_eq_true, decide_eq_true_eq, decide_eq_true_eq, hl, Nat.zero_add, ← PySem.StrLaws.subAt_one t c (t.length - 1), hl]
  constructor
  · rintro ⟨h1, h2⟩
    exact ⟨by omega, h2⟩
  · rintro ⟨h1, h2⟩
    exact ⟨by omega, h2⟩
theorem starts_c (t : Str) (c : Nat) : Txt.startswith t ⟨#[c]⟩ = decide ((cs t).head? = some c) := by
  have hl : (⟨#[c]⟩ : Str).length = 1 := rfl
  rw [List.head?_eq_getElem?, ← Bool.coe_iff_coe]
  unfold Txt.startswith
  rw [Bool.and_eq_true, decide_eq_true_eq, decide_eq_true_eq, ← PySem.StrLaws.subAt_one t c 0]
theorem cs_cut (z : Str) (lo hi : Option Int) : cs (cutS z lo hi) = ((cs z).drop (HT.sIx z.length 0 lo)).take (HT.sIx z.length z.length hi - HT.sIx z.length 0 lo) := rfl
theorem sIx_m1 (n d : Nat) : HT.sIx n d (some (-1)) = n - 1 := by
  show (if (-1 : Int) < 0 then ((-1 : Int) + (n : Int)).toNat else min (-1 : Int).toNat n) = n - 1
  rw [if_pos (by decide)]
  omega
theorem cut_init (z : Str) : cs (cutS z none (some (-1))) = (cs z).dropLast := by
  rw [cs_cut, HT.sIx_none, List.drop_zero, List.dropLast_eq_take, cs_len, sIx_m1, Nat.sub_zero]
theorem cut_mid (z : Str) : cs (cutS z (some 1) (some (-1))) = ((cs z).drop 1).dropLast := by
  have e1 : HT.sIx z.length z.length (some (-1)) = z.length - 1 := sIx_m1 _ _
  have e2 : HT.sIx z.length 0 (some 1) = min 1 z.length := HT.sIx_nat z.length 0 1
  rw [cs_cut, e1, e2, List.dropLast_eq_take, List.length_drop, cs_len]
  by_cases h : 1 ≤ z.length
  · rw [Nat.min_eq_left h]
  · have h0 : z.length = 0 := by omega
    have : cs z = [] := List.length_eq_zero_iff.mp (by rw [cs_len, h0])
    rw [this]
    simp
theorem cut_last (z : Str) : cs (cutS z (some (-1)) none) = (cs z).getLast?.toList := by
  have e2 : HT.sIx z.length 0 (some (-1)) = z.length - 1 := sIx_m1 _ _
  have hn := cs_len z
  rw [cs_cut, e2, HT.sIx_none, List.getLast?_eq_getElem?, hn]
  by_cases h : z.length = 0
  · have : cs z = [] := List.length_eq_zero_iff.mp (by rw [cs_len, h])
    rw [this]
    simp
  · have hlt : z.length - 1 < (cs z).length := by rw [cs_len]; omega
    rw [List.drop_eq_getElem_cons hlt, List.getElem?_eq_getElem hlt, show z.length - (z.length - 1) = 1 by omega]
    rfl
theorem cut_first (z : Str) : cs (cutS z none (some 1)) = (cs z).head?.toList := by
  have e1 : HT.sIx z.length z.length (some 1) = min 1 z.length := HT.sIx_nat z.length z.length 1
  rw [cs_cut, e1, HT.sIx_none, List.drop_zero, ← cs_len]
  cases cs z with
  | nil => rfl
  | cons c r => simp
theorem cut_take (z : Str) (n : Nat) : cs (cutS z none (some (n : Int))) = (cs z).take n := by
  rw [cs_cut, HT.sIx_nat, HT.sIx_none, List.drop_zero, Nat.sub_zero, ← cs_len, List.take_eq_take_iff]
  omega
theorem cut_drop (z : Str) (n : Nat) : cs (cutS z (some (n : Int)) none) = (cs z).drop n := by
  rw [cs_cut, HT.sIx_nat, HT.sIx_none, ← cs_len]
  by_cases h : n ≤ (cs z).length
  · rw [Nat.min_eq_left h, List.take_of_length_le (by rw [List.length_drop]; exact Nat.le_refl _)]
  · rw [Nat.min_eq_right (by omega), List.drop_eq_nil_of_le (Nat.le_refl _), List.drop_eq_nil_of_le (by omega), List.take_nil]
theorem cut_one (z : Str) (n : Nat) (c : Nat) (h : (cs z)[n]? = some c) : cutS z (some (n : Int)) (some ((n : Int) + 1)) = ⟨#[c]⟩ := by
  have hlt : n < (cs z).length := (List.getElem?_eq_some_iff.mp h).1
  apply cs_inj
  rw [cs_cut, show ((n : Int) + 1) = ((n + 1 : Nat) : Int) by omega, HT.sIx_nat, HT.sIx_nat, ← cs_len, Nat.min_eq_left (by omega), Nat.min_eq_left (by omega), List.drop_eq_getElem_cons hlt, show n + 1 - n = 1 by omega]
  rw [List.getElem?_eq_getElem hlt] at h
  rw [Option.some.inj h]
  rfl
theorem cs_app (x y : Str) : cs (x ++ y) = cs x ++ cs y := by
  show (x.cps ++ y.cps).toList = _
  exact Array.toList_append
theorem len_app (x y : Str) : (x ++ y).length = x.length + y.length := by rw [← cs_len, cs_app, List.length_append, cs_len, cs_len]
theorem cut_len (z : Str) (lo hi : Option Int) : (cutS z lo hi).length ≤ z.length := cutS_length z lo hi
end Dl
set_option Elab.async false
set_option linter.all false
set_option maxRecDepth 100000
set_option maxHeartbeats 2000000
namespace Dl
open PySem PySem.Spec PyProof.Rows L2
section
variable {X : Cx} {k : Cc} {a b e c : Expr} {es : List Expr} {wa wb w wc' : WE} {pos p p1 p2 pos2 : Pos}
/-! ### try: return f(..) / except X as n: suite -/
def tAc (c : Wc) (k : Cc) (u : WA) : TA := fun σ H Q => ∃ r Z ρ Qd, Ok c k r Z H σ ρ ∧ u ρ Qd ∧ ∀ ds vs Z' H', Stp c.s Z H Z' H' → RpA c Z' vs ds → Qd ds → Q vs H'
theorem DA.pa {u : WA} (h : DA X k es u) : PA X es (tAc (wc X k.s) k u) := by
  obtain ⟨t, p, f⟩ := h
  exact ⟨fun pos pins s σ H Q I ⟨r, Z, ρ, Qd, O, h, q⟩ => p.run pos pins s σ H Q I (f r Z H σ ρ Qd Q O h q)⟩
def tSc (c : Wc) (k : Cc) (cl : Value) (C : Addr) (u : WS) : TS := fun E σ H => cl = .ref C ∧ ∃ r Z ρ d, Ok c k r Z H σ ρ ∧ Lk c k r d E ∧ u d ρ
theorem DB.ps {sts : List Stmt} {cl : Value} {C : Addr} {u : WS} (h : cl = .ref C → DB X k sts u) : PSs X sts (tSc (wc X k.s) k cl C u) := by
  refine ⟨fun pins s σ H E I ⟨ec, r, Z, ρ, d, O, L, hu⟩ => ?_⟩
  obtain ⟨t, p, f⟩ := h ec
  exact p.run pins s σ H E I (f r Z H σ ρ d E O L hu)
theorem Ok.back {c : Wc} {k' : Cc} {r : Rt} {Z H Z2 H2 : Hp} {σ σ2 : L2.St} {ρ ρ2 : En} {i : Nat} (O : Ok c k r Z H σ ρ) (O2 : Ok c k' r Z2 H2 σ2 ρ2) : Ok c k r Z2 H2 (σ2.set i none) (ρ2.set i .un) := by
  have U := O2.un (i := i)
  exact ⟨U.en, U.s0, U.lb, U.sl, U.ow, U.ds, O.lk⟩
def wTryR (spec : SpecD) (x : Str) (i : Nat) (u : WA) (sw : Addr → WS) : WS := fun d ρ => u ρ fun ds => spec ds d.rt fun ex => (ex.cls = x ∧ ex.fs = none) ∧
  ∀ a : Addr, sw a { nx := fun ρ' => d.nx (ρ'.set i .un), rt := d.rt, bk := fun ρ' => d.bk (ρ'.set i .un), ct := fun ρ' => d.ct (ρ'.set i .un) } (ρ.set i (.val (.rf a)))
theorem ds_tryret {i : Nat} {x n f : Str} {C : Addr} {fa : Addr} {fd : FuncData} {ps : List Str} {spec : SpecD} {u : WA} {sw : Addr → WS} {j : Nat} {b₀ : Stmt} {suite : List Stmt} {np rp pos' tpos : Pos}
    (hN : X.N.Nodup) (hm0 : X.mg x = some (.ref C)) (hex : PySem.W.exmOne X.K (.ref C) (.ref C) = some true)
    (F : FnOk X.prog X.w X.K X.mg X.base (L2.CX X.prog X.w) j fa fd ps (spD X.K X.mg spec)) (hr : Room j X.A) (hm : X.mg f = some (.ref fa)) (hk : PySem.W.keepIn X.K (.ref fa) = true) (hb : Binds X.K fd ps [])
    (ha : ∀ (pn : List (Addr × Obj)) (xe : Value → Shared → Prop), DA (X.tr pn xe) k.still (e :: es) u)
    (hsu : ∀ (a : Addr) (oe : Obj) (pn : List (Addr × Obj)), Zc (.ref C) none oe → (∃ vs, oe.data = .fields vs) → DB (X.suite a ((a, oe) :: pn)) k.still (b₀ :: suite) (sw a))
    (hs : X.stack = X.env :: X.outer := by rfl) (hf : X.env.frame = some X.env.locals := by rfl) (hi : X.N[i]? = some n := by rfl) (hln : X.env.kindOf n = some .local := by rfl) (hc : Gl X x := by rfl) (hxd : (x == ("__debug__" : Str)) = false := by decide)
    (hg : Gl X f := by rfl) (hdb : (f == ("__debug__" : Str)) = false := by decide) (he : ∀ pn xe, starEach (e :: es) (X.tr pn xe).env = (false, eval e (X.tr pn xe).env) :: starEach es (X.tr pn xe).env := by intro _ _; rfl) (hpl : ∀ pn xe, (backTo pos (starEach es (X.tr pn xe).env)).any (·.1) = false := by intro _ _; rfl) :
    DS X k (.Try [.Return (some (.Call (.Name f p) (e :: es) [] pos)) rp] [.ExceptHandler (some (.Name x np)) (some n) (b₀ :: suite) pos'] [] [] tpos) (wTryR spec x i u sw) := by
  refine ⟨_, ps_try_as (c := .ref C) (tb := fun W => tRet (tCallS (spD X.K X.mg spec) (L2.WE W) (tAc (wc X k.s) k.still u))) (ts := fun a cl d => fun E σ H => d = none ∧ tSc (wc X k.s) k.still cl C (sw a) E σ H) (Wout := fun _ _ _ _ => False) hs hf hN hi hln ⟨hc, hxd, .inl hm0⟩ takes0 (fun W pn xe tk _ => ?_) (fun a oe cls d pn hz hv => ?_), fun r Z H σ ρ d E O L h => ?_⟩
  · exact pss_one (ps_ret (pe_callS (X := X.tr pn xe) F hr hg hm hk hb (fun σ => passAt tk σ) (ha pn xe).pa hdb (he pn xe) (hpl pn xe)))
  · refine ⟨fun pins s σ H E I ⟨ed, ec, r, Z, ρ, dd, O, L, hu⟩ => ?_⟩
    subst ed ec
    obtain ⟨t, p, f⟩ := hsu a oe pn hz hv
    exact p.run pins s σ H E I (f r Z H σ ρ dd E O L hu)
  · refine ⟨r, Z, ρ, _, O.still, h, fun ds vs Z1 H1 s1 r1 h1 => ?_⟩
    refine ⟨k.s, Z1, ds, d.rt, _, s1.bs, r1, h1, fun x v Z' H' st rv hd => L.rt Z' H' v x ((O.en.trans s1 O.s0).trans st O.s0) ((O.lb.trans s1.zz).trans st.zz) rv hd, fun ex cls od Z' H' st er hd => ?_⟩
    obtain ⟨⟨e1, e2⟩, hsw⟩ := hd
    obtain ⟨C', hC, rfl, hfs⟩ := er
    rw [e1] at hC
    have eC : C' = C := by
      have hC2 : X.mg x = some (.ref C') := hC
      rw [hm0] at hC2
      cases hC2 <;> rfl
    subst eC
    rw [e2] at hfs
    subst hfs
    have O2 := (O.stp (s1.trans st O.bs.st)).still
    refine ⟨true, hex, fun _ a ha => ⟨rfl, rfl, r, Z', ρ.set i (.val (.rf a)), _, O2.set (.rf a), ⟨?_, ?_, ?_, ?_⟩, hsw a⟩, fun z => by cases z⟩
    · exact fun Z3 H3 σ3 ρ3 O3 h3 => L.nx Z3 H3 _ _ (O.back O3) h3
    · exact L.rt
    · exact fun Z3 H3 σ3 ρ3 O3 h3 => L.bk Z3 H3 _ _ (O.back O3) h3
    · exact fun Z3 H3 σ3 ρ3 O3 h3 => L.ct Z3 H3 _ _ (O.back O3) h3
/-- isinstance(e, c) of the error that the suite holds: yes -/
def wIsE (i : Nat) (a : Addr) : WE := fun ρ Q => Sl.V ρ[i]? fun d => d = .rf a ∧ Q (.bl true)
theorem de_isE {i : Nat} {a D : Addr} {oe : Obj} {pn : List (Addr × Obj)} {n : Str} {ce : Expr} {np : Pos} {v : V} {cv : Value} (T : ExcC X.K D) (hz : Zc (.ref D) none oe) (hf : ∃ vs, oe.data = .fields vs) (hk : PySem.W.kitOne X.K (.ref D) cv = some true)
    (hv : ∀ u, RelV v u → u = cv) (hce : PE (X.suite a ((a, oe) :: pn)) ce (tC v)) (hm : X.mg "isinstance" = none) (hi : X.N[i]? = some n := by rfl) (hvis : Vis X.env.scope n := by first | exact Or.inl rfl | exact Or.inr (Or.inl rfl) | exact Or.inr (Or.inr rfl)) (hd : (n == ("__debug__" : Str)) = false := by decide)
    (hcd : (n == ("__classdict__" : Str)) = false := by decide) (hg : Gl X "isinstance" := by rfl)
    (h1 : starEach [.Name n np, ce] (X.suite a ((a, oe) :: pn)).env = (false, eval (.Name n np) (X.suite a ((a, oe) :: pn)).env) :: starEach [ce] (X.suite a ((a, oe) :: pn)).env := by rfl)
    (h2 : starEach [ce] (X.suite a ((a, oe) :: pn)).env = (false, eval ce (X.suite a ((a, oe) :: pn)).env) :: starEach [] (X.suite a ((a, oe) :: pn)).env := by rfl)
    (h3 : (backTo pos (starEach [ce] (X.suite a ((a, oe) :: pn)).env)).any (·.1) = false := by rfl) :
    DE (X.suite a ((a, oe) :: pn)) k (.Call (.Name "isinstance" p) [.Name n np, ce] [] pos) (wIsE i a) := by
  refine ⟨_, pe_callB (X := X.suite a ((a, oe) :: pn)) (call_isE T hz hf) hg hm PyProof.Rows.boot_isinstance (pa_cons (pe_var (X := X.suite a ((a, oe) :: pn)) hi hvis hd hcd) (pa_cons hce pa_nil h2) h1) (by decide) (by decide) h1 h3, fun r Z H σ ρ Qd Q O h q => ?_⟩
  obtain ⟨d, e1, e2, e3⟩ := Sl.V_ex h
  subst e2
  obtain ⟨o, h4, v', rfl, h5⟩ := O.sl i _ e1
  cases h5
  exact ⟨_, h4, v, cv, true, rfl, hv, hk, q _ _ Z H (.refl O.bs) (.bl true) e3⟩
end
theorem kit_ref {K : PySem.W.Frag} {t : Value} {S : Addr} (hd : PySem.W.hasDictIn K S = true) (ht : PySem.W.typeIn K (.ref S) = some (.type "type")) (hs : PySem.W.subIn K t (.ref S) = some true) : PySem.W.kitOne K t (.ref S) = some true := by
  obtain ⟨cd, hc, _⟩ := PySem.W.any_some hd
  unfold PySem.W.kitOne
  split
  · rfl
  · show (if ((PySem.W.clsIn K S).isSome && PySem.W.typeIn K (.ref S) == some (.type "type")) = true then PySem.W.subIn K t (.ref S) else none) = some true
    rw [if_pos (show ((PySem.W.clsIn K S).isSome && PySem.W.typeIn K (.ref S) == some (.type "type")) = true by rw [hc, ht]; rfl)]
    exact hs
theorem kit_typ {K : PySem.W.Frag} {t : Value} {T : String} (hm : PySem.W.kitMeta T = true) (hs : PySem.W.subIn K t (.type T) = some true) : PySem.W.kitOne K t (.type T) = some true := by
  unfold PySem.W.kitOne
  split
  · rfl
  · show (if PySem.W.kitMeta T = true then PySem.W.subIn K t (.type T) else none) = some true
    rw [if_pos hm]
    exact hs
end Dl
set_option Elab.async false
set_option linter.all false
set_option maxRecDepth 100000
set_option maxHeartbeats 2000000
namespace Dl
open PySem PySem.Spec PyProof.Rows L2
/-! ### lists and dicts of the def's own: made, changed, frozen -/
section
variable {c : Wc} {k : Cc} {r : Rt} {Z H Z' H' : Hp} {σ : L2.St} {ρ : En}
theorem Ok.newO {i : Nat} {p : Addr} {o : HO} {t' : Sl} (O : Ok c k r Z H σ ρ) (hp : H p = none) (hown : t'.own = true) (hs : SlOk c Z (upd H p o) t' (some (.ref p))) : Ok c k r Z (upd H p o) (σ.set i (some (.ref p))) (ρ.set i t') := by
  have O1 := O.stp (.own (o := o) O.bs hp)
  refine ⟨O1.en, O1.s0, O1.lb, fun j t ht => ?_, fun j t a ht ho ha => ?_, fun j l t u a hjl ht hu ho ho' ha => ?_, O1.lk⟩
  · by_cases hj : i = j
    · subst hj
      rw [List.getElem?_set] at ht
      rw [if_pos rfl] at ht
      split at ht
      · rename_i hl
        cases ht
        obtain ⟨q, h1, _⟩ := O.sl i _ (List.getElem?_eq_getElem hl)
        have hl2 : i < σ.length := (List.getElem?_eq_some_iff.mp h1).1
        exact ⟨some (.ref p), by rw [List.getElem?_set_self hl2], hs⟩
      · cases ht
    · rw [List.getElem?_set_ne hj] at ht ⊢
      exact O1.sl j t ht
  · by_cases hj : i = j
    · subst hj
      have e : a = p := by
        rw [List.getElem?_set, if_pos rfl] at ha
        split at ha
        · cases ha; rfl
        · cases ha
      subst e
      exact ⟨O.bs.zh.free hp, O.en.free O.s0 hp, fun z => O.bs.st.ne hp z.symm⟩
    · rw [List.getElem?_set_ne hj] at ht ha
      exact O1.ow j t a ht ho ha
  · by_cases hj : i = j
    · subst hj
      have e : a = p := by
        rw [List.getElem?_set, if_pos rfl] at ha
        split at ha
        · cases ha; rfl
        · cases ha
      subst e
      rw [List.getElem?_set_ne hjl] at hu ⊢
      intro z
      obtain ⟨q, h1, h2⟩ := O.sl l u hu
      obtain ⟨b, w, h3, h4⟩ := h2.own ho'
      rw [h1] at z
      cases z
      cases h3
      rw [hp] at h4
      cases h4
    · by_cases hl : i = l
      · subst hl
        rw [List.getElem?_set_ne hj] at ht ha
        obtain ⟨q, h1, h2⟩ := O.sl j t ht
        obtain ⟨b, w, h3, h4⟩ := h2.own ho
        rw [h1] at ha
        cases ha
        cases h3
        intro z
        rw [List.getElem?_set, if_pos rfl] at z
        split at z
        · cases z
          rw [hp] at h4
          cases h4
        · cases z
      · rw [List.getElem?_set_ne hj] at ht ha
        rw [List.getElem?_set_ne hl] at hu ⊢
        exact O1.ds j l t u a hjl ht hu ho ho' ha
theorem Ok.chg {i : Nat} {a : Addr} {o' : HO} {t t' : Sl} (O : Ok c k r Z H σ ρ) (ht : ρ[i]? = some t) (hown : t.own = true) (ha : σ[i]? = some (some (.ref a))) (hown' : t'.own = true) (hs : SlOk c Z (upd H a o') t' (some (.ref a))) : Ok c k r Z (upd H a o') σ (ρ.set i t') := by
  obtain ⟨z1, z2, z3⟩ := O.ow i t a ht hown ha
  refine ⟨O.en.mut O.s0 z2 z1, O.s0, O.lb, fun j u hu => ?_, fun j u b hu ho hb => ?_, fun j l u v b hjl hu hv ho ho' hb => ?_, O.lk⟩
  · by_cases hj : i = j
    · subst hj
      rw [List.getElem?_set, if_pos rfl] at hu
      split at hu
      · cases hu
        exact ⟨_, ha, hs⟩
      · cases hu
    · rw [List.getElem?_set_ne hj] at hu
      obtain ⟨q, h1, h2⟩ := O.sl j u hu
      refine ⟨q, h1, ?_⟩
      cases u with
      | un => trivial
      | val d => exact h2
      | ol ds =>
        obtain ⟨b, vs, e1, e2, e3⟩ := h2
        refine ⟨b, vs, e1, ?_, e3⟩
        rw [upd_ne]
        · exact e2
        · intro z
          subst z
          exact O.ds i j t _ b hj ht hu hown rfl ha (by rw [h1, e1])
      | od ds =>
        obtain ⟨b, vs, e1, e2, e3⟩ := h2
        refine ⟨b, vs, e1, ?_, e3⟩
        rw [upd_ne]
        · exact e2
        · intro z
          subst z
          exact O.ds i j t _ b hj ht hu hown rfl ha (by rw [h1, e1])
  · by_cases hj : i = j
    · subst hj
      rw [ha] at hb
      cases hb
      exact ⟨z1, z2, z3⟩
    · rw [List.getElem?_set_ne hj] at hu
      exact O.ow j u b hu ho hb
  · by_cases hj : i = j
    · subst hj
      rw [List.getElem?_set_ne hjl] at hv
      exact O.ds i l t v b hjl ht hv hown ho' hb
    · rw [List.getElem?_set_ne hj] at hu
      by_cases hl : i = l
      · subst hl
        exact O.ds j i u t b hjl hu ht ho hown hb
      · rw [List.getElem?_set_ne hl] at hv
        exact O.ds j l u v b hjl hu hv ho ho' hb
theorem Ok.frzO {i : Nat} {a : Addr} {o : HO} {t : Sl} {d : D} (O : Ok c k r Z H σ ρ) (ht : ρ[i]? = some t) (hown : t.own = true) (ha : σ[i]? = some (some (.ref a))) (hH : H a = some o) (hr : Rp c (upd Z a o) (.ref a) d) : Ok c k r (upd Z a o) H σ (ρ.set i (.val d)) := by
  obtain ⟨z1, z2, z3⟩ := O.ow i t a ht hown ha
  have zz : Same Z (upd Z a o) := fun b u q => by rw [upd_ne (ne_of_none q z1)]; exact q
  refine ⟨O.en.frz O.s0 z2 z1 hH, O.s0, O.lb.trans zz, fun j u hu => ?_, fun j u b hu ho hb => ?_, fun j l u v b hjl hu hv ho ho' hb => ?_, O.lk⟩
  · by_cases hj : i = j
    · subst hj
      rw [List.getElem?_set, if_pos rfl] at hu
      split at hu
      · cases hu
        exact ⟨_, ha, _, rfl, hr⟩
      · cases hu
    · rw [List.getElem?_set_ne hj] at hu
      obtain ⟨q, h1, h2⟩ := O.sl j u hu
      refine ⟨q, h1, ?_⟩
      cases u with
      | un => trivial
      | val d =>
        obtain ⟨v, e1, e2⟩ := h2
        exact ⟨v, e1, e2.mono zz⟩
      | ol ds =>
        obtain ⟨b, vs, e1, e2, e3⟩ := h2
        exact ⟨b, vs, e1, e2, e3.mono zz⟩
      | od ds =>
        obtain ⟨b, vs, e1, e2, e3⟩ := h2
        exact ⟨b, vs, e1, e2, e3.mono zz⟩
  · by_cases hj : i = j
    · subst hj
      rw [List.getElem?_set, if_pos rfl] at hu
      split at hu
      · cases hu
        cases ho
      · cases hu
    · rw [List.getElem?_set_ne hj] at hu
      obtain ⟨q1, q2, q3⟩ := O.ow j u b hu ho hb
      refine ⟨?_, q2, q3⟩
      rw [upd_ne]
      · exact q1
      · intro z
        subst z
        exact O.ds i j t u b hj ht hu hown ho ha hb
  · have hj : i ≠ j := fun e => by
      subst e
      rw [List.getElem?_set, if_pos rfl] at hu
      split at hu
      · cases hu
        cases ho
      · cases hu
    have hl : i ≠ l := fun e => by
      subst e
      rw [List.getElem?_set, if_pos rfl] at hv
      split at hv
      · cases hv
        cases ho'
      · cases hv
    rw [List.getElem?_set_ne hj] at hu
    rw [List.getElem?_set_ne hl] at hv
    exact O.ds j l u v b hjl hu hv ho ho' hb
end
def Sl.OL (t : Option Sl) (Q : List D → Prop) : Prop := match t with
  | some (.ol ds) => Q ds
  | _ => False
theorem Sl.OL_ex {t : Option Sl} {Q : List D → Prop} (h : Sl.OL t Q) : ∃ d, t = some (.ol d) ∧ Q d := by
  cases t with
  | none => exact h.elim
  | some t => cases t <;> first | exact ⟨_, rfl, h⟩ | exact h.elim
def Sl.OD (t : Option Sl) (Q : List (Key × D) → Prop) : Prop := match t with
  | some (.od ds) => Q ds
  | _ => False
theorem Sl.OD_ex {t : Option Sl} {Q : List (Key × D) → Prop} (h : Sl.OD t Q) : ∃ d, t = some (.od d) ∧ Q d := by
  cases t with
  | none => exact h.elim
  | some t => cases t <;> first | exact ⟨_, rfl, h⟩ | exact h.elim
section
variable {X : Cx} {k : Cc} {a b e c : Expr} {es : List Expr} {wa wb w wc' : WE} {pos p p1 p2 pos2 : Pos} {rest : List Stmt}
/-- x = [] -/
def wNewL (i : Nat) : WS := fun d ρ => d.nx (ρ.set i (.ol []))
theorem ds_newl {i : Nat} {x : Str} {pos' : Pos} (hN : X.N.Nodup) (hi : X.N[i]? = some x := by rfl) (hx : Loc X.env.scope x := by first | exact Or.inl rfl | exact Or.inr rfl) (hs : swapsWith (.List [] p) (some (.Name x pos')) pos.line X.env = pure false := by rfl)
    (hf : X.fn x = true ∨ X.env.scope.names.lookup x = some .local := by first | exact .inl rfl | exact .inr rfl | assumption) : DS X k (.Assign [.Name x pos'] (.List [] p) pos) (wNewL i) := by
  refine ⟨_, ps_set hN hi hx (pe_lst pa_nil) hs hf, fun r Z H σ ρ d E O L h => ?_⟩
  exact ⟨Nat.zero_le _, fun q hq => L.nx _ _ _ _ (O.newO (t' := .ol []) hq rfl ⟨q, [], rfl, upd_same, .nil⟩) h⟩
/-- x = {} -/
def wNewD (i : Nat) : WS := fun d ρ => d.nx (ρ.set i (.od []))
theorem ds_newd {i : Nat} {x : Str} {pos' : Pos} (hN : X.N.Nodup) (hi : X.N[i]? = some x := by rfl) (hx : Loc X.env.scope x := by first | exact Or.inl rfl | exact Or.inr rfl) (hs : swapsWith (.Dict [] [] p) (some (.Name x pos')) pos.line X.env = pure false := by rfl)
    (hf : X.fn x = true ∨ X.env.scope.names.lookup x = some .local := by first | exact .inl rfl | exact .inr rfl | assumption) : DS X k (.Assign [.Name x pos'] (.Dict [] [] p) pos) (wNewD i) := by
  refine ⟨_, ps_set hN hi hx pe_dnewK hs hf, fun r Z H σ ρ d E O L h => ?_⟩
  exact fun q hq => L.nx _ _ _ _ (O.newO (t' := .od []) hq rfl ⟨q, [], rfl, upd_same, .nil⟩) h
/-- x.append(e) -/
def wApp (i : Nat) (w : WE) : WS := fun d ρ => Sl.OL ρ[i]? fun ds => w ρ fun y => ds.length ≤ 100000 ∧ d.nx (ρ.set i (.ol (ds ++ [y])))
theorem ds_app {i : Nat} {x : Str} {apos npos : Pos} (h : DE X k e w) (hi : X.N[i]? = some x := by rfl) (hv : Vis X.env.scope x := by first | exact Or.inl rfl | exact Or.inr (Or.inl rfl) | exact Or.inr (Or.inr rfl)) (hd : (x == ("__debug__" : Str)) = false := by decide) (hcd : (x == ("__classdict__" : Str)) = false := by decide)
    (h1 : starEach [e] X.env = (false, eval e X.env) :: starEach [] X.env := by rfl)
    (pb : ∀ {tx : TE} {ta : TA}, PE X (.Name x npos) tx → PA X [e] ta → PE X (.Call (.Attribute (.Name x npos) "append" apos) [e] [] p) (tBM X.K "list" rAppend tx ta) := by intro _ _ h1 h2; exact pe_bm PySem.F.plainAttrs_list PySem.F.slot_list_append PySem.F.type_list_append mt_append h1 h2)
    (hs : swapsWith (.Call (.Attribute (.Name x npos) "append" apos) [e] [] p) none pos.line X.env = pure false := by rfl) : DS X k (.Expr (.Call (.Attribute (.Name x npos) "append" apos) [e] [] p) pos) (wApp i w) := by
  obtain ⟨t, pe, f⟩ := h
  refine ⟨_, ps_expr (pb (pe_var hi hv hd hcd) (pa_cons pe pa_nil h1)) hs, fun r Z H σ ρ d E O L h => ?_⟩
  obtain ⟨ds, e1, h⟩ := Sl.OL_ex h
  obtain ⟨o, h2, a, vs, rfl, h3, h4⟩ := O.sl i _ e1
  obtain ⟨z1, z2, z3⟩ := O.ow i _ a e1 rfl h2
  refine ⟨_, h2, .inl ⟨rfl, _, SqL.of h3⟩, f r Z H σ ρ _ _ O h fun y v Z1 H1 s1 r1 h1 => ?_⟩
  have h5 := s1.hh a _ h3 z3
  refine ⟨a, vs, v, rfl, rfl, h5, ?_, L.nx Z1 _ σ _ ((O.stp s1).chg e1 rfl h2 (t' := .ol (ds ++ [y])) rfl ⟨a, _, rfl, upd_same, (h4.mono s1.zz).append (.cons r1 .nil)⟩) h1.2⟩
  rw [h4.length]
  exact Nat.lt_of_le_of_lt h1.1 (by decide)
/-- what is changed no more is a tree -/
def wFrzL (i : Nat) (u : WS) : WS := fun d ρ => Sl.OL ρ[i]? fun ds => u d (ρ.set i (.val (.lst ds)))
theorem db_frzL {i : Nat} {u : WS} (h : DB X k rest u) : DB X k rest (wFrzL i u) := by
  obtain ⟨t, p, f⟩ := h
  refine ⟨t, p, fun r Z H σ ρ d E O L h => ?_⟩
  obtain ⟨ds, e1, h1⟩ := Sl.OL_ex h
  obtain ⟨o, h2, a, vs, rfl, h3, h4⟩ := O.sl i _ e1
  obtain ⟨z1, _, _⟩ := O.ow i _ a e1 rfl h2
  exact f r _ H σ _ d E (O.frzO e1 rfl h2 h3 (.lst upd_same (h4.mono fun b u q => by rw [upd_ne (ne_of_none q z1)]; exact q))) L h1
def wFrzD (i : Nat) (u : WS) : WS := fun d ρ => Sl.OD ρ[i]? fun ds => u d (ρ.set i (.val (.dic ds)))
theorem db_frzD {i : Nat} {u : WS} (h : DB X k rest u) : DB X k rest (wFrzD i u) := by
  obtain ⟨t, p, f⟩ := h
  refine ⟨t, p, fun r Z H σ ρ d E O L h => ?_⟩
  obtain ⟨ds, e1, h1⟩ := Sl.OD_ex h
  obtain ⟨o, h2, a, vs, rfl, h3, h4⟩ := O.sl i _ e1
  obtain ⟨z1, _, _⟩ := O.ow i _ a e1 rfl h2
  exact f r _ H σ _ d E (O.frzO e1 rfl h2 h3 (.dic (.inl upd_same) (h4.mono fun b u q => by rw [upd_ne (ne_of_none q z1)]; exact q))) L h1
end
end Dl
set_option Elab.async false
set_option linter.all false
set_option maxRecDepth 100000
set_option maxHeartbeats 2000000
namespace Dl
open PySem PySem.Spec PyProof.Rows L2
section
variable {X : Cx} {pins : List (Addr × Obj)} {σ : L2.St} {H : Hp} {s : Shared}
/-- a bound __init__ of ValueError is called -/
theorem mw_call {A : Around} {E : Value → Shared → Prop} {u a C : Addr} {us : List Value} {Q : Value → Shared → Prop} (T : OexC X.K C) (I : Inv X ((u, PySem.W.kxs_mw "ValueError.__init__" a) :: pins) σ H s) (e : H a = some (exo a C none)) (hl : us.length ≤ sizeLine) (h : ∀ s', Inv X pins σ H s' → Q .none s') :
    wpAny (model X.prog X.w) A (call (.ref u) us) Q E s := by
  obtain ⟨nm, q, N, bs, bm, sn, sub, ab, col, dd, k0, k1, k2, k3, k5, hC, hbm⟩ := T.cls
  obtain ⟨t1, ho⟩ := exo_at I.hok e
  have hu := (I.pin _ (List.mem_append_right _ List.mem_cons_self)).1
  have I0 : Inv X pins σ H s := I.pins_of fun q hq => I.pin q (List.mem_append_right _ (List.mem_cons_of_mem _ hq))
  have hCC := I.kIn _ _ hC
  obtain ⟨hp, g, d, t, os⟩ := s
  have FB := F.excBase_ValueError
  refine wpAny_call (codeAny_of_tree ?_)
  show wpAny _ A.in1 (callAny (.ref u) ⟨us, []⟩) _ _ _
  simp only [callAny]
  refine wpAny_bind (wpAny_load hu ?_)
  simp only [PySem.W.kxs_mw, show (Value.type "method-wrapper" == Value.type "method" || Value.type "method-wrapper" == Value.type "builtin_function_or_method" || Value.type "method-wrapper" == Value.type "method-wrapper") = true by decide, if_true]
  refine PySem.W.KFB.if_so (by decide) ?_
  refine wpAny_bind (PySem.W.check_bound_init FB.toExcCallFacts hCC ho rfl ?_)
  refine wpAny_bind (wpAny_pure (wpAny_pure ?_))
  refine ⟨Code.quiet_builtin _ (by decide +kernel), codeAny_builtin FB.initEntry ?_⟩
  rw [Around.under_plainId FB.init.plain _]
  refine PySem.W.exc_init_tree (cls := .ref C) (t0 := t1) (dv := none) (c2 := .none) (c3 := .none) (b4 := .bool false) ho hl fun h' k hx ht => ?_
  have J := I0.write (t' := t) (x := a) (e := a) (o := exo a C none) (by rw [e]; exact True.intro) (.inl rfl) k ⟨_, hx⟩ (exo_ok hx)
  have eu : upd H a (exo a C none) = H := by
    funext b
    by_cases hb : b = a
    · rw [hb, upd_same, e]
    · rw [upd_ne hb]
  rw [eu] at J
  exact h _ J
/-- what stands of a class whose __init__ begins with super().__init__(..) -/
structure SupC (K : PySem.W.Frag) (P : Program) (mg : Str → Option Value) (C cc cda f : Addr) (fd : FuncData) : Prop where
  T : OexC K C
  fn : ∃ oc od osl, K.lookup f = some ⟨oc, od, .func fd, osl⟩
  code : ∃ ccl cdd vs ccs file tf, K.lookup cda = some ⟨ccl, cdd, .fields vs, ccs⟩ ∧ vs[2]? = some (.str file tf) ∧ ((P.main.file : Str) == file) = true
  cell : ∃ cl cld csl, K.lookup cc = some ⟨cl, cld, .cell (some (.ref C)), csl⟩
  sub : PySem.W.mroIn K C (.ref C) = some true
  opq : PySem.W.nsIn K cStatics "thirdparty.any" = some none
  up : PySem.W.ks_superIn K C C "__init__" = some (some (.builtin "ValueError.__init__"))
  ve : PySem.W.subIn K (.ref C) (.type "ValueError") = some true
  nsup : mg "super" = none
  top : (P.main.scope.names.lookup ("super" : Str)).isSome = false
theorem sup_stmt {q : Str} {scope : Scope} {L f cda cc a C : Addr} {body : List Stmt} {e : Expr} {ta : TA} {p0 p1 ap pos : Pos} {fd : FuncData} {ar : Arg}
    (S : SupC X.K X.prog X.mg C cc cda f fd) (henv : X.env = PySem.W.ksEnv q scope L f (.ref cda) cc) (I : Inv X pins σ H s) (ea : H a = some (exo a C none))
    (hp : (fd.params.posonlyargs ++ fd.params.args).head? = some ar) (hN : X.N[0]? = some ar.arg) (hv : σ[0]? = some (some (.ref a)))
    (hks : scope.names.lookup ("super" : Str) = some .globalImplicit) (hkc : scope.names.lookup ("__class__" : Str) = some .free) (hka : scope.names.lookup ar.arg = some .local) (hk : scope.kind = .function)
    (ha : PA X [e] ta) (hta : ta σ H fun vs H1 => vs.length = 1 ∧ H1 = H) {pl : Sem Bool}
    (hev : eval (.Call (.Attribute (.Call (.Name "super" p0) [] [] p1) "__init__" ap) [e] [] pos) (PySem.W.ksEnv q scope L f (.ref cda) cc) = (do
      let ov ← attributeBase (.Call (.Name "super" p0) [] [] p1) "__init__" (PySem.W.ksEnv q scope L f (.ref cda) cc) (eval (.Call (.Name "super" p0) [] [] p1) (PySem.W.ksEnv q scope L f (.ref cda) cc))
      standAt ap.atName
      let (f', first) ← holding [ov] (getMethod ov "__init__" pl)
      callWith pos f' first (backTo pos (starEach [e] (PySem.W.ksEnv q scope L f (.ref cda) cc))) []))
    (he : starEach [e] (PySem.W.ksEnv q scope L f (.ref cda) cc) = [(false, eval e (PySem.W.ksEnv q scope L f (.ref cda) cc))]) :
    _root_.PySem.wpAt (model X.prog X.w) X.A (.func body (PySem.W.ksEnv q scope L f (.ref cda) cc)) (eval (.Call (.Attribute (.Call (.Name "super" p0) [] [] p1) "__init__" ap) [e] [] pos) (PySem.W.ksEnv q scope L f (.ref cda) cc))
      (fun _ s' => Inv X pins σ H s') X.xe s := by
  obtain ⟨nm, qn, N, bs, bm, sn, sub, ab, col, dd, k0, k1, k2, k3, k5, hC, hbm⟩ := S.T.cls
  have hcl : PySem.W.clsIn X.K C = some { name := nm, bases := bs, mro := .ref C :: bm, ns := N, qualname := qn, hasDict := true, slotNames := sn, subclasses := sub, abstract := ab, collection := col, hasDel := false } := by unfold PySem.W.clsIn; rw [hC] <;> rfl
  obtain ⟨oc, od, osl, lk⟩ := S.fn
  obtain ⟨ccl, cdd, vs, ccs, file, tf, hcode, hvs, hfile⟩ := S.code
  obtain ⟨cl, cld, csl, hcell⟩ := S.cell
  have X0 := I.kIn
  obtain ⟨t1, ho⟩ := exo_at I.hok ea
  have hCC := X0 _ _ hC
  obtain ⟨m, hns, hloc⟩ := I.loc
  have hL : X.env.locals = L := by rw [henv]
  have hme : m ar.arg = some (.ref a) := by
    obtain ⟨u, ru, lk⟩ := hloc 0 ar.arg _ hN hv (by rw [henv]; exact .inl hka)
    obtain rfl : u = Value.ref a := ru
    rcases lk with ⟨_, z⟩ | ⟨z, _⟩
    · exact z
    · rw [henv] at z
      have z' : scope.names.lookup ar.arg = some .cell ∨ scope.names.lookup ar.arg = some .free := z
      rw [hka] at z'
      rcases z' with z' | z' <;> cases z'
  rw [hL] at hns
  obtain ⟨mb, hb1, hb2⟩ := I.mod.blt
  obtain ⟨hh, g, d, t, os⟩ := s
  refine ks_wpAt_MethodCall (pl := pl) ?_ hev
  refine ks_wpAt_super_base (env := PySem.W.ksEnv q scope L f (.ref cda) cc) hks hkc (by decide) rfl (X0 _ _ lk) rfl hp rfl (X0 _ _ hcode) rfl hvs hfile S.top ?_
  refine PySem.W.ks_loadName_global hk hks (Calls.loadGlobal_builtin (env := PySem.W.ksEnv q scope L f (.ref cda) cc) (I.mod.glob.keeps I.bk) S.nsup (hb1.keeps I.bk) ((hb2 "super" (by decide)).trans (by kernel_rfl)) ⟨rfl, ?_⟩)
  refine wpAny_loadName_free hk hkc rfl ⟨_, X0 _ _ hcell, rfl⟩ ?_
  refine wpAny_loadName_local hk hka hns hme ?_
  refine ks_wpAny_isType_cls hCC rfl ⟨rfl, ?_⟩
  refine ks_wpAny_call_super hCC rfl ho rfl (fun c z => by cases z) (PySem.W.looks_mroIn X0 S.sub) (fun h' e1 k => ?_)
  have X1 := X0.keeps k
  have J := I.kept (t' := t) k
  have hup : PySem.W.alongIn X.K "__init__" (((Value.ref C :: bm).dropWhile (· != .ref C)).drop 1) = some (some (.builtin "ValueError.__init__")) := by
    have z := S.up
    unfold PySem.W.ks_superIn at z
    rw [hcl] at z
    exact z
  have IA : PySem.W.InstAt h' a ({ cls := .ref C, dict := none, data := .fields #[.ref t1, .none, .none, .none, .bool false, .none] } : Obj) C none := ⟨k _ _ ho, rfl, rfl, trivial⟩
  refine PySem.W.kxs_getMethod PySem.W.kxs_ValueError e1 (PySem.W.looks_opaque X1 S.opq) ((PySem.W.looks_clsIn X1 hcl).andThen .now) rfl X1 hup (IA.type.andThen (PySem.W.looks_subIn X1 S.ve)) (PySem.W.ks_ne X1 IA hcl) (by decide) ?_
  let u : Addr := h'.objs.size
  let o := PySem.W.kxs_mw "ValueError.__init__" a
  have I1 : Inv X pins σ H ⟨h'.push o, g, d, t + 1, os⟩ := I.kept (t' := t + 1) fun b z y => Heap.get?_push_of_some _ (k b z y)
  have hx : (h'.push o).get? u = some o := Heap.get?_push_size _ rfl
  have I2 : Inv X ((u, o) :: pins) σ H ⟨h'.push o, g, d, t + 1, os⟩ := I1.pins_of fun q hq => by
    rcases List.mem_cons.mp hq with e | e
    · subst e
      exact ⟨hx, J.hok.fresh (Nat.le_refl _), Nat.ne_of_gt J.lt, J.nofs (Nat.le_refl _), fun v z => nomatch z⟩
    · exact I1.pin q (List.mem_append_right _ e)
  show wpAny _ _ (callWith pos (.ref u) [] (backTo pos (starEach [e] (PySem.W.ksEnv q scope L f (.ref cda) cc))) []) _ _ _
  have run := ha.run pos _ _ σ H _ I2 hta
  rw [henv, he] at run
  rw [he]
  refine PySem.W.kxs_callWith (i := "ValueError.__init__") (x := a) rfl (Calls.evalArgs_plain (thn run fun us s3 ⟨vs, H1, I3, rv, hl, eH⟩ => ?_))
  subst eH
  refine ⟨(I3.pin _ (List.mem_append_right _ List.mem_cons_self)).1, mw_call S.T I3 ea ?_ fun s' J => J⟩
  show us.length ≤ sizeLine
  rw [← rv.length, hl]
  decide
end
/-- the promise of an __init__ that says super().__init__(..) and keeps its argument -/
def spSup (C : Addr) (fld : Str) (good : V → Prop) : Sp := fun vs H Q _ => ∃ a v, vs = [.ref a, v] ∧ good v ∧ H a = some (exo a C none) ∧ ∀ dx, H dx = none → dx ≠ a → Q .non (upd (upd H dx (exd dx [(fld, v)])) a (exo a C (some dx)))
def cxS (CX : CXT) (P : Program) (w : World) (K : PySem.W.Frag) (mg : Str → Option Value) (base : Heap) (N : List Str) (qual : Str) (scope : Scope) (f cda cc : Addr) (A : Around) (outer : List Env) (s : Shared) (H : Hp) (E : XK) : Cx where
  prog := P
  w := w
  K := K
  mg := mg
  base := base
  A := A.deeper (PySem.W.ksEnv qual scope s.heap.objs.size f (.ref cda) cc)
  N := N
  s_0 := s
  H_0 := H
  env := PySem.W.ksEnv qual scope s.heap.objs.size f (.ref cda) cc
  outer := outer
  stack := PySem.W.ksEnv qual scope s.heap.objs.size f (.ref cda) cc :: outer
  ex := []
  calm := true
  fn := fun _ => false
  pn := []
  xe := fun e s' => wpAny (model P w) (A.deeper (PySem.W.ksEnv qual scope s.heap.objs.size f (.ref cda) cc)) (leaving (PySem.W.ksEnv qual scope s.heap.objs.size f (.ref cda) cc) e) (fun _ s'' => CX outer H s E e s'') (fun e' s'' => CX outer H s E e' s'') s'
abbrev supBody (fld sf par : Str) (e : Expr) (p0 p1 ap pos ep q1 q2 q3 q4 : Pos) : List Stmt :=
  [.Expr (.Call (.Attribute (.Call (.Name "super" p0) [] [] p1) "__init__" ap) [e] [] pos) ep, .Assign [.Attribute (.Name sf q1) fld q2] (.Name par q3) q4]
section
variable {CX : CXT} {P : Program} {w : World} {K : PySem.W.Frag} {mg : Str → Option Value} {base : Heap} {k : Nat} {f cda cc C : Addr} {name qual fld sf par : Str} {params : Arguments} {scope : Scope} {dV kV doc pm ct : Value} {an : Option Addr} {e : Expr} {p0 p1 ap pos ep q1 q2 q3 q4 : Pos} {ar : Arg} {good : V → Prop}
theorem fn_sup (S : SupC K P mg C cc cda f (PySem.W.ksFn name qual params (supBody fld sf par e p0 p1 ap pos ep q1 q2 q3 q4) scope dV kV doc pm an (.ref cda) ct cc))
    (hcd : PySem.W.codeIn K (.ref cda) qual = true) (hp : (params.posonlyargs ++ params.args).head? = some ar) (har : ar.arg = sf) (hne : sf ≠ par)
    (hks : scope.names.lookup ("super" : Str) = some .globalImplicit) (hkc : scope.names.lookup ("__class__" : Str) = some .free) (hka : scope.names.lookup sf = some .local) (hkp : scope.names.lookup par = some .local) (hk : scope.kind = .function)
    (hcell : ∀ x ∈ scope.names, x.2 ≠ .cell) (hfree : ∀ x ∈ scope.names, x.2 = .free → x.1 = "__class__") (hco : scope.isCoroutine = false) (hgen : scope.isGenerator = false)
    (hno : PySem.W.findIn K (.ref C) fld = some none)
    (hE : ∀ A outer s H E, ∃ ta, PA (cxS CX P w K mg base [sf, par] qual scope f cda cc A outer s H E) [e] ta ∧ ∀ x v H, good v → ta [some x, some v] H fun vs H1 => vs.length = 1 ∧ H1 = H)
    {pl : Sem Bool}
    (hev : ∀ L, eval (.Call (.Attribute (.Call (.Name "super" p0) [] [] p1) "__init__" ap) [e] [] pos) (PySem.W.ksEnv qual scope L f (.ref cda) cc) = (do
      let ov ← attributeBase (.Call (.Name "super" p0) [] [] p1) "__init__" (PySem.W.ksEnv qual scope L f (.ref cda) cc) (eval (.Call (.Name "super" p0) [] [] p1) (PySem.W.ksEnv qual scope L f (.ref cda) cc))
      standAt ap.atName
      let (f', first) ← holding [ov] (getMethod ov "__init__" pl)
      callWith pos f' first (backTo pos (starEach [e] (PySem.W.ksEnv qual scope L f (.ref cda) cc))) []))
    (he : ∀ L, starEach [e] (PySem.W.ksEnv qual scope L f (.ref cda) cc) = [(false, eval e (PySem.W.ksEnv qual scope L f (.ref cda) cc))])
    (hi : ∀ L, interactive (PySem.W.ksEnv qual scope L f (.ref cda) cc) = false)
    (hs1 : ∀ L, swapsWith (.Call (.Attribute (.Call (.Name "super" p0) [] [] p1) "__init__" ap) [e] [] pos) none ep.line (PySem.W.ksEnv qual scope L f (.ref cda) cc) = pure false)
    (hs2 : ∀ L, swapsWith (.Name par q3) (some (.Attribute (.Name sf q1) fld q2)) q4.line (PySem.W.ksEnv qual scope L f (.ref cda) cc) = pure false)
    (hd1 : (sf == ("__debug__" : Str)) = false) (hd2 : (par == ("__debug__" : Str)) = false) (hc1 : (sf == ("__classdict__" : Str)) = false) (hc2 : (par == ("__classdict__" : Str)) = false) :
    FnOk P w K mg base CX (k + 1) f (PySem.W.ksFn name qual params (supBody fld sf par e p0 p1 ap pos ep q1 q2 q3 q4) scope dV kV doc pm an (.ref cda) ct cc) [sf, par] (spSup C fld good) := by
  refine ⟨fun vs H Q E ⟨a, v, e, _⟩ => by rw [e]; rfl, fun A outer s H args us vs Q E hr e0 hb r hsp => ?_⟩
  obtain ⟨a, v, rfl, hg, ea, hq⟩ := hsp
  have KX : K.In s.heap := e0.mod.kin.keeps fun b o e => (e0.bs b o e).1
  have lim : s.heap.NoLimit := e0.mod.nolimit.keeps fun b o e => (e0.bs b o e).1
  obtain ⟨oc, od, osl, lk⟩ := S.fn
  cases r with
  | @cons _ ua _ ur ra rr => cases rr with
    | @cons _ uv _ ur2 rb r0 =>
      cases r0
      refine ks_codeAny_call_defAt (fd := PySem.W.ksFn name qual params (supBody fld sf par e p0 p1 ap pos ep q1 q2 q3 q4) scope dV kV doc pm an (.ref cda) ct cc) (body := supBody fld sf par e p0 p1 ap pos ep q1 q2 q3 q4) (binds := [sf, par].zip [ua, uv]) hr.depth (KX _ _ lk) rfl lim (PySem.W.codeRec_of KX hcd) rfl hb hcell ?_ (fun h₁ hns hk₁ => ?_) hco hgen hk
      · intro y hy
        simp only [List.zip_cons_cons, List.zip_nil_right, List.mem_cons, List.not_mem_nil, or_false] at hy
        rcases hy with rfl | rfl
        · exact hka
        · exact hkp
      · obtain rfl : ua = Value.ref a := ra
        obtain ⟨ta, hta, htr⟩ := hE A outer s H E
        obtain ⟨cl, cld, csl, hcc⟩ := S.cell
        have cel : ∀ (x : Str) (c : Addr), (cxS CX P w K mg base [sf, par] qual scope f cda cc A outer s H E).env.cells.lookup x = some c → x = "__class__" ∧ c = cc := fun x c h => by
          have h' : List.lookup x [(("__class__" : Str), cc)] = some c := h
          rw [List.lookup_cons] at h'
          split at h'
          · rename_i q
            exact ⟨eq_of_beq q, by cases h'; rfl⟩
          · cases h'
        have ok : (cxS CX P w K mg base [sf, par] qual scope f cda cc A outer s H E).Ok := by
          refine ⟨e0.mod, hk, rfl, rfl, Nat.le_refl _, fun x y c h1 h2 => (cel x c h1).1.trans (cel y c h2).1.symm, fun x hx => ?_, fun x c h => (nomatch h), fun _ => hr.hd, Around.frames_deeper e0.frames, .inr ⟨rfl, rfl⟩, fun b z => absurd z List.not_mem_nil, e0.bs, e0.bsz, fun b _ _ => List.not_mem_nil, fun b z => absurd z List.not_mem_nil, e0.funs, e0.frf⟩
          have hx' : scope.names.lookup x = some .cell ∨ scope.names.lookup x = some .free := hx
          rcases hx' with hx' | hx'
          · exact absurd rfl (hcell _ (PySem.mem_of_lookup hx'))
          · have e := hfree _ (PySem.mem_of_lookup hx') rfl
            exact ⟨cc, by rw [show x = "__class__" from e]; rfl⟩
        have I0 : Inv (cxS CX P w K mg base [sf, par] qual scope f cda cc A outer s H E) [] [some (.ref a), some v] H { s with heap := h₁, toks := s.toks + ([sf, par].zip [Value.ref a, uv]).length } := by
          refine ⟨ok, rfl, e0.bare, Un.kept hk₁, ⟨_, hns, fun i x y h1 h2 h3 => ?_⟩, fun x c h => ?_, e0.hok.fresh (Nat.le_refl _), fun x c h => ?_, fun p hp => absurd (show p ∈ ([] : List (Addr × Obj)) from hp) List.not_mem_nil, e0.hok.kept hk₁, rfl⟩
          · match i with
            | 0 =>
              cases h1
              cases h2
              exact ⟨_, rfl, .inl ⟨hka, by
                show List.lookup sf [(par, uv), (sf, Value.ref a)] = _
                rw [List.lookup_cons, show (sf == par) = false from beq_eq_false_iff_ne.mpr hne]
                show List.lookup sf [(sf, Value.ref a)] = _
                rw [List.lookup_cons, show (sf == sf) = true from beq_self_eq_true sf]⟩⟩
            | 1 =>
              cases h1
              cases h2
              exact ⟨_, rb, .inl ⟨hkp, by
                show List.lookup par [(par, uv), (sf, Value.ref a)] = _
                rw [List.lookup_cons, show (par == par) = true from beq_self_eq_true par]⟩⟩
            | i + 2 => cases h1
          · obtain ⟨rfl, rfl⟩ := cel x c h
            exact ⟨_, _, hk₁ _ _ (KX _ _ hcc), rfl⟩
          · obtain ⟨rfl, rfl⟩ := cel x c h
            exact (e0.bs _ _ (e0.mod.kin _ _ hcc)).2
        subst har
        refine ks_wpAt_execs_cons (ks_wpAt_Expr_any (ks_wpAt_mono (sup_stmt (X := cxS CX P w K mg base [ar.arg, par] qual scope f cda cc A outer s H E) (pins := []) S rfl I0 ea hp rfl rfl hks hkc hka hk hta (htr _ _ _ hg) (hev _) (he _)) (fun _ s' I1 => ?_) fun _ _ x => x) (hi _) (hs1 _))
        have rd := (pss_one (ps_ost (X := cxS CX P w K mg base [ar.arg, par] qual scope f cda cc A outer s H E) (pe_var (i := 0) rfl (.inl hka) hd1 hc1) (pe_var (i := 1) rfl (.inl hkp) hd2 hc2) (hs2 _))).run [] s' _ H { nx := fun _ H' => Q .non H', rt := Q } I1
          ⟨v, rfl, .ref a, rfl, a, C, rfl, S.T, hno, .inl ⟨ea, hq⟩⟩
        refine wpAt_of_wpAny (wpAny_mono rd (fun fl s2 hs => ?_) fun e s2 hs => hs)
        cases fl with
        | next =>
          obtain ⟨σ', H', J, q⟩ := hs
          exact ⟨V.non, H', J.os, J.bare, J.base, J.hok, rfl, q⟩
        | ret u =>
          obtain ⟨v', σ', H', J, rv, q⟩ := hs
          exact ⟨v', H', J.os, J.bare, J.base, J.hok, rv, q⟩
        | brk =>
          obtain ⟨_, _, _, q⟩ := hs
          exact False.elim q
        | cont =>
          obtain ⟨_, _, _, q⟩ := hs
          exact False.elim q
theorem fn_sup' {st : Stmt} (hst : defBody st = supBody fld sf par e p0 p1 ap pos ep q1 q2 q3 q4) (S : SupC K P mg C cc cda f (PySem.W.ksFn name qual (defArgs st) (defBody st) (defScope st) dV kV doc pm an (.ref cda) ct cc))
    (hcd : PySem.W.codeIn K (.ref cda) qual = true) (hp : ((defArgs st).posonlyargs ++ (defArgs st).args).head? = some ar) (har : ar.arg = sf) (hne : sf ≠ par)
    (hks : (defScope st).names.lookup ("super" : Str) = some .globalImplicit) (hkc : (defScope st).names.lookup ("__class__" : Str) = some .free) (hka : (defScope st).names.lookup sf = some .local) (hkp : (defScope st).names.lookup par = some .local) (hk : (defScope st).kind = .function)
    (hcell : ∀ x ∈ (defScope st).names, x.2 ≠ .cell) (hfree : ∀ x ∈ (defScope st).names, x.2 = .free → x.1 = "__class__") (hco : (defScope st).isCoroutine = false) (hgen : (defScope st).isGenerator = false)
    (hno : PySem.W.findIn K (.ref C) fld = some none)
    (hE : ∀ A outer s H E, ∃ ta, PA (cxS CX P w K mg base [sf, par] qual (defScope st) f cda cc A outer s H E) [e] ta ∧ ∀ x v H, good v → ta [some x, some v] H fun vs H1 => vs.length = 1 ∧ H1 = H)
    {pl : Sem Bool}
    (hev : ∀ L, eval (.Call (.Attribute (.Call (.Name "super" p0) [] [] p1) "__init__" ap) [e] [] pos) (PySem.W.ksEnv qual (defScope st) L f (.ref cda) cc) = (do
      let ov ← attributeBase (.Call (.Name "super" p0) [] [] p1) "__init__" (PySem.W.ksEnv qual (defScope st) L f (.ref cda) cc) (eval (.Call (.Name "super" p0) [] [] p1) (PySem.W.ksEnv qual (defScope st) L f (.ref cda) cc))
      standAt ap.atName
      let (f', first) ← holding [ov] (getMethod ov "__init__" pl)
      callWith pos f' first (backTo pos (starEach [e] (PySem.W.ksEnv qual (defScope st) L f (.ref cda) cc))) []))
    (he : ∀ L, starEach [e] (PySem.W.ksEnv qual (defScope st) L f (.ref cda) cc) = [(false, eval e (PySem.W.ksEnv qual (defScope st) L f (.ref cda) cc))])
    (hi : ∀ L, interactive (PySem.W.ksEnv qual (defScope st) L f (.ref cda) cc) = false)
    (hs1 : ∀ L, swapsWith (.Call (.Attribute (.Call (.Name "super" p0) [] [] p1) "__init__" ap) [e] [] pos) none ep.line (PySem.W.ksEnv qual (defScope st) L f (.ref cda) cc) = pure false)
    (hs2 : ∀ L, swapsWith (.Name par q3) (some (.Attribute (.Name sf q1) fld q2)) q4.line (PySem.W.ksEnv qual (defScope st) L f (.ref cda) cc) = pure false)
    (hd1 : (sf == ("__debug__" : Str)) = false) (hd2 : (par == ("__debug__" : Str)) = false) (hc1 : (sf == ("__classdict__" : Str)) = false) (hc2 : (par == ("__classdict__" : Str)) = false) :
    FnOk P w K mg base CX (k + 1) f (PySem.W.ksFn name qual (defArgs st) (defBody st) (defScope st) dV kV doc pm an (.ref cda) ct cc) [sf, par] (spSup C fld good) := by
  rw [hst] at S ⊢
  exact fn_sup S hcd hp har hne hks hkc hka hkp hk hcell hfree hco hgen hno hE hev he hi hs1 hs2 hd1 hd2 hc1 hc2
end
end Dl
set_option Elab.async false
set_option linter.all false
set_option maxRecDepth 100000
set_option maxHeartbeats 2000000
namespace Dl
open PySem PySem.Spec PyProof.Rows L2
section
variable {X : Cx} {k : Cc} {a b e c : Expr} {es : List Expr} {wa wb w wc' : WE} {pos p p1 p2 pos2 : Pos} {rest : List Stmt}
/-! ### an own error with one field is raised -/
/-- what is known of an error class whose __init__ says super().__init__(f'..') and keeps its argument -/
structure ExcF (K : PySem.W.Frag) (mg : Str → Option Value) (x : Str) (C fI : Addr) : Prop where
  g : mg x = some (.ref C)
  T : OexC K C
  iC : PySem.W.findIn K (.ref C) "__init__" = some (some (.ref fI))
  tI : PySem.W.typeIn K (.ref fI) = some (.type "function")
def goodD (good : V → Prop) (d : D) : Prop := ∀ c Z v, Rp c Z v d → good v
def wRaiseF (x fld : Str) (good : V → Prop) (xd : Exn → Prop) (w : WE) : WS := fun d ρ => w ρ fun y => goodD good y ∧ xd ⟨x, some [(fld, y)]⟩
theorem ds_raiseF {x fld : Str} {C fI : Addr} {good : V → Prop} {n : Nat} {fd : FuncData} {ps : List Str} (T : ExcF X.K X.mg x C fI) (F1 : FnOk X.prog X.w X.K X.mg X.base CX0 n fI fd ps (spSup C fld good)) (hr : Room (n + 1) X.A) (hb : Binds X.K fd ps []) (tk : Takes X (fun cls d _ H => k.xk cls d H)) (h : DE X k e w) (hc : X.calm = true := by rfl) (hg : Gl X x := by rfl) (hs : starEach [e] X.env = (false, eval e X.env) :: starEach [] X.env := by rfl) (hdb : (x == ("__debug__" : Str)) = false := by decide) :
    DS X k (.Raise (some (.Call (.Name x p) [e] [] pos)) none pos2) (wRaiseF x fld good k.xd w) := by
  obtain ⟨t, pe, f⟩ := h
  refine ⟨_, ps_raise hc tk (pmk_oex (ds := []) (dvs := []) T.T T.iC T.tI F1 hr hb .nil pass0 hg T.g (pa_cons pe pa_nil hs) hdb hs rfl), fun r Z H σ ρ d E O L h => ?_⟩
  refine f r Z H σ ρ _ _ O h fun y v Z1 H1 s1 r1 h1 => ?_
  refine ⟨Nat.le_add_left 1 999, fun a ha => ⟨a, v, rfl, h1.1 _ _ _ r1, upd_same, fun dx hd hne => ⟨rfl, dx, [(fld, v)], upd_same, ?_, ?_, ?_⟩⟩⟩
  · rw [upd_ne hne, upd_same]
  · rw [upd_ne hne] at hd
    exact hd
  · rw [upd_ne hne] at hd
    have eH : upd (del (upd (upd (upd H1 a (exo a C none)) dx (exd dx [(fld, v)])) a (exo a C (some dx))) a) dx (.xd [(fld, v)]) = upd H1 dx (.xd [(fld, v)]) := by
      funext b
      by_cases h1 : b = dx
      · rw [h1, upd_same, upd_same]
      · rw [upd_ne h1, upd_ne h1]
        by_cases h2 : b = a
        · rw [h2, del_same, ha]
        · rw [del_ne h2, upd_ne h2, upd_ne h1, upd_ne h2]
    rw [eH]
    have sA := Stp.add (o := .xd [(fld, v)]) s1.bs hd
    exact O.lk _ _ ⟨x, some [(fld, y)]⟩ _ _ ((O.en.trans s1 O.s0).trans sA O.s0) ⟨C, T.g, rfl, dx, _, rfl, upd_same, .cons (r1.mono sA.zz) .nil⟩ h1.2
/-! ### what may raise at once, within a try -/
abbrev WXE := En → (D → Prop) → (Exn → Prop) → Prop
def DXE (X : Cx) (k : Cc) (e : Expr) (w : WXE) : Prop := ∀ W, Takes X W → ∃ t, PE X e t ∧ ∀ (r : Rt) (Z H : Hp) (σ : L2.St) (ρ : En) (Qd : D → Prop) (Ed : Exn → Prop) (Q : VK), Ok (wc X k.s) k.still r Z H σ ρ → w ρ Qd Ed →
  (∀ d v Z' H', Stp k.s Z H Z' H' → Rp (wc X k.s) Z' v d → Qd d → Q v H') → (∀ ex cls od Z' H', Stp k.s Z H Z' H' → ExR (wc X k.s) Z' H' ex cls od → Ed ex → W cls od σ H') → t σ H Q
def wXCall (spec : SpecD) (u : WA) : WXE := fun ρ Q Ed => u ρ fun ds => spec ds Q Ed
theorem dxe_call {f : Str} {fa : Addr} {fd : FuncData} {ps : List Str} {spec : SpecD} {u : WA} {j : Nat}
    (F : FnOk X.prog X.w X.K X.mg X.base (L2.CX X.prog X.w) j fa fd ps (spD X.K X.mg spec)) (hr : Room j X.A) (hm : X.mg f = some (.ref fa)) (hk : PySem.W.keepIn X.K (.ref fa) = true) (hb : Binds X.K fd ps [])
    (ha : DA X k.still (e :: es) u) (hg : Gl X f := by rfl) (hdb : (f == ("__debug__" : Str)) = false := by decide) (he : starEach (e :: es) X.env = (false, eval e X.env) :: starEach es X.env := by rfl) (hpl : (backTo pos (starEach es X.env)).any (·.1) = false := by rfl) :
    DXE X k (.Call (.Name f p) (e :: es) [] pos) (wXCall spec u) := by
  intro W tk
  obtain ⟨t, pa, g⟩ := ha
  refine ⟨_, pe_callS F hr hg hm hk hb (fun σ => passAt tk σ) pa hdb he hpl, fun r Z H σ ρ Qd Ed Q O h q qe => ?_⟩
  refine g r Z H σ ρ _ _ O h fun ds vs Z1 H1 s1 r1 h1 => ?_
  exact ⟨k.s, Z1, ds, Qd, Ed, s1.bs, r1, h1, fun d v Z' H' st rv hd => q d v Z' H' (s1.trans st O.bs.st) rv hd, fun ex cls od Z' H' st er hd => qe ex cls od Z' H' (s1.trans st O.bs.st) er hd⟩
def wXTup2 (wa : WE) (wb : WXE) : WXE := fun ρ Q Ed => wa ρ fun x => wb ρ (fun y => Q (.tup [x, y])) Ed
theorem dxe_tup2 {wb : WXE} {x1 : Nat} (ha : DE X k.still a wa) (hb : DXE X k b wb) (h1 : starEach [a, b] X.env = (false, eval a X.env) :: starEach [b] X.env := by rfl) (h2 : starEach [b] X.env = (false, eval b X.env) :: starEach [] X.env := by rfl) : DXE X k (.Tuple [a, b] x1 pos) (wXTup2 wa wb) := by
  intro W tk
  obtain ⟨t, pa, g⟩ := ha
  obtain ⟨t2, pb, g2⟩ := hb W tk
  refine ⟨_, pe_tup (pa_cons pa (pa_cons pb pa_nil h2) h1), fun r Z H σ ρ Qd Ed Q O h q qe => ?_⟩
  refine g r Z H σ ρ _ _ O h fun x v Z1 H1 s1 r1 h1 => ?_
  refine g2 r Z1 H1 σ ρ _ _ _ (O.stp s1) h1 (fun y u Z2 H2 s2 r2 h2 => ?_) fun ex cls od Z' H' st er hd => qe ex cls od Z' H' (s1.trans st O.bs.st) er hd
  refine ⟨Nat.le_trans (show 2 ≤ 100000 by decide) (by decide), fun p hp => ?_⟩
  exact q _ _ _ _ ((s1.trans s2 O.bs.st).trans (.add s2.bs hp) O.bs.st) (rp_tup (.cons (r1.mono s2.zz) (.cons r2 .nil)) s2.bs hp) h2
def DXB (X : Cx) (k : Cc) (sts : List Stmt) (w : DEnds → (Exn → Prop) → En → Prop) : Prop := ∀ W, Takes X W → ∃ t, PSs X sts t ∧ ∀ (r : Rt) (Z H : Hp) (σ : L2.St) (ρ : En) (d : DEnds) (Ed : Exn → Prop) (E : Ends), Ok (wc X k.s) k.still r Z H σ ρ → Lk (wc X k.s) k.still r d E →
  (∀ ex cls od Z' H', Stp k.s Z H Z' H' → ExR (wc X k.s) Z' H' ex cls od → Ed ex → W cls od σ H') → w d Ed ρ → t E σ H
abbrev WXB := DEnds → (Exn → Prop) → En → Prop
def wXRet (w : WXE) : WXB := fun d Ed ρ => w ρ d.rt Ed
theorem dxb_ret {w : WXE} (h : DXE X k e w) : DXB X k [.Return (some e) pos] (wXRet w) := by
  intro W tk
  obtain ⟨t, p, f⟩ := h W tk
  refine ⟨_, pss_one (ps_ret p), fun r Z H σ ρ d Ed E O L qe h => ?_⟩
  exact f r Z H σ ρ _ _ _ O h (fun x v Z1 H1 s1 r1 h1 => L.rt Z1 H1 v x (O.en.trans s1 O.s0) (O.lb.trans s1.zz) r1 h1) qe
def wXSet (i : Nat) (w : WXE) (v : WS) : WXB := fun d Ed ρ => w ρ (fun x => v d (ρ.set i (.val x))) Ed
theorem dxb_set {i : Nat} {x : Str} {pos' : Pos} {w : WXE} {v : WS} (hN : X.N.Nodup) (h : DXE X k e w) (h2 : DB X k.still rest v) (hi : X.N[i]? = some x := by rfl) (hx : Loc X.env.scope x := by first | exact Or.inl rfl | exact Or.inr rfl) (hs : swapsWith e (some (.Name x pos')) pos.line X.env = pure false := by rfl)
    (hf : X.fn x = true ∨ X.env.scope.names.lookup x = some .local := by first | exact .inl rfl | exact .inr rfl | assumption) : DXB X k (.Assign [.Name x pos'] e pos :: rest) (wXSet i w v) := by
  intro W tk
  obtain ⟨t, p, f⟩ := h W tk
  obtain ⟨t2, p2, f2⟩ := h2
  refine ⟨_, pss_cons (ps_set hN hi hx p hs hf) p2, fun r Z H σ ρ d Ed E O L qe h => ?_⟩
  exact f r Z H σ ρ _ _ _ O h (fun x v Z1 H1 s1 r1 h1 => f2 r Z1 H1 _ _ d E ((O.stp s1).set r1) L h1) qe
def wXDrop (w : WXE) (v : WS) : WXB := fun d Ed ρ => w ρ (fun _ => v d ρ) Ed
theorem dxb_expr {w : WXE} {v : WS} (h : DXE X k e w) (h2 : DB X k.still rest v) (hs : swapsWith e none pos.line X.env = pure false := by rfl) : DXB X k (.Expr e pos :: rest) (wXDrop w v) := by
  intro W tk
  obtain ⟨t, p, f⟩ := h W tk
  obtain ⟨t2, p2, f2⟩ := h2
  refine ⟨_, pss_cons (ps_expr p hs) p2, fun r Z H σ ρ d Ed E O L qe h => ?_⟩
  exact f r Z H σ ρ _ _ _ O h (fun x v Z1 H1 s1 r1 h1 => f2 r Z1 H1 _ _ d E (O.stp s1) L h1) qe
def tXB (c : Wc) (k : Cc) (w : WXB) (W : WX) : TS := fun E σ H => ∃ r Z ρ d Ed, Ok c k.still r Z H σ ρ ∧ Lk c k.still r d E ∧ (∀ ex cls od Z' H', Stp k.s Z H Z' H' → ExR c Z' H' ex cls od → Ed ex → W cls od σ H') ∧ w d Ed ρ
theorem DXB.ps {sts : List Stmt} {w : WXB} {W : WX} (h : DXB X k sts w) (tk : Takes X W) : PSs X sts (tXB (wc X k.s) k w W) := by
  refine ⟨fun pins s σ H E I ⟨r, Z, ρ, d, Ed, O, L, qe, hu⟩ => ?_⟩
  obtain ⟨t, p, f⟩ := h W tk
  exact p.run pins s σ H E I (f r Z H σ ρ d Ed E O L qe hu)
/-- what the name of an except clause holds -/
def Exn.slot (a : Addr) (od : Option Addr) (ex : Exn) : D := match ex.fs, od with
  | some ds, some d => .exc a d ds
  | _, _ => .rf a
theorem Exn.rp {c : Wc} {Z H : Hp} {ex : Exn} {cls : Value} {od : Option Addr} {a : Addr} (h : ExR c Z H ex cls od) : Rp c Z (.ref a) (ex.slot a od) := by
  obtain ⟨C, _, _, h⟩ := h
  obtain ⟨x, fs⟩ := ex
  cases fs with
  | none => exact .rf a
  | some ds =>
    obtain ⟨d, fs, rfl, h1, h2⟩ := h
    exact .exc h1 h2
def wTry (x : Str) (i : Nat) (wb : WXB) (sw : Addr → Option Addr → WS) : WS := fun d ρ => wb d (fun ex => ex.cls = x ∧
  ∀ (a : Addr) (od : Option Addr), (ex.fs.isSome = od.isSome) → sw a od { nx := fun ρ' => d.nx (ρ'.set i .un), rt := d.rt, bk := fun ρ' => d.bk (ρ'.set i .un), ct := fun ρ' => d.ct (ρ'.set i .un) } (ρ.set i (.val (ex.slot a od)))) ρ
theorem Lk.still {c : Wc} {r : Rt} {d : DEnds} {E : Ends} (L : Lk c k r d E) (O : ∀ {Z H σ ρ}, Ok c k.still r Z H σ ρ → Ok c k r Z H σ ρ) : Lk c k.still r d E := ⟨fun Z H σ ρ O1 h => L.nx Z H σ ρ (O O1) h, L.rt, fun Z H σ ρ O1 h => L.bk Z H σ ρ (O O1) h, fun Z H σ ρ O1 h => L.ct Z H σ ρ (O O1) h⟩
theorem Ok.unstill {c : Wc} {k' : Cc} {r : Rt} {Z H Z2 H2 : Hp} {σ σ2 : L2.St} {ρ ρ2 : En} (O : Ok c k r Z H σ ρ) (O2 : Ok c k' r Z2 H2 σ2 ρ2) : Ok c k r Z2 H2 σ2 ρ2 := ⟨O2.en, O2.s0, O2.lb, O2.sl, O2.ow, O2.ds, O.lk⟩
theorem ds_try {i : Nat} {x n : Str} {C : Addr} {wb : WXB} {sw : Addr → Option Addr → WS} {b₀ : Stmt} {body suite : List Stmt} {np pos' tpos : Pos}
    (hN : X.N.Nodup) (hm0 : X.mg x = some (.ref C)) (hex : PySem.W.exmOne X.K (.ref C) (.ref C) = some true)
    (hbd : ∀ (pn : List (Addr × Obj)) (xe : Value → Shared → Prop), DXB (X.tr pn xe) k body wb)
    (hsu : ∀ (a : Addr) (od : Option Addr) (oe : Obj) (pn : List (Addr × Obj)), Zc (.ref C) od oe → (∃ vs, oe.data = .fields vs) → DB (X.suite a ((a, oe) :: pn)) k.still (b₀ :: suite) (sw a od))
    (hs : X.stack = X.env :: X.outer := by rfl) (hf : X.env.frame = some X.env.locals := by rfl) (hi : X.N[i]? = some n := by rfl) (hln : X.env.kindOf n = some .local := by rfl) (hc : Gl X x := by rfl) (hxd : (x == ("__debug__" : Str)) = false := by decide) :
    DS X k (.Try body [.ExceptHandler (some (.Name x np)) (some n) (b₀ :: suite) pos'] [] [] tpos) (wTry x i wb sw) := by
  refine ⟨_, ps_try_as (c := .ref C) (tb := fun W => tXB (wc X k.s) k wb W) (ts := fun a cl d => tSc (wc X k.s) k.still cl C (sw a d)) (Wout := fun _ _ _ _ => False) hs hf hN hi hln ⟨hc, hxd, .inl hm0⟩ takes0 (fun W pn xe tk _ => (hbd pn xe).ps (X := X.tr pn xe) tk) (fun a oe cls d pn hz hv => ?_), fun r Z H σ ρ d E O L h => ?_⟩
  · refine ⟨fun pins s σ H E I ⟨ec, r, Z, ρ, dd, O, L, hu⟩ => ?_⟩
    subst ec
    obtain ⟨t, p, f⟩ := hsu a d oe pn hz hv
    exact p.run pins s σ H E I (f r Z H σ ρ dd E O L hu)
  · refine ⟨r, Z, ρ, d, _, O.still, L.still O.unstill, fun ex cls od Z' H' st er hd => ?_, h⟩
    obtain ⟨e1, hsw⟩ := hd
    have er0 := er
    obtain ⟨C', hC, rfl, hfs⟩ := er
    rw [e1] at hC
    have eC : C' = C := by
      have hC2 : X.mg x = some (.ref C') := hC
      rw [hm0] at hC2
      cases hC2 <;> rfl
    subst eC
    have hsome : ex.fs.isSome = od.isSome := by
      cases q : ex.fs with
      | none =>
        rw [q] at hfs
        rw [show od = none from hfs]
        rfl
      | some ds =>
        rw [q] at hfs
        obtain ⟨d, _, rfl, _⟩ := hfs
        rfl
    have O2 := (O.stp st).still
    refine ⟨true, hex, fun _ a ha => ⟨rfl, r, Z', ρ.set i (.val (ex.slot a od)), _, O2.set (Exn.rp er0), ⟨?_, ?_, ?_, ?_⟩, hsw a od hsome⟩, fun z => by cases z⟩
    · exact fun Z3 H3 σ3 ρ3 O3 h3 => L.nx Z3 H3 _ _ (O.back O3) h3
    · exact L.rt
    · exact fun Z3 H3 σ3 ρ3 O3 h3 => L.bk Z3 H3 _ _ (O.back O3) h3
    · exact fun Z3 H3 σ3 ρ3 O3 h3 => L.ct Z3 H3 _ _ (O.back O3) h3
/-- try: .. except X: .. without a name -/
def wTryO (x : Str) (wb : WXB) (sw : WS) : WS := fun d ρ => wb d (fun ex => ex.cls = x ∧ sw d ρ) ρ
theorem ds_tryO {x : Str} {C : Addr} {wb : WXB} {sw : WS} {b₀ : Stmt} {body suite : List Stmt} {np pos' tpos : Pos}
    (hm0 : X.mg x = some (.ref C)) (hex : PySem.W.exmOne X.K (.ref C) (.ref C) = some true)
    (hbd : ∀ (pn : List (Addr × Obj)) (xe : Value → Shared → Prop), DXB (X.tr pn xe) k body wb)
    (hsu : ∀ (a : Addr) (od : Option Addr) (oe : Obj) (pn : List (Addr × Obj)), Zc (.ref C) od oe → (∃ vs, oe.data = .fields vs) → DB (X.suite a ((a, oe) :: pn)) k.still (b₀ :: suite) sw)
    (hs : X.stack = X.env :: X.outer := by rfl) (hf : X.env.frame = some X.env.locals := by rfl) (hc : Gl X x := by rfl) (hxd : (x == ("__debug__" : Str)) = false := by decide) :
    DS X k (.Try body [.ExceptHandler (some (.Name x np)) none (b₀ :: suite) pos'] [] [] tpos) (wTryO x wb sw) := by
  refine ⟨_, ps_try_only (c := .ref C) (tb := fun W => tXB (wc X k.s) k wb W) (ts := fun a cl d => tSc (wc X k.s) k.still cl C sw) (Wout := fun _ _ _ _ => False) hs hf ⟨hc, hxd, .inl hm0⟩ takes0 (fun W pn xe tk _ => (hbd pn xe).ps (X := X.tr pn xe) tk) (fun a oe cls d pn hz hv => ?_), fun r Z H σ ρ d E O L h => ?_⟩
  · refine ⟨fun pins s σ H E I ⟨ec, r, Z, ρ, dd, O, L, hu⟩ => ?_⟩
    subst ec
    obtain ⟨t, p, f⟩ := hsu a d oe pn hz hv
    exact p.run pins s σ H E I (f r Z H σ ρ dd E O L hu)
  · refine ⟨r, Z, ρ, d, _, O.still, L.still O.unstill, fun ex cls od Z' H' st er hd => ?_, h⟩
    obtain ⟨e1, hsw⟩ := hd
    obtain ⟨C', hC, rfl, hfs⟩ := er
    rw [e1] at hC
    have eC : C' = C := by
      have hC2 : X.mg x = some (.ref C') := hC
      rw [hm0] at hC2
      cases hC2 <;> rfl
    subst eC
    exact ⟨true, hex, fun _ a ha => ⟨rfl, r, Z', ρ, _, (O.stp st).still, L.still (O.stp st).unstill, hsw⟩, fun z => by cases z⟩
/-- e.fld in an except suite -/
def wXf (i : Nat) (a : Addr) (od : Option Addr) (fld : Str) : WE := fun ρ Q => Sl.V ρ[i]? fun d => ∃ dd ds v, od = some dd ∧ d = .exc a dd ds ∧ ds.lookup fld = some v ∧ Q v
theorem de_xf {i : Nat} {a C : Addr} {od : Option Addr} {oe : Obj} {pn : List (Addr × Obj)} {n fld : Str} {np : Pos} (T : XfC X.K C) (hno : PySem.W.findIn X.K (.ref C) fld = some none) (hz : Zc (.ref C) od oe) (hf : ∃ vs, oe.data = .fields vs)
    (hi : X.N[i]? = some n := by rfl) (hvis : Vis X.env.scope n := by first | exact Or.inl rfl | exact Or.inr (Or.inl rfl) | exact Or.inr (Or.inr rfl)) (hd : (n == ("__debug__" : Str)) = false := by decide) (hcd : (n == ("__classdict__" : Str)) = false := by decide)
    (hb : attributeBase (.Name n np) fld X.env (eval (.Name n np) X.env) = eval (.Name n np) X.env := by rfl) :
    DE (X.suite a ((a, oe) :: pn)) k (.Attribute (.Name n np) fld pos) (wXf i a od fld) := by
  refine ⟨_, pe_xf T hno hz hf (pe_var (X := X.suite a ((a, oe) :: pn)) hi hvis hd hcd) hb, fun r Z H σ ρ Qd Q O h q => ?_⟩
  obtain ⟨d, e1, dd, ds, v, rfl, rfl, e4, h5⟩ := Sl.V_ex h
  obtain ⟨o, h4, v', rfl, rv⟩ := O.sl i _ e1
  cases rv with
  | exc hZ hr =>
    obtain ⟨w, hw, rw'⟩ := rpf_lookup hr e4
    exact ⟨_, h4, rfl, rfl, dd, _, w, rfl, O.bs.zh _ _ hZ, hw, q _ _ Z H (.refl O.bs) rw' h5⟩
/-- isinstance(e, c) of an error with a dict, or without -/
def rIsF (K : PySem.W.Frag) (D a : Addr) (od : Option Addr) : List V → Hp → VK → Prop := fun xs H Q => (∀ dd, od = some dd → ∃ fs, H dd = some (.xd fs)) ∧ ∃ (c : V) (cv : Value) (b : Bool), xs = [.ref a, c] ∧ (∀ u, RelV c u → u = cv) ∧ PySem.W.kitOne K (.ref D) cv = some b ∧ Q (.bl b) H
theorem call_isF {D : Addr} {a : Addr} {od : Option Addr} {oe : Obj} {pn : List (Addr × Obj)} (T : ExcC X.K D) (hz : Zc (.ref D) od oe) (hf : ∃ vs, oe.data = .fields vs) : CallR (X.suite a ((a, oe) :: pn)) (.builtin "isinstance") (rIsF X.K D a od) := by
  intro pins s σ H xs us Q I r h
  obtain ⟨hdd, c, cv, b, rfl, hcv, e, q⟩ := h
  cases r with
  | cons rx rr =>
    cases rr with
    | cons rt rr =>
      cases rr
      cases rx
      have ec := hcv _ rt
      subst ec
      have hget := (I.pin (a, oe) (List.mem_append.mpr (.inl List.mem_cons_self))).1
      obtain ⟨vs, hv⟩ := hf
      obtain ⟨cd, hcd, _⟩ := PySem.W.any_some T.hd
      have J : ∃ ox, PySem.W.InstAt s.heap a oe D ox := by
        obtain ⟨oc, od', oda, osl⟩ := oe
        obtain ⟨h1, h2⟩ := hz
        dsimp only at h1 h2 hv
        subst h1 h2 hv
        cases od' with
        | none => exact ⟨none, hget, rfl, rfl, trivial⟩
        | some dd =>
          obtain ⟨fs, hx⟩ := hdd dd rfl
          obtain ⟨mA, ⟨o, _, _, ho, _⟩, _⟩ := I.hok dd _ hx
          exact ⟨some o, hget, rfl, rfl, ho⟩
      obtain ⟨ox, J⟩ := J
      exact PySem.W.kia_one (PySem.W.kitx_exc (by rw [hcd]; rfl) T.hg T.hk T.hs T.ha T.hn T.ht T.hm) I.kIn J e (fun z => nomatch z) fun tk => ⟨.bl b, H, I.kept (t' := tk) fun _ _ z => z, rfl, q⟩
def wIsF (i : Nat) (a : Addr) (od : Option Addr) : WE := fun ρ Q => Sl.V ρ[i]? fun d => ((od = none ∧ d = .rf a) ∨ ∃ dd ds, od = some dd ∧ d = .exc a dd ds) ∧ Q (.bl true)
theorem de_isF {i : Nat} {a D : Addr} {od : Option Addr} {oe : Obj} {pn : List (Addr × Obj)} {n : Str} {ce : Expr} {np : Pos} {v : V} {cv : Value} (T : ExcC X.K D) (hz : Zc (.ref D) od oe) (hf : ∃ vs, oe.data = .fields vs) (hk : PySem.W.kitOne X.K (.ref D) cv = some true)
    (hv : ∀ u, RelV v u → u = cv) (hce : PE (X.suite a ((a, oe) :: pn)) ce (tC v)) (hm : X.mg "isinstance" = none) (hi : X.N[i]? = some n := by rfl) (hvis : Vis X.env.scope n := by first | exact Or.inl rfl | exact Or.inr (Or.inl rfl) | exact Or.inr (Or.inr rfl)) (hd : (n == ("__debug__" : Str)) = false := by decide)
    (hcd : (n == ("__classdict__" : Str)) = false := by decide) (hg : Gl X "isinstance" := by rfl)
    (h1 : starEach [.Name n np, ce] (X.suite a ((a, oe) :: pn)).env = (false, eval (.Name n np) (X.suite a ((a, oe) :: pn)).env) :: starEach [ce] (X.suite a ((a, oe) :: pn)).env := by rfl)
    (h2 : starEach [ce] (X.suite a ((a, oe) :: pn)).env = (false, eval ce (X.suite a ((a, oe) :: pn)).env) :: starEach [] (X.suite a ((a, oe) :: pn)).env := by rfl)
    (h3 : (backTo pos (starEach [ce] (X.suite a ((a, oe) :: pn)).env)).any (·.1) = false := by rfl) :
    DE (X.suite a ((a, oe) :: pn)) k (.Call (.Name "isinstance" p) [.Name n np, ce] [] pos) (wIsF i a od) := by
  refine ⟨_, pe_callB (X := X.suite a ((a, oe) :: pn)) (call_isF T hz hf) hg hm PyProof.Rows.boot_isinstance (pa_cons (pe_var (X := X.suite a ((a, oe) :: pn)) hi hvis hd hcd) (pa_cons hce pa_nil h2) h1) (by decide) (by decide) h1 h3, fun r Z H σ ρ Qd Q O h q => ?_⟩
  obtain ⟨d, e1, e2, e3⟩ := Sl.V_ex h
  obtain ⟨o, h4, v', rfl, h5⟩ := O.sl i _ e1
  rcases e2 with ⟨rfl, rfl⟩ | ⟨dd, ds, rfl, rfl⟩
  · cases h5
    exact ⟨_, h4, fun _ z => (nomatch z), v, cv, true, rfl, hv, hk, q _ _ Z H (.refl O.bs) (.bl true) e3⟩
  · cases h5 with
    | exc hZ hr =>
      exact ⟨_, h4, fun _ z => by cases z; exact ⟨_, O.bs.zh _ _ hZ⟩, v, cv, true, rfl, hv, hk, q _ _ Z H (.refl O.bs) (.bl true) e3⟩
end
end Dl
set_option Elab.async false
set_option linter.all false
set_option maxRecDepth 100000
set_option maxHeartbeats 2000000
namespace Dl
open PySem PySem.Spec PyProof.Rows L2
section
variable {X : Cx} {k : Cc} {a b e c : Expr} {es : List Expr} {wa wb w wc' : WE} {pos p p1 p2 pos2 : Pos} {rest : List Stmt}
/-! ### an instance of an own class is made -/
/-- the promise of an __init__ that keeps its arguments under the names fs -/
def spInit (C : Addr) (fs : List Str) : Sp := fun vs H Q _ => ∃ x dx ws, vs = .ref x :: ws ∧ ws.length = fs.length ∧ H x = some (.ins C dx []) ∧ H dx = some (.own x) ∧ dx ≠ x ∧ Q .non (upd H x (.ins C dx (fs.zip ws)))
theorem lt_put {f : Str} {v : V} : ∀ {fs : List (Str × V)} {m : Nat}, fs.length < m → (putF f v fs).length < m + 1
  | [], m, h => Nat.succ_lt_succ h
  | (g, x) :: r, m, h => by
    unfold putF
    split
    · exact Nat.lt_succ_of_lt h
    · cases m with
      | zero => cases h
      | succ m => exact Nat.succ_lt_succ (lt_put (Nat.lt_of_succ_lt_succ h))
theorem rpf_zip {c : Wc} {Z : Hp} : ∀ {fs : List Str} {vs : List V} {ds : List D}, RpA c Z vs ds → RpF c Z (fs.zip vs) (fs.zip ds)
  | [], _, _, _ => by simp only [List.zip_nil_left]; exact .nil
  | _ :: _, _, _, .nil => by simp only [List.zip_nil_right]; exact .nil
  | _ :: _, _, _, .cons h r => by simp only [List.zip_cons_cons]; exact .cons h (rpf_zip r)
def wMake (n : Str) (fs : List Str) (u : WA) : WE := fun ρ Q => u ρ fun ds => ds.length = fs.length ∧ Q (.ins n (fs.zip ds))
theorem de_make {x : Str} {C f : Addr} {n : Nat} {fd : FuncData} {ps fs : List Str} {u : WA} (M : Mk X.K C f) (F : FnOk X.prog X.w X.K X.mg X.base CX0 n f fd ps (spInit C fs)) (hr : Room (n + 1) X.A) (hm : X.mg x = some (.ref C)) (hb : Binds X.K fd ps []) (ha : DA X k (e :: es) u)
    (hg : Gl X x := by rfl) (hdb : (x == ("__debug__" : Str)) = false := by decide) (he : starEach (e :: es) X.env = (false, eval e X.env) :: starEach es X.env := by rfl) (hpl : (backTo pos (starEach es X.env)).any (·.1) = false := by rfl) :
    DE X k (.Call (.Name x p) (e :: es) [] pos) (wMake x fs u) := by
  obtain ⟨t, pa, g⟩ := ha
  refine ⟨_, pe_make (ds := []) (dvs := []) (E := fun _ _ _ => False) M F hr hg hm hb .nil pass0 pa hdb he hpl, fun r Z H σ ρ Qd Q O h q => ?_⟩
  refine g r Z H σ ρ _ _ O h fun ds vs Z1 H1 s1 r1 h1 => ?_
  intro y dx hy hdx hne
  rw [List.append_nil]
  refine ⟨y, dx, vs, rfl, by rw [r1.length]; exact h1.1, upd_same, by rw [upd_ne hne, upd_same], hne, rfl, ?_⟩
  rw [upd_upd]
  have s2 := s1.trans (.own (o := .own y) s1.bs hdx) O.bs.st
  have hy2 : upd H1 dx (.own y) y = none := by
    rw [upd_ne hne.symm]
    exact hy
  have s3 := Stp.add (o := .ins C dx (fs.zip vs)) s2.bs hy2
  exact q _ _ _ _ (s2.trans s3 O.bs.st) (.ins hm upd_same ((rpf_zip r1).mono s3.zz)) h1.2
/-! ### tuple(x), list(x) -/
def rdCtuple : RAD := fun ds Q => match ds with
  | [.lst xs] => Q (.tup xs)
  | [.tup xs] => Q (.tup xs)
  | _ => False
theorem rpa_one {c : Wc} {Z : Hp} {vs : List V} {d : D} (h : RpA c Z vs [d]) : ∃ v, vs = [v] ∧ Rp c Z v d := by
  cases h with
  | cons h r =>
    cases r
    exact ⟨_, rfl, h⟩
theorem de_Ctuple {u : WA} (hm : X.mg "tuple" = none) (ha : DA X k [e] u) (hg : Gl X "tuple" := by rfl) (he : starEach [e] X.env = (false, eval e X.env) :: starEach [] X.env := by rfl) : DE X k (.Call (.Name "tuple" p) [e] [] pos) (wCB rdCtuple u) := by
  refine de_ty call_tuple_of (fun Z H xs ds Qd Q B ra h q => ?_) hm PyProof.Rows.boot_tuple ha hg (by decide) (by decide) he rfl
  match ds, h with
  | [.lst ys], h =>
    obtain ⟨v, rfl, rv⟩ := rpa_one ra
    cases rv with
    | lst hs hr => exact ⟨_, _, rfl, .inl ⟨.inl (.inl (B.zh _ _ hs)), fun l hl => q _ _ _ _ (.add B hl) (rp_tup hr B hl) h⟩⟩
  | [.tup ys], h =>
    obtain ⟨v, rfl, rv⟩ := rpa_one ra
    cases rv with
    | tup hs hr => exact ⟨_, _, rfl, .inr ⟨same_t B.zh hs, q _ _ Z H (.refl B) (.tup hs hr) h⟩⟩
def rdClist : RAD := fun ds Q => match ds with
  | [.lst xs] => Q (.lst xs)
  | [.tup xs] => Q (.lst xs)
  | _ => False
theorem de_Clist {u : WA} (hm : X.mg "list" = none) (ha : DA X k [e] u) (hg : Gl X "list" := by rfl) (he : starEach [e] X.env = (false, eval e X.env) :: starEach [] X.env := by rfl) : DE X k (.Call (.Name "list" p) [e] [] pos) (wCB rdClist u) := by
  refine de_ty call_list_of (fun Z H xs ds Qd Q B ra h q => ?_) hm PyProof.Rows.boot_list ha hg (by decide) (by decide) he rfl
  match ds, h with
  | [.lst ys], h =>
    obtain ⟨v, rfl, rv⟩ := rpa_one ra
    cases rv with
    | lst hs hr => exact ⟨_, _, rfl, .inl (.inl (.inl (B.zh _ _ hs))), fun l hl => q _ _ _ _ (.add B hl) (rp_lst hr B hl) h⟩
  | [.tup ys], h =>
    obtain ⟨v, rfl, rv⟩ := rpa_one ra
    cases rv with
    | tup hs hr => exact ⟨_, _, rfl, .inr (same_t B.zh hs), fun l hl => q _ _ _ _ (.add B hl) (rp_lst hr B hl) h⟩
/-- str(i) -/
def rdCstr : RAD := fun ds Q => match ds with
  | [.int i] => i.natAbs.log2 < 1920 ∧ Q (.str (toString i))
  | _ => False
theorem de_Cstr {u : WA} (hm : X.mg "str" = none) (ha : DA X k [e] u) (hg : Gl X "str" := by rfl) (he : starEach [e] X.env = (false, eval e X.env) :: starEach [] X.env := by rfl) : DE X k (.Call (.Name "str" p) [e] [] pos) (wCB rdCstr u) := by
  refine de_ty call_str_int (fun Z H xs ds Qd Q B ra h q => ?_) hm PyProof.Rows.boot_str ha hg (by decide) (by decide) he rfl
  match ds, h with
  | [.int i], h =>
    obtain ⟨v, rfl, rv⟩ := rpa_one ra
    cases rv
    exact ⟨i, rfl, h.1, q _ _ Z H (.refl B) (.str _) h.2⟩
theorem pv0 {i : Nat} {x : Str} (hN : X.N[i]? = some x := by rfl) (hv : Vis X.env.scope x := by first | exact Or.inl rfl | exact Or.inr (Or.inl rfl) | exact Or.inr (Or.inr rfl)) (hd : (x == ("__debug__" : Str)) = false := by decide) (hcd : (x == ("__classdict__" : Str)) = false := by decide) : PE X (.Name x pos) (tVar i) := pe_var hN hv hd hcd
end
end Dl
set_option Elab.async false
set_option linter.all false
set_option maxRecDepth 100000
set_option maxHeartbeats 2000000
namespace Dl
open PySem PySem.Spec PyProof.Rows L2
/-! ### dicts with keys that are texts or ints -/
def D.key : D → Option Key
  | .str s => some (.inr s)
  | .int i => some (.inl i)
  | _ => none
def getT (kvs : List (Key × D)) (k : Key) : Option D := (kvs.find? fun kv => decide (kv.1 = k)).map (·.2)
def putT (kvs : List (Key × D)) (k : Key) (v : D) : List (Key × D) :=
  if (kvs.any fun p => decide (p.1 = k)) = true
  then kvs.map fun p => if p.1 = k then (p.1, v) else p
  else kvs ++ [(k, v)]
section
variable {c : Wc} {Z : Hp}
theorem key_v {d : D} {key : Key} {v : V} (h : Rp c Z v d) (e : d.key = some key) : v = kV key := by
  cases h <;> simp only [D.key, Option.some.injEq] at e <;> first | (subst e; rfl) | cases e
theorem rpk_get {k : Key} : ∀ {xs : List (Key × V)} {ds : List (Key × D)}, RpK c Z xs ds → (getT ds k = none ∧ valV xs k = none) ∨ ∃ d v, getT ds k = some d ∧ valV xs k = some v ∧ Rp c Z v d
  | _, _, .nil => .inl ⟨rfl, rfl⟩
  | _, _, .cons (k := j) (v := v) (d := d) h r => by
    unfold getT valV
    by_cases e : j = k
    · right
      refine ⟨d, v, ?_, ?_, h⟩ <;> rw [List.find?_cons_of_pos (by simpa using e)] <;> rfl
    · rw [List.find?_cons_of_neg (by simpa using e), List.find?_cons_of_neg (by simpa using e)]
      exact rpk_get r
theorem rpk_any {k : Key} : ∀ {xs : List (Key × V)} {ds : List (Key × D)}, RpK c Z xs ds → (xs.any fun kv => decide (kv.1 = k)) = (ds.any fun kv => decide (kv.1 = k))
  | _, _, .nil => rfl
  | _, _, .cons h r => by rw [List.any_cons, List.any_cons, rpk_any r]
theorem rpk_map {k : Key} {v : V} {d : D} (hv : Rp c Z v d) : ∀ {xs : List (Key × V)} {ds : List (Key × D)}, RpK c Z xs ds → RpK c Z (xs.map fun kv => if kv.1 = k then (kv.1, v) else kv) (ds.map fun kv => if kv.1 = k then (kv.1, d) else kv)
  | _, _, .nil => .nil
  | _, _, .cons (k := j) h r => by
    rw [List.map_cons, List.map_cons]
    by_cases e : j = k
    · rw [if_pos e, if_pos e]
      exact .cons hv (rpk_map hv r)
    · rw [if_neg e, if_neg e]
      exact .cons h (rpk_map hv r)
theorem rpk_app {k : Key} {v : V} {d : D} (hv : Rp c Z v d) : ∀ {xs : List (Key × V)} {ds : List (Key × D)}, RpK c Z xs ds → RpK c Z (xs ++ [(k, v)]) (ds ++ [(k, d)])
  | _, _, .nil => .cons hv .nil
  | _, _, .cons h r => .cons h (rpk_app hv r)
theorem rpk_put {k : Key} {v : V} {d : D} {xs : List (Key × V)} {ds : List (Key × D)} (h : RpK c Z xs ds) (hv : Rp c Z v d) : RpK c Z (putK xs k v) (putT ds k d) := by
  unfold putK putT
  rw [rpk_any h]
  split
  · exact rpk_map hv h
  · exact rpk_app hv h
theorem rpk_len : ∀ {xs : List (Key × V)} {ds : List (Key × D)}, RpK c Z xs ds → xs.length = ds.length
  | _, _, .nil => rfl
  | _, _, .cons _ r => by rw [List.length_cons, List.length_cons, rpk_len r]
end
section
variable {X : Cx} {k : Cc} {a b e c : Expr} {es : List Expr} {wa wb w wc' : WE} {pos p p1 p2 pos2 : Pos} {rest : List Stmt}
/-- x[i] = v, x a dict of the def's own -/
def wDPut (i : Nat) (wi w : WE) : WS := fun d ρ => Sl.OD ρ[i]? fun kvs => w ρ fun v => wi ρ fun kd => ∃ key, kd.key = some key ∧ kvs.length ≤ 100000 ∧ d.nx (ρ.set i (.od (putT kvs key v)))
theorem ds_dput {i : Nat} {x : Str} {npos pos' : Pos} (hu : X.A.units + 1 < cLine) (h : DE X k e w) (hk : DE X k a wa) (hi : X.N[i]? = some x := by rfl) (hv : Vis X.env.scope x := by first | exact Or.inl rfl | exact Or.inr (Or.inl rfl) | exact Or.inr (Or.inr rfl)) (hd : (x == ("__debug__" : Str)) = false := by decide) (hcd : (x == ("__classdict__" : Str)) = false := by decide)
    (hs : swapsWith e (some (.Subscript (.Name x npos) a pos')) pos.line X.env = pure false := by rfl) : DS X k (.Assign [.Subscript (.Name x npos) a pos'] e pos) (wDPut i wa w) := by
  obtain ⟨t, pe, f⟩ := h
  obtain ⟨t2, pk, f2⟩ := hk
  refine ⟨_, ps_dput hu (pe_var hi hv hd hcd) pk pe hs, fun r Z H σ ρ d E O L h => ?_⟩
  obtain ⟨ds, e1, h⟩ := Sl.OD_ex h
  obtain ⟨o, h2, a', vs, rfl, h3, h4⟩ := O.sl i _ e1
  obtain ⟨z1, z2, z3⟩ := O.ow i _ a' e1 rfl h2
  refine f r Z H σ ρ _ _ O h fun y v Z1 H1 s1 r1 h1 => ?_
  refine ⟨_, h2, f2 r Z1 H1 σ ρ _ _ (O.stp s1) h1 fun kd u Z2 H2 s2 r2 h2' => ?_⟩
  obtain ⟨key, ek, hl, hn⟩ := h2'
  have s12 := s1.trans s2 O.bs.st
  have h5 := s12.hh a' _ h3 z3
  refine ⟨a', _, rfl, .inl ⟨vs, key, h5, key_v r2 ek, ?_, rfl⟩, L.nx Z2 _ σ _ ((O.stp s12).chg e1 rfl h2 (t' := .od (putT ds key y)) rfl ⟨a', _, rfl, upd_same, rpk_put (h4.mono s12.zz) (r1.mono s2.zz)⟩) hn⟩
  rw [rpk_len h4]
  exact Nat.lt_of_le_of_lt hl (by decide)
/-- d[i], i in d, d.get(i), d.get(i, z): d a tree -/
def rdDGet : R2D := fun d kd Q => d.K fun kvs => ∃ key v, kd.key = some key ∧ getT kvs key = some v ∧ Q v
theorem rp_dic {c : Wc} {Z : Hp} {v : V} {kvs : List (Key × D)} (h : Rp c Z v (.dic kvs)) : ∃ a xs, v = .ref a ∧ Rd Z a (.dK xs) ∧ RpK c Z xs kvs := by
  cases h with
  | dic h r => exact ⟨_, _, rfl, h, r⟩
theorem de_dget (hu : X.A.units + 1 < cLine) (ha : DE X k a wa) (hb : DE X k b wb) (hs : NoSl b := by intro _ _; rfl) : DE X k (.Subscript a b pos) (wOp rdDGet wa wb) := by
  obtain ⟨t, pa, f⟩ := ha
  obtain ⟨t2, pb, f2⟩ := hb
  refine ⟨_, pe_dget hu pa pb hs, fun r Z H σ ρ Qd Q O h q => ?_⟩
  refine f r Z H σ ρ _ _ O h fun x v Z1 H1 s1 r1 h1 => ?_
  refine f2 r Z1 H1 σ ρ _ _ (O.stp s1) h1 fun y u Z2 H2 s2 r2 h2 => ?_
  obtain ⟨kvs, rfl, key, dv, ek, eg, hq⟩ := D.K_ex h2
  obtain ⟨a', xs, rfl, hd, hr⟩ := rp_dic (r1.mono s2.zz)
  rcases rpk_get (k := key) hr with ⟨z, _⟩ | ⟨dv', v', e1, e2, e3⟩
  · rw [eg] at z
    cases z
  · rw [eg] at e1
    cases e1
    exact ⟨a', v', rfl, .inl ⟨xs, key, rd_mono s2.bs.zh hd, key_v r2 ek, e2.symm⟩, q dv v' Z2 H2 (s1.trans s2 O.bs.st) e3 hq⟩
def rdDIn : R2D := fun kd d Q => d.K fun kvs => ∃ key, kd.key = some key ∧ Q (.bl (getT kvs key).isSome)
theorem din_core {t t2 : TE} (pa : PE X a t) (pb : PE X b t2) (f : ∀ (r : Rt) (Z H : Hp) (σ : L2.St) (ρ : En) (Qd : D → Prop) (Q : VK), Ok (wc X k.s) k r Z H σ ρ → wa ρ Qd → (∀ d v Z' H', Stp k.s Z H Z' H' → Rp (wc X k.s) Z' v d → Qd d → Q v H') → t σ H Q)
    (f2 : ∀ (r : Rt) (Z H : Hp) (σ : L2.St) (ρ : En) (Qd : D → Prop) (Q : VK), Ok (wc X k.s) k r Z H σ ρ → wb ρ Qd → (∀ d v Z' H', Stp k.s Z H Z' H' → Rp (wc X k.s) Z' v d → Qd d → Q v H') → t2 σ H Q)
    {r : Rt} {Z H : Hp} {σ : L2.St} {ρ : En} {Qd : D → Prop} {Q : VK} (O : Ok (wc X k.s) k r Z H σ ρ) (h : wOp rdDIn wa wb ρ Qd) (q : ∀ d v Z' H', Stp k.s Z H Z' H' → Rp (wc X k.s) Z' v d → Qd d → Q v H') : tDIn t t2 σ H Q := by
  refine f r Z H σ ρ _ _ O h fun x v Z1 H1 s1 r1 h1 => ?_
  refine f2 r Z1 H1 σ ρ _ _ (O.stp s1) h1 fun y u Z2 H2 s2 r2 h2 => ?_
  obtain ⟨kvs, rfl, key, ek, hq⟩ := D.K_ex h2
  obtain ⟨a', xs, rfl, hd, hr⟩ := rp_dic r2
  refine ⟨a', valV xs key, rfl, .inl ⟨xs, key, rd_mono s2.bs.zh hd, key_v (r1.mono s2.zz) ek, rfl⟩, ?_⟩
  rcases rpk_get (k := key) hr with ⟨z, z2⟩ | ⟨dv', v', e1, e2, e3⟩
  · rw [z] at hq
    rw [z2]
    exact q _ _ Z2 H2 (s1.trans s2 O.bs.st) (.bl _) hq
  · rw [e1] at hq
    rw [e2]
    exact q _ _ Z2 H2 (s1.trans s2 O.bs.st) (.bl _) hq
theorem de_din (hu : X.A.units + 1 < cLine) (ha : DE X k a wa) (hb : DE X k b wb) (hm : behindInMarks .In b = false := by rfl) : DE X k (.Compare a [.In] [b] pos) (wOp rdDIn wa wb) := by
  obtain ⟨t, pa, f⟩ := ha
  obtain ⟨t2, pb, f2⟩ := hb
  exact ⟨_, pe_cmp (pc_din hu pa pb) hm, fun r Z H σ ρ Qd Q O h q => din_core pa pb f f2 O h q⟩
theorem dt_din (hu : X.A.units + 1 < cLine) (ha : DE X k a wa) (hb : DE X k b wb) (hm : behindInMarks .In b = false := by rfl) : DT X k (.Compare a [.In] [b] pos) (wB (wOp rdDIn wa wb)) := by
  obtain ⟨t, pa, f⟩ := ha
  obtain ⟨t2, pb, f2⟩ := hb
  refine ⟨_, pt_cmp (pc_din hu pa pb) hm, fun r Z H σ ρ Qd Q O h q => ?_⟩
  refine din_core (Qd := fun d => d.B Qd) pa pb f f2 O h fun d v Z' H' s rv hd => ?_
  obtain ⟨i, rfl, hd⟩ := D.B_ex hd
  cases rv
  exact ⟨i, rfl, q i Z' H' s hd⟩
def wDGet2 (wd wk wz : WE) : WE := fun ρ Q => wd ρ fun d => d.K fun kvs => wk ρ fun kd => wz ρ fun z => ∃ key, kd.key = some key ∧ Q ((getT kvs key).getD z)
theorem de_get2 {o e f : Expr} {apos : Pos} {wd wk wz : WE} (hu : X.A.units + 1 < cLine) (m : M2 X o "get" apos e f pos) (hd : DE X k o wd) (hk : DE X k e wk) (hz : DE X k f wz) : DE X k (.Call (.Attribute o "get" apos) [e, f] [] pos) (wDGet2 wd wk wz) := by
  obtain ⟨t, pa, f1⟩ := hd
  obtain ⟨t2, pb, f2⟩ := hk
  obtain ⟨t3, pc, f3⟩ := hz
  refine ⟨_, pe_dget2 hu pa pb pc m, fun r Z H σ ρ Qd Q O h q => ?_⟩
  refine f1 r Z H σ ρ _ _ O h fun x v Z1 H1 s1 r1 h1 => ?_
  obtain ⟨kvs, rfl, h1⟩ := D.K_ex h1
  obtain ⟨a', xs, rfl, hd, hr⟩ := rp_dic r1
  refine ⟨a', rfl, .inl ⟨xs, rd_mono s1.bs.zh hd⟩, f2 r Z1 H1 σ ρ _ _ (O.stp s1) h1 fun y u Z2 H2 s2 r2 h2 => ?_⟩
  have s12 := s1.trans s2 O.bs.st
  refine f3 r Z2 H2 σ ρ _ _ (O.stp s12) h2 fun z w Z3 H3 s3 r3 h3 => ?_
  obtain ⟨key, ek, hq⟩ := h3
  have s13 := s12.trans s3 O.bs.st
  have hr3 := hr.mono (s2.trans s3 s1.bs.st).zz
  refine ⟨valV xs key, .inl ⟨xs, key, rd_mono s3.bs.zh (rd_mono (s2.trans s3 s1.bs.st).zz hd), key_v r2 ek, rfl⟩, ?_⟩
  rcases rpk_get (k := key) hr3 with ⟨z1, z2⟩ | ⟨dv', v', e1, e2, e3⟩
  · rw [z1] at hq
    rw [z2]
    exact q _ _ Z3 H3 s13 r3 hq
  · rw [e1] at hq
    rw [e2]
    exact q _ _ Z3 H3 s13 e3 hq
def wDGet1 (wd wk : WE) : WE := fun ρ Q => wd ρ fun d => d.K fun kvs => wk ρ fun kd => ∃ key, kd.key = some key ∧ Q ((getT kvs key).getD .non)
theorem de_get1 {o e : Expr} {apos : Pos} {wd wk : WE} (hu : X.A.units + 1 < cLine) (m : M1 X o "get" apos e pos) (hd : DE X k o wd) (hk : DE X k e wk) : DE X k (.Call (.Attribute o "get" apos) [e] [] pos) (wDGet1 wd wk) := by
  obtain ⟨t, pa, f1⟩ := hd
  obtain ⟨t2, pb, f2⟩ := hk
  refine ⟨_, pe_dget1 hu pa pb m, fun r Z H σ ρ Qd Q O h q => ?_⟩
  refine f1 r Z H σ ρ _ _ O h fun x v Z1 H1 s1 r1 h1 => ?_
  obtain ⟨kvs, rfl, h1⟩ := D.K_ex h1
  obtain ⟨a', xs, rfl, hd, hr⟩ := rp_dic r1
  refine ⟨a', rfl, .inl ⟨xs, rd_mono s1.bs.zh hd⟩, f2 r Z1 H1 σ ρ _ _ (O.stp s1) h1 fun y u Z2 H2 s2 r2 h2 => ?_⟩
  obtain ⟨key, ek, hq⟩ := h2
  have s12 := s1.trans s2 O.bs.st
  refine ⟨valV xs key, .inl ⟨xs, key, rd_mono s2.bs.zh (rd_mono s2.zz hd), key_v r2 ek, rfl⟩, ?_⟩
  rcases rpk_get (k := key) (hr.mono s2.zz) with ⟨z1, z2⟩ | ⟨dv', v', e1, e2, e3⟩
  · rw [z1] at hq
    rw [z2]
    exact q _ _ Z2 H2 s12 .non hq
  · rw [e1] at hq
    rw [e2]
    exact q _ _ Z2 H2 s12 e3 hq
/-- s.find(t, i) -/
def wFind (w u v : WE) : WE := fun ρ Q => w ρ fun d => d.S fun z => u ρ fun y => y.S fun t => v ρ fun j => j.I fun i => Q (.int (Txt.find3 z t i))
theorem de_find {o e f : Expr} {apos : Pos} {u v : WE} (h : DE X k o w) (h2 : DE X k e u) (h3 : DE X k f v) (hbase : attributeBase o "find" X.env (eval o X.env) = eval o X.env := by rfl) (hline : (apos.endLine == pos.line) = true := by rfl)
    (s1 : starEach [e, f] X.env = (false, eval e X.env) :: starEach [f] X.env := by rfl) (s2 : starEach [f] X.env = (false, eval f X.env) :: starEach [] X.env := by rfl)
    (pb : ∀ {to : TE} {ta : TA} {r : V → List V → Hp → VK → Prop}, MtR X "str.find" r → PE X o to → PA X [e, f] ta → PE X (.Call (.Attribute o "find" apos) [e, f] [] pos) (tBM X.K "str" r to ta) := by intro _ _ _ m h1 h2; exact pe_bm PySem.F.plainAttrs_str PySem.F.slot_str_find PySem.F.type_str_find m h1 h2) :
    DE X k (.Call (.Attribute o "find" apos) [e, f] [] pos) (wFind w u v) := by
  obtain ⟨t, pa, f1⟩ := h
  obtain ⟨t2, pb2, f2⟩ := h2
  obtain ⟨t3, pc, f3⟩ := h3
  refine ⟨_, pb mt_find3 pa (pa_cons pb2 (pa_cons pc pa_nil s2) s1), fun r Z H σ ρ Qd Q O h q => ?_⟩
  refine f1 r Z H σ ρ _ _ O h fun x v Z1 H1 s1 r1 h1 => ?_
  obtain ⟨z, rfl, h1⟩ := D.S_ex h1
  cases r1
  refine ⟨rfl, f2 r Z1 H1 σ ρ _ _ (O.stp s1) h1 fun y u Z2 H2 s2 r2 h2 => ?_⟩
  obtain ⟨y, rfl, h2⟩ := D.S_ex h2
  cases r2
  have s12 := s1.trans s2 O.bs.st
  refine f3 r Z2 H2 σ ρ _ _ (O.stp s12) h2 fun j w Z3 H3 s3 r3 h3 => ?_
  obtain ⟨i, rfl, h3⟩ := D.I_ex h3
  cases r3
  exact ⟨z, y, i, rfl, rfl, q _ _ Z3 H3 (s12.trans s3 O.bs.st) (.int _) h3⟩
def rdDNotIn : R2D := fun kd d Q => d.K fun kvs => ∃ key, kd.key = some key ∧ Q (.bl (!(getT kvs key).isSome))
theorem dnotin_core {t t2 : TE} (f : ∀ (r : Rt) (Z H : Hp) (σ : L2.St) (ρ : En) (Qd : D → Prop) (Q : VK), Ok (wc X k.s) k r Z H σ ρ → wa ρ Qd → (∀ d v Z' H', Stp k.s Z H Z' H' → Rp (wc X k.s) Z' v d → Qd d → Q v H') → t σ H Q)
    (f2 : ∀ (r : Rt) (Z H : Hp) (σ : L2.St) (ρ : En) (Qd : D → Prop) (Q : VK), Ok (wc X k.s) k r Z H σ ρ → wb ρ Qd → (∀ d v Z' H', Stp k.s Z H Z' H' → Rp (wc X k.s) Z' v d → Qd d → Q v H') → t2 σ H Q)
    {r : Rt} {Z H : Hp} {σ : L2.St} {ρ : En} {Qd : D → Prop} {Q : VK} (O : Ok (wc X k.s) k r Z H σ ρ) (h : wOp rdDNotIn wa wb ρ Qd) (q : ∀ d v Z' H', Stp k.s Z H Z' H' → Rp (wc X k.s) Z' v d → Qd d → Q v H') : tDNotIn t t2 σ H Q := by
  refine f r Z H σ ρ _ _ O h fun x v Z1 H1 s1 r1 h1 => ?_
  refine f2 r Z1 H1 σ ρ _ _ (O.stp s1) h1 fun y u Z2 H2 s2 r2 h2 => ?_
  obtain ⟨kvs, rfl, key, ek, hq⟩ := D.K_ex h2
  obtain ⟨a', xs, rfl, hd, hr⟩ := rp_dic r2
  refine ⟨a', valV xs key, rfl, .inl ⟨xs, key, rd_mono s2.bs.zh hd, key_v (r1.mono s2.zz) ek, rfl⟩, ?_⟩
  rcases rpk_get (k := key) hr with ⟨z, z2⟩ | ⟨dv', v', e1, e2, e3⟩
  · rw [z] at hq
    rw [z2]
    exact q _ _ Z2 H2 (s1.trans s2 O.bs.st) (.bl _) hq
  · rw [e1] at hq
    rw [e2]
    exact q _ _ Z2 H2 (s1.trans s2 O.bs.st) (.bl _) hq
theorem de_dnotin (hu : X.A.units + 1 < cLine) (ha : DE X k a wa) (hb : DE X k b wb) (hm : behindInMarks .NotIn b = false := by rfl) : DE X k (.Compare a [.NotIn] [b] pos) (wOp rdDNotIn wa wb) := by
  obtain ⟨t, pa, f⟩ := ha
  obtain ⟨t2, pb, f2⟩ := hb
  exact ⟨_, pe_cmp (pc_dnotin hu pa pb) hm, fun r Z H σ ρ Qd Q O h q => dnotin_core f f2 O h q⟩
theorem dt_dnotin (hu : X.A.units + 1 < cLine) (ha : DE X k a wa) (hb : DE X k b wb) (hm : behindInMarks .NotIn b = false := by rfl) : DT X k (.Compare a [.NotIn] [b] pos) (wB (wOp rdDNotIn wa wb)) := by
  obtain ⟨t, pa, f⟩ := ha
  obtain ⟨t2, pb, f2⟩ := hb
  refine ⟨_, pt_cmp (pc_dnotin hu pa pb) hm, fun r Z H σ ρ Qd Q O h q => ?_⟩
  refine dnotin_core (Qd := fun d => d.B Qd) f f2 O h fun d v Z' H' s rv hd => ?_
  obtain ⟨i, rfl, hd⟩ := D.B_ex hd
  cases rv
  exact ⟨i, rfl, q i Z' H' s hd⟩
end
end Dl
set_option Elab.async false
set_option linter.all false
set_option maxRecDepth 100000
set_option maxHeartbeats 2000000
namespace Dl
open PySem PySem.Spec PyProof.Rows L2
/-! ### a dict is locked while it is walked -/
structure LkS (Z Z' : Hp) : Prop where
  st : ∀ a u, Z a = some u → (∀ kvs, u ≠ .dK kvs) → (∀ o kvs, u ≠ .frz o (.dK kvs)) → Z' a = some u
  di : ∀ a kvs, Rd Z a (.dK kvs) → Rd Z' a (.dK kvs)
section
variable {c : Wc} {Z Z' : Hp}
theorem LkS.seqT (e : LkS Z Z') {K : PySem.W.Frag} {a : Addr} {xs : List V} (h : SqT K Z a xs) : SqT K Z' a xs := by
  rcases h with (h | ⟨o, h⟩) | h
  · exact .inl (.inl (e.st _ _ h (fun _ z => by cases z) (fun _ _ z => by cases z)))
  · exact .inl (.inr ⟨o, e.st _ _ h (fun _ z => by cases z) (fun _ _ z => by cases z)⟩)
  · exact .inr h
theorem LkS.seqL (e : LkS Z Z') {K : PySem.W.Frag} {a : Addr} {xs : List V} (h : SqL K Z a xs) : SqL K Z' a xs := by
  rcases h with (h | ⟨o, h⟩) | h
  · exact .inl (.inl (e.st _ _ h (fun _ z => by cases z) (fun _ _ z => by cases z)))
  · exact .inl (.inr ⟨o, e.st _ _ h (fun _ z => by cases z) (fun _ _ z => by cases z)⟩)
  · exact .inr h
mutual
theorem Rp.lks (e : LkS Z Z') : ∀ {v : V} {d : D}, Rp c Z v d → Rp c Z' v d
  | _, _, .non => .non
  | _, _, .bl b => .bl b
  | _, _, .int i => .int i
  | _, _, .str x => .str x
  | _, _, .lst h r => .lst (e.st _ _ h (fun _ z => by cases z) (fun _ _ z => by cases z)) (RpA.lks e r)
  | _, _, .tup h r => .tup (e.seqT h) (RpA.lks e r)
  | _, _, .dic h r => .dic (e.di _ _ h) (RpK.lks e r)
  | _, _, .ins n h r => .ins n (e.st _ _ h (fun _ z => by cases z) (fun _ _ z => by cases z)) (RpF.lks e r)
  | _, _, .drw => .drw
  | _, _, .scr h => .scr (e.seqL h)
  | _, _, .ty n => .ty n
  | _, _, .rf a => .rf a
  | _, _, .exc h r => .exc (e.st _ _ h (fun _ z => by cases z) (fun _ _ z => by cases z)) (RpF.lks e r)
theorem RpA.lks (e : LkS Z Z') : ∀ {v : List V} {d : List D}, RpA c Z v d → RpA c Z' v d
  | _, _, .nil => .nil
  | _, _, .cons h r => .cons (Rp.lks e h) (RpA.lks e r)
theorem RpK.lks (e : LkS Z Z') : ∀ {v : List (Key × V)} {d : List (Key × D)}, RpK c Z v d → RpK c Z' v d
  | _, _, .nil => .nil
  | _, _, .cons h r => .cons (Rp.lks e h) (RpK.lks e r)
theorem RpF.lks (e : LkS Z Z') : ∀ {v : List (Str × V)} {d : List (Str × D)}, RpF c Z v d → RpF c Z' v d
  | _, _, .nil => .nil
  | _, _, .cons h r => .cons (Rp.lks e h) (RpF.lks e r)
end
theorem lks_lock {a : Addr} {o : Obj} {xs : List (Key × V)} (h : Z a = some (.dK xs)) : LkS Z (upd Z a (.frz o (.dK xs))) :=
  ⟨fun b u hb n1 n2 => by
    by_cases e : b = a
    · subst e
      rw [h] at hb
      cases hb
      exact absurd rfl (n1 _)
    · rw [upd_ne e]
      exact hb, fun b kvs hb => by
    by_cases e : b = a
    · subst e
      rcases hb with hb | ⟨_, hb⟩
      · rw [h] at hb
        cases hb
        exact .inr ⟨o, upd_same⟩
      · rw [h] at hb
        cases hb
    · rcases hb with hb | ⟨o', hb⟩
      · exact .inl (by rw [upd_ne e]; exact hb)
      · exact .inr ⟨o', by rw [upd_ne e]; exact hb⟩⟩
theorem lks_free {a : Addr} {o : Obj} {xs : List (Key × V)} (h : Z a = some (.frz o (.dK xs))) : LkS Z (upd Z a (.dK xs)) :=
  ⟨fun b u hb n1 n2 => by
    by_cases e : b = a
    · subst e
      rw [h] at hb
      cases hb
      exact absurd rfl (n2 _ _)
    · rw [upd_ne e]
      exact hb, fun b kvs hb => by
    by_cases e : b = a
    · subst e
      rcases hb with hb | ⟨_, hb⟩
      · rw [h] at hb
        cases hb
      · rw [h] at hb
        cases hb
        exact .inl upd_same
    · rcases hb with hb | ⟨o', hb⟩
      · exact .inl (by rw [upd_ne e]; exact hb)
      · exact .inr ⟨o', by rw [upd_ne e]; exact hb⟩⟩
end
/-- the heap with the object at a, if there is one, as u -/
def lkA (F : Hp) (a : Addr) (u : HO) : Hp := fun b => if b = a then (F a).map fun _ => u else F b
theorem lkA_ne {F : Hp} {a b : Addr} {u : HO} (h : b ≠ a) : lkA F a u b = F b := if_neg h
theorem lkA_none {F : Hp} {a b : Addr} {u : HO} (h : F b = none) : lkA F a u b = none := by
  by_cases e : b = a
  · subst e
    show (if b = b then _ else _) = _
    rw [if_pos rfl, h]
    rfl
  · rw [lkA_ne e]
    exact h
theorem lkA_some {F : Hp} {a : Addr} {u o : HO} (h : F a = some o) : lkA F a u a = some u := by
  show (if a = a then _ else _) = _
  rw [if_pos rfl, h]
  rfl
theorem lkA_inv {F : Hp} {a : Addr} {u o : HO} (h : lkA F a u a = some o) : o = u ∧ ∃ o', F a = some o' := by
  have h' : (F a).map (fun _ => u) = some o := by
    have z : (if a = a then (F a).map (fun _ => u) else F a) = some o := h
    rw [if_pos rfl] at z
    exact z
  cases q : F a with
  | none => rw [q] at h'; cases h'
  | some o' =>
    rw [q] at h'
    exact ⟨(Option.some.inj h').symm, o', rfl⟩
section
variable {c : Wc} {k : Cc} {r : Rt} {Z H Z' H' : Hp} {σ σ' : L2.St} {ρ ρ' : En} {a : Addr} {xs : List (Key × V)} {od : Obj}
def Rt.lock (r : Rt) (a : Addr) (u : HO) (Zl : Hp) : Rt := ⟨lkA r.Z0 a u, lkA r.H0 a u, Zl⟩
theorem Ok.ne_s (O : Ok c k r Z H σ ρ) (h : Z a = some u) : a ≠ c.s := fun z => by
  subst z
  rw [O.bs.zs] at h
  cases h
theorem bs_lock (O : Ok c k r Z H σ ρ) (h : Z a = some (.dK xs)) : Bs c.s (upd Z a (.frz od (.dK xs))) (upd H a (.frz od (.dK xs))) := by
  have ne := O.ne_s h
  refine ⟨fun b u hb => ?_, ?_, by rw [upd_ne ne.symm]; exact O.bs.zs⟩
  · by_cases e : b = a
    · subst e
      rw [upd_same] at hb ⊢
      exact hb
    · rw [upd_ne e] at hb ⊢
      exact O.bs.zh _ _ hb
  · obtain ⟨i, j, h1, h2, h3⟩ := O.bs.st
    exact ⟨i, j, by rw [upd_ne ne.symm]; exact h1, h2, h3⟩
theorem Ok.lock (O : Ok c k r Z H σ ρ) (h : Z a = some (.dK xs)) : Ok c k.still (r.lock a (.frz od (.dK xs)) (upd Z a (.frz od (.dK xs)))) (upd Z a (.frz od (.dK xs))) (upd H a (.frz od (.dK xs))) σ ρ := by
  have ne := O.ne_s h
  have hH := O.bs.zh _ _ h
  refine ⟨⟨fun b u hb => ?_, bs_lock O h, fun b u hb => ?_, fun b u hb hs => ?_⟩, ?_, Same.refl _, fun i t ht => ?_, fun i t b ht ho hb => ?_, O.ds, fun _ _ _ _ _ _ _ z => z.elim⟩
  · by_cases e : b = a
    · subst e
      obtain ⟨rfl, _⟩ := lkA_inv (show lkA r.Z0 b _ b = some u from hb)
      exact upd_same
    · rw [upd_ne e]
      exact O.en.zz _ _ ((lkA_ne e).symm.trans (show lkA r.Z0 a _ b = some u from hb))
  · by_cases e : b = a
    · subst e
      rw [upd_same] at hb
      cases hb
      rcases O.en.nw _ _ h with q | q
      · exact .inl (lkA_some q)
      · exact .inr (lkA_none q)
    · rw [upd_ne e] at hb
      rcases O.en.nw _ _ hb with q | q
      · exact .inl ((lkA_ne e).trans q)
      · exact .inr (lkA_none q)
  · by_cases e : b = a
    · subst e
      obtain ⟨rfl, _⟩ := lkA_inv (show lkA r.H0 b _ b = some u from hb)
      exact upd_same
    · rw [upd_ne e]
      exact O.en.hh _ _ ((lkA_ne e).symm.trans (show lkA r.H0 a _ b = some u from hb)) hs
  · obtain ⟨i, j, h1, h2, h3⟩ := O.s0
    exact ⟨i, j, (lkA_ne ne.symm).trans h1, h2, h3⟩
  · obtain ⟨o, h1, h2⟩ := O.sl i t ht
    refine ⟨o, h1, ?_⟩
    cases t with
    | un => trivial
    | val d =>
      obtain ⟨v, e1, e2⟩ := h2
      exact ⟨v, e1, e2.lks (lks_lock h)⟩
    | ol ds =>
      obtain ⟨b, vs, e1, e2, e3⟩ := h2
      have hb : b ≠ a := fun z => by
        subst z
        rw [hH] at e2
        cases e2
      exact ⟨b, vs, e1, by rw [upd_ne hb]; exact e2, e3.lks (lks_lock h)⟩
    | od ds =>
      obtain ⟨b, vs, e1, e2, e3⟩ := h2
      have hb : b ≠ a := fun z => by
        subst z
        have q := (O.ow i _ b ht rfl (by rw [h1, e1])).1
        rw [h] at q
        cases q
      exact ⟨b, vs, e1, by rw [upd_ne hb]; exact e2, e3.lks (lks_lock h)⟩
  · obtain ⟨q1, q2, q3⟩ := O.ow i t b ht ho hb
    have hb : b ≠ a := fun z => by
      subst z
      rw [h] at q1
      cases q1
    exact ⟨by rw [upd_ne hb]; exact q1, lkA_none q2, q3⟩
theorem Ok.free {Zl : Hp} (O : Ok c k r Z H σ ρ) (h : Z a = some (.dK xs)) (hl : Zl a = some (.frz od (.dK xs))) (O' : Ok c k.still (r.lock a (.frz od (.dK xs)) Zl) Z' H' σ' ρ') (hlz : ∀ b u, b ≠ a → r.Zl b = some u → Zl b = some u) :
    H' a = some (.frz od (.dK xs)) ∧ Ok c k r (upd Z' a (.dK xs)) (upd H' a (.dK xs)) σ' ρ' := by
  have ne := O.ne_s h
  have hZ' : Z' a = some (.frz od (.dK xs)) := O'.lb _ _ hl
  have hH' := O'.bs.zh _ _ hZ'
  have hH := O.bs.zh _ _ h
  refine ⟨hH', ⟨⟨fun b u hb => ?_, ⟨fun b u hb => ?_, ?_, by rw [upd_ne ne.symm]; exact O'.bs.zs⟩, fun b u hb => ?_, fun b u hb hs => ?_⟩, O.s0, fun b u hb => ?_, fun i t ht => ?_, fun i t b ht ho hb => ?_, O'.ds, O.lk⟩⟩
  · by_cases e : b = a
    · subst e
      have q := O.en.zz _ _ hb
      rw [h] at q
      cases q
      exact upd_same
    · rw [upd_ne e]
      exact O'.en.zz _ _ ((lkA_ne e).trans hb)
  · by_cases e : b = a
    · subst e
      rw [upd_same] at hb ⊢
      exact hb
    · rw [upd_ne e] at hb ⊢
      exact O'.bs.zh _ _ hb
  · obtain ⟨i, j, h1, h2, h3⟩ := O'.bs.st
    exact ⟨i, j, by rw [upd_ne ne.symm]; exact h1, h2, h3⟩
  · by_cases e : b = a
    · subst e
      rw [upd_same] at hb
      cases hb
      exact O.en.nw _ _ h
    · rw [upd_ne e] at hb
      rcases O'.en.nw _ _ hb with q | q
      · exact .inl ((lkA_ne e).symm.trans q)
      · exact .inr ((lkA_ne e).symm.trans q)
  · by_cases e : b = a
    · subst e
      have q := O.en.hh _ _ hb hs
      rw [hH] at q
      cases q
      exact upd_same
    · rw [upd_ne e]
      exact O'.en.hh _ _ ((lkA_ne e).trans hb) hs
  · by_cases e : b = a
    · subst e
      have q := O.lb _ _ hb
      rw [h] at q
      cases q
      exact upd_same
    · rw [upd_ne e]
      exact O'.lb _ _ (hlz b u e hb)
  · obtain ⟨o, h1, h2⟩ := O'.sl i t ht
    refine ⟨o, h1, ?_⟩
    cases t with
    | un => trivial
    | val d =>
      obtain ⟨v, e1, e2⟩ := h2
      exact ⟨v, e1, e2.lks (lks_free hZ')⟩
    | ol ds =>
      obtain ⟨b, vs, e1, e2, e3⟩ := h2
      have hb : b ≠ a := fun z => by
        subst z
        rw [hH'] at e2
        cases e2
      exact ⟨b, vs, e1, by rw [upd_ne hb]; exact e2, e3.lks (lks_free hZ')⟩
    | od ds =>
      obtain ⟨b, vs, e1, e2, e3⟩ := h2
      have hb : b ≠ a := fun z => by
        subst z
        rw [hH'] at e2
        cases e2
      exact ⟨b, vs, e1, by rw [upd_ne hb]; exact e2, e3.lks (lks_free hZ')⟩
  · obtain ⟨q1, q2, q3⟩ := O'.ow i t b ht ho hb
    have hb : b ≠ a := fun z => by
      subst z
      rw [hZ'] at q1
      cases q1
    exact ⟨by rw [upd_ne hb]; exact q1, (lkA_ne hb).symm.trans q2, q3⟩
theorem Ok.freeE (O : Ok c k r Z H σ ρ) (h : Z a = some (.dK xs)) (e' : Stp c.s (lkA r.Z0 a (.frz od (.dK xs))) (lkA r.H0 a (.frz od (.dK xs))) Z' H') (hZ' : Z' a = some (.frz od (.dK xs))) : Stp c.s r.Z0 r.H0 (upd Z' a (.dK xs)) (upd H' a (.dK xs)) := by
  have ne := O.ne_s h
  have hH := O.bs.zh _ _ h
  refine ⟨fun b u hb => ?_, ⟨fun b u hb => ?_, ?_, by rw [upd_ne ne.symm]; exact e'.bs.zs⟩, fun b u hb => ?_, fun b u hb hs => ?_⟩
  · by_cases e : b = a
    · subst e
      have q := O.en.zz _ _ hb
      rw [h] at q
      cases q
      exact upd_same
    · rw [upd_ne e]
      exact e'.zz _ _ ((lkA_ne e).trans hb)
  · by_cases e : b = a
    · subst e
      rw [upd_same] at hb ⊢
      exact hb
    · rw [upd_ne e] at hb ⊢
      exact e'.bs.zh _ _ hb
  · obtain ⟨i, j, h1, h2, h3⟩ := e'.bs.st
    exact ⟨i, j, by rw [upd_ne ne.symm]; exact h1, h2, h3⟩
  · by_cases e : b = a
    · subst e
      rw [upd_same] at hb
      cases hb
      exact O.en.nw _ _ h
    · rw [upd_ne e] at hb
      rcases e'.nw _ _ hb with q | q
      · exact .inl ((lkA_ne e).symm.trans q)
      · exact .inr ((lkA_ne e).symm.trans q)
  · by_cases e : b = a
    · subst e
      have q := O.en.hh _ _ hb hs
      rw [hH] at q
      cases q
      exact upd_same
    · rw [upd_ne e]
      exact e'.hh _ _ ((lkA_ne e).trans hb) hs
theorem Ok.freeL {Zl : Hp} (O : Ok c k r Z H σ ρ) (h : Z a = some (.dK xs)) (l' : Same Zl Z') (hl : ∀ b, b ≠ a → Zl b = Z b) : Same r.Zl (upd Z' a (.dK xs)) := fun b u hb => by
  by_cases e : b = a
  · subst e
    have q := O.lb _ _ hb
    rw [h] at q
    cases q
    exact upd_same
  · rw [upd_ne e]
    exact l' _ _ ((hl b e).trans (O.lb _ _ hb))
end
end Dl
set_option Elab.async false
set_option linter.all false
set_option maxRecDepth 100000
set_option maxHeartbeats 2000000
namespace Dl
open PySem PySem.Spec PyProof.Rows L2
section
variable {X : Cx} {k : Cc} {a b e c : Expr} {es : List Expr} {wa wb w wc' : WE} {pos p p1 p2 pos2 : Pos} {rest : List Stmt} {u : WS}
/-! ### what is read without a change, also from a heap with locked dicts -/
def DP (X : Cx) (k : Cc) (e : Expr) (w : WE) : Prop := ∃ t, PE X e t ∧ ∀ (r : Rt) (Z H : Hp) (σ : L2.St) (ρ : En) (Qd : D → Prop), Ok (wc X k.s) k r Z H σ ρ → w ρ Qd →
  ∃ v d, Rp (wc X k.s) Z v d ∧ Qd d ∧ ∀ (Z' H' : Hp) (Q : VK), LkS Z Z' → Same Z' H' → Q v H' → t σ H' Q
theorem LkS.refl (Z : Hp) : LkS Z Z := ⟨fun _ _ h _ _ => h, fun _ _ h => h⟩
theorem DP.de (h : DP X k e w) : DE X k e w := by
  obtain ⟨t, p, f⟩ := h
  refine ⟨t, p, fun r Z H σ ρ Qd Q O h q => ?_⟩
  obtain ⟨v, d, h1, h2, h3⟩ := f r Z H σ ρ Qd O h
  exact h3 Z H Q (.refl Z) O.bs.zh (q d v Z H (.refl O.bs) h1 h2)
theorem dp_var {i : Nat} {x : Str} (hN : X.N[i]? = some x := by rfl) (hv : Vis X.env.scope x := by first | exact Or.inl rfl | exact Or.inr (Or.inl rfl) | exact Or.inr (Or.inr rfl)) (hd : (x == ("__debug__" : Str)) = false := by decide) (hcd : (x == ("__classdict__" : Str)) = false := by decide) : DP X k (.Name x pos) (wVar i) := by
  refine ⟨_, pe_var hN hv hd hcd, fun r Z H σ ρ Qd O h => ?_⟩
  obtain ⟨d, e1, h1⟩ := Sl.V_ex h
  obtain ⟨o, h2, v, rfl, h3⟩ := O.sl i _ e1
  exact ⟨v, d, h3, h1, fun Z' H' Q _ _ q => ⟨v, h2, q⟩⟩
theorem dp_str {x : Str} {j : Nat} : DP X k (.Constant (.str x) j pos) (wC (.str x)) := ⟨_, pe_str, fun r Z H σ ρ Qd O h => ⟨_, _, .str x, h, fun _ _ _ _ _ q => q⟩⟩
theorem dp_fld {n f : Str} {C : Addr} (hm : X.mg n = some (.ref C)) (hc : Cls X.K C) (hn : NoAttr X.K C f) (h : DP X k e w) (hb : attributeBase e f X.env (eval e X.env) = eval e X.env := by rfl) : DP X k (.Attribute e f pos) (wFld n f w) := by
  obtain ⟨t, p, g⟩ := h
  refine ⟨_, pe_fld p hb, fun r Z H σ ρ Qd O h => ?_⟩
  obtain ⟨v, d, h1, h2, h3⟩ := g r Z H σ ρ _ O h
  obtain ⟨fs, x, rfl, hl, h4⟩ := D.F_ex h2
  cases h1 with
  | ins m hz hr =>
    have e : X.mg n = _ := m
    rw [hm] at e
    cases e
    obtain ⟨y, e2, e3⟩ := rpf_lookup hr hl
    exact ⟨y, x, e3, h4, fun Z' H' Q lk sm q => h3 Z' H' _ lk sm ⟨_, _, _, _, y, rfl, sm _ _ (lk.st _ _ hz (fun _ z => by cases z) (fun _ _ z => by cases z)), hc, hn, e2, q⟩⟩
theorem dp_dget (hu : X.A.units + 1 < cLine) (ha : DP X k a wa) (hb : DP X k b wb) (hs : NoSl b := by intro _ _; rfl) : DP X k (.Subscript a b pos) (wOp rdDGet wa wb) := by
  obtain ⟨t, pa, f⟩ := ha
  obtain ⟨t2, pb, f2⟩ := hb
  refine ⟨_, pe_dget hu pa pb hs, fun r Z H σ ρ Qd O h => ?_⟩
  obtain ⟨v, d, h1, h2, h3⟩ := f r Z H σ ρ _ O h
  obtain ⟨v', d', h1', h2', h3'⟩ := f2 r Z H σ ρ _ O h2
  obtain ⟨kvs, rfl, key, dv, ek, eg, hq⟩ := D.K_ex h2'
  obtain ⟨a', xs, rfl, hd, hr⟩ := rp_dic h1
  rcases rpk_get (k := key) hr with ⟨z, _⟩ | ⟨dv', y, e1, e2, e3⟩
  · rw [eg] at z
    cases z
  · rw [eg] at e1
    cases e1
    exact ⟨y, dv, e3, hq, fun Z' H' Q lk sm q => h3 Z' H' _ lk sm (h3' Z' H' _ lk sm ⟨a', y, rfl, .inl ⟨xs, key, rd_mono sm (lk.di _ _ hd), key_v h1' ek, e2.symm⟩, q⟩)⟩
/-! ### for over a dict -/
theorem ps_or {st : Stmt} {t1 t2 : TS} (h1 : PS X st t1) (h2 : PS X st t2) : PS X st (fun D σ H => t1 D σ H ∨ t2 D σ H) :=
  ⟨fun pins s σ H D I h => by
    rcases h with h | h
    · exact h1.run pins s σ H D I h
    · exact h2.run pins s σ H D I h⟩
theorem for_core {g : WG} {g' : TG} {tb : TS} {us : List Nat} {r : Rt} {Z1 H1 : Hp} {σ : L2.St} {ρ : En} {d : DEnds} {E : Ends} {J : It} {ds : List D}
    (fg : ∀ (r : Rt) (Z H : Hp) (σ : L2.St) (ρ : En) (v : V) (d : D) (Qd : En → Prop) (Q : L2.St → Hp → Prop), Ok (wc X k.s) k r Z H σ ρ → Rp (wc X k.s) Z v d → g d ρ Qd → (∀ σ' ρ', Ok (wc X k.s) k r Z H σ' ρ' → (∀ vs, (∀ i ∈ us, i ∈ vs) → wipe σ' vs = wipe σ vs) → Qd ρ' → Q σ' H) → g' v σ H Q)
    (fb : ∀ (r : Rt) (Z H : Hp) (σ : L2.St) (ρ : En) (d : DEnds) (E : Ends), Ok (wc X k.s) k r Z H σ ρ → Lk (wc X k.s) k r d E → u d ρ → tb E σ H)
    (O : Ok (wc X k.s) k r Z1 H1 σ ρ) (L : Lk (wc X k.s) k r d E) (it : ItD (wc X k.s) Z1 J ds) (h : wForL g u ds d ρ) :
    ∃ W : Nat → Nat → L2.St → Hp → Prop, (∃ m, W 0 m σ H1) ∧ ∀ i m σ H, W i m σ H → (J.stop i H ∧ E.nx σ H) ∨ (J.go i H ∧ ∃ N : L2.St → Hp → Prop, (∀ σ' H', N σ' H' → ∃ m', m' < m ∧ W (i + 1) m' σ' H') ∧ ∀ x H', J.yld i H x H' → g' x σ H' fun σ2 H2 => tb { E with nx := N, ct := N, bk := E.nx } σ2 H2) := by
  have lw : Same r.Zl Z1 := O.lb
  refine ⟨fun i m σ' H' => ∃ Z' ρ', Ok (wc X k.s) k { r with Zl := Z1 } Z' H' σ' ρ' ∧ wForL g u (ds.drop i) d ρ' ∧ i ≤ ds.length ∧ m = ds.length - i, ⟨_, Z1, ρ, O.raise, h, Nat.zero_le _, rfl⟩, ?_⟩
  rintro i m σ' H' ⟨Z', ρ', O', h', hi, rfl⟩
  obtain ⟨go, stop, yld⟩ := it Z' H' O'.lb O'.bs
  by_cases hlt : i < ds.length
  · refine .inr ⟨go i hlt, fun σ2 H2 => ∃ Z2 ρ2, Ok (wc X k.s) k { r with Zl := Z1 } Z2 H2 σ2 ρ2 ∧ wForL g u (ds.drop (i + 1)) d ρ2, ?_, ?_⟩
    · rintro σ2 H2 ⟨Z2, ρ2, O2, h2⟩
      exact ⟨_, by omega, Z2, ρ2, O2, h2, hlt, rfl⟩
    · intro x H2 y
      obtain ⟨dx, Z3, e1, s3, r3⟩ := yld i x H2 y hlt
      have e2 : ds.drop i = dx :: ds.drop (i + 1) := by
        rw [List.drop_eq_getElem_cons hlt]
        rw [List.getElem?_eq_getElem hlt] at e1
        rw [Option.some.inj e1]
      rw [e2] at h'
      refine fg _ Z3 H2 σ' ρ' x dx _ _ (O'.stp s3) r3 h' fun σ4 ρ4 O4 _ h4 => ?_
      refine fb _ Z3 H2 σ4 ρ4 _ _ O4 ⟨?_, ?_, ?_, ?_⟩ h4
      · exact fun Z5 H5 σ5 ρ5 O5 h5 => ⟨Z5, ρ5, O5, h5⟩
      · exact fun Z5 H5 v5 x5 e5 l5 => L.rt Z5 H5 v5 x5 e5 (lw.trans l5)
      · exact fun Z5 H5 σ5 ρ5 O5 h5 => L.nx Z5 H5 σ5 ρ5 (O5.lower lw) h5
      · exact fun Z5 H5 σ5 ρ5 O5 h5 => ⟨Z5, ρ5, O5, h5⟩
  · have e : i = ds.length := by omega
    subst e
    refine .inl ⟨stop _ (Nat.le_refl _), L.nx Z' H' σ' ρ' (O'.lower lw) ?_⟩
    rw [List.drop_length] at h'
    exact h'
def keyD : Key → D
  | .inl i => .int i
  | .inr s => .str s
theorem rp_key {c : Wc} {Z : Hp} (key : Key) : Rp c Z (kV key) (keyD key) := by
  cases key with
  | inl i => exact .int i
  | inr s => exact .str s
theorem rpk_at {c : Wc} {Z : Hp} : ∀ {xs : List (Key × V)} {ds : List (Key × D)} (i : Nat) {key : Key} {v : V}, RpK c Z xs ds → xs[i]? = some (key, v) → ∃ d, ds[i]? = some (key, d) ∧ Rp c Z v d
  | _, _, i, _, _, .nil, h => by simp at h
  | _, _, 0, _, _, .cons h _, e => by
    rw [List.getElem?_cons_zero] at e
    cases e
    exact ⟨_, rfl, h⟩
  | _, _, i + 1, _, _, .cons _ r, e => by
    rw [List.getElem?_cons_succ] at e
    obtain ⟨d, h1, h2⟩ := rpk_at i r e
    exact ⟨d, by rw [List.getElem?_cons_succ]; exact h1, h2⟩
theorem itd_keys {c : Wc} {Z : Hp} {a : Addr} {o : Obj} {xs : List (Key × V)} {ds : List (Key × D)} (h : Z a = some (.frz o (.dK xs))) (hr : RpK c Z xs ds) : ItD c Z (Itk a o xs) (ds.map fun kv => keyD kv.1) := by
  intro Z2 H2 e b
  have h2 := b.zh _ _ (e _ _ h)
  have hl := rpk_len hr
  refine ⟨fun i hi => ⟨h2, by rw [List.length_map, ← hl] at hi; exact hi⟩, fun i hi => ⟨h2, by rw [List.length_map, ← hl] at hi; exact hi⟩, fun i x H' y hi => ?_⟩
  obtain ⟨rfl, key, v, e1, rfl⟩ := y
  obtain ⟨d, e2, e3⟩ := rpk_at i hr e1
  exact ⟨keyD key, Z2, by rw [List.getElem?_map, e2]; rfl, .refl b, rp_key key⟩
def wiK (w : WE) : WA := fun ρ Q => w ρ fun d => d.K fun kvs => Q (kvs.map fun kv => keyD kv.1)
theorem ds_forK {tg it : Expr} {body : List Stmt} {w : WE} {g : WG} {us : List Nat} (hp : PassesOwn (model X.prog X.w) X.A X.env X.xe) (hi : DP X k it w) (hg : DG X k.still tg us g) (hb : DB X k.still body u) (hc : X.calm = true := by rfl)
    (hs : ∀ x, foldedSetIterable it X.env x = pure x := by intro _; rfl) : DS X k (.For tg it body [] pos) (wFor (wiK w) g u) := by
  obtain ⟨ti, pi, fi⟩ := hi
  obtain ⟨g', pg, fg⟩ := hg
  obtain ⟨tb, pb, fb⟩ := hb
  refine ⟨_, ps_or (ps_lock (ps_for hp hc (pi_keys pi) pg pb hs)) (ps_for hp hc (pi_keys pi) pg pb hs), fun r Z H σ ρ d E O L h => ?_⟩
  obtain ⟨v, dd, h1, h2, h3⟩ := fi r Z H σ ρ _ O h
  obtain ⟨kvs, rfl, h4⟩ := D.K_ex h2
  obtain ⟨a, xs, rfl, hd, hr⟩ := rp_dic h1
  rcases hd with hd | ⟨o, hd⟩
  · refine .inl ⟨a, .dK xs, O.bs.zh _ _ hd, trivial, fun od => ?_⟩
    have hr' : RpK (wc X k.s) (upd Z a (.frz od (.dK xs))) xs kvs := hr.lks (lks_lock hd)
    have OL := O.lock (od := od) hd
    refine h3 _ _ _ (lks_lock hd) OL.bs.zh ⟨a, od, rfl, .inl ⟨xs, upd_same, ?_⟩⟩
    have un : ∀ {Z' H' σ' ρ'}, Ok (wc X k.s) k.still (r.lock a (.frz od (.dK xs)) (upd Z a (.frz od (.dK xs)))) Z' H' σ' ρ' → H' a = some (.frz od (.dK xs)) ∧ Ok (wc X k.s) k r (upd Z' a (.dK xs)) (upd H' a (.dK xs)) σ' ρ' := fun O' => O.free hd upd_same O' fun b u hb hz => by rw [upd_ne hb]; exact O.lb _ _ hz
    refine for_core (k := k.still) (d := d) fg fb OL ⟨fun Z' H' σ' ρ' O' h' => ?_, fun Z' H' v x st lb rv h' => ?_, fun Z' H' σ' ρ' O' h' => ?_, fun Z' H' σ' ρ' O' h' => ?_⟩ (itd_keys upd_same hr') h4
    · exact ⟨(un O').1, L.nx _ _ _ _ (un O').2 h'⟩
    · have hz := lb _ _ upd_same
      have hh := st.bs.zh _ _ hz
      exact ⟨hh, L.rt _ _ v x (O.freeE hd st hz) (O.freeL hd lb fun b hb => upd_ne hb) (rv.lks (lks_free hz)) h'⟩
    · exact ⟨(un O').1, L.bk _ _ _ _ (un O').2 h'⟩
    · exact ⟨(un O').1, L.ct _ _ _ _ (un O').2 h'⟩
  · refine .inr (h3 Z H _ (.refl Z) O.bs.zh ⟨a, o, rfl, .inl ⟨xs, O.bs.zh _ _ hd, ?_⟩⟩)
    exact for_core (k := k.still) (d := d) fg fb O.still (L.still O.unstill) (itd_keys hd hr) h4
/-- for a, b in d.items() -/
theorem itd_items {c : Wc} {Z : Hp} {a : Addr} {o : Obj} {xs : List (Key × V)} {ds : List (Key × D)} (h : Z a = some (.frz o (.dK xs))) (hr : RpK c Z xs ds) : ItD c Z (Iti a o xs) (ds.map fun kv => .tup [keyD kv.1, kv.2]) := by
  intro Z2 H2 e b
  have h2 := b.zh _ _ (e _ _ h)
  have hl := rpk_len hr
  refine ⟨fun i hi => ⟨h2, by rw [List.length_map, ← hl] at hi; exact hi⟩, fun i hi => ⟨h2, by rw [List.length_map, ← hl] at hi; exact hi⟩, fun i x H' y hi => ?_⟩
  obtain ⟨T, key, v, e1, rfl, hT, rfl⟩ := y
  obtain ⟨d, e2, e3⟩ := rpk_at i hr e1
  exact ⟨.tup [keyD key, d], _, by rw [List.getElem?_map, e2]; rfl, .add b hT, rp_tup (.cons (rp_key key) (.cons (e3.mono e) .nil)) b hT⟩
def wiI (w : WE) : WA := fun ρ Q => w ρ fun d => d.K fun kvs => Q (kvs.map fun kv => .tup [keyD kv.1, kv.2])
theorem ds_forI {it : Expr} {elts : List Expr} {kk : Nat} {tpos apos cpos : Pos} {body : List Stmt} {w : WE} {g : WG} {us : List Nat} (hp : PassesOwn (model X.prog X.w) X.A X.env X.xe) (hi : DP X k it w) (hg : DG X k.still (.Tuple elts kk tpos) us g) (hb : DB X k.still body u) (hc : X.calm = true := by rfl)
    (hbase : attributeBase it "items" X.env (eval it X.env) = eval it X.env := by rfl) (hline : (apos.endLine == cpos.line) = true := by rfl)
    (hs : ∀ x, foldedSetIterable (.Call (.Attribute it "items" apos) [] [] cpos) X.env x = pure x := by intro _; rfl) : DS X k (.For (.Tuple elts kk tpos) (.Call (.Attribute it "items" apos) [] [] cpos) body [] pos) (wFor (wiI w) g u) := by
  obtain ⟨ti, pi, fi⟩ := hi
  obtain ⟨g', pg, fg⟩ := hg
  obtain ⟨tb, pb, fb⟩ := hb
  refine ⟨_, ps_or (ps_lock (ps_for hp hc (pi_items pi hbase hline) pg pb hs)) (ps_for hp hc (pi_items pi hbase hline) pg pb hs), fun r Z H σ ρ d E O L h => ?_⟩
  obtain ⟨v, dd, h1, h2, h3⟩ := fi r Z H σ ρ _ O h
  obtain ⟨kvs, rfl, h4⟩ := D.K_ex h2
  obtain ⟨a, xs, rfl, hd, hr⟩ := rp_dic h1
  rcases hd with hd | ⟨o, hd⟩
  · refine .inl ⟨a, .dK xs, O.bs.zh _ _ hd, trivial, fun od => ?_⟩
    have hr' : RpK (wc X k.s) (upd Z a (.frz od (.dK xs))) xs kvs := hr.lks (lks_lock hd)
    have OL := O.lock (od := od) hd
    refine h3 _ _ _ (lks_lock hd) OL.bs.zh ⟨a, od, xs, rfl, upd_same, ?_⟩
    have un : ∀ {Z' H' σ' ρ'}, Ok (wc X k.s) k.still (r.lock a (.frz od (.dK xs)) (upd Z a (.frz od (.dK xs)))) Z' H' σ' ρ' → H' a = some (.frz od (.dK xs)) ∧ Ok (wc X k.s) k r (upd Z' a (.dK xs)) (upd H' a (.dK xs)) σ' ρ' := fun O' => O.free hd upd_same O' fun b u hb hz => by rw [upd_ne hb]; exact O.lb _ _ hz
    refine for_core (k := k.still) (d := d) fg fb OL ⟨fun Z' H' σ' ρ' O' h' => ?_, fun Z' H' v x st lb rv h' => ?_, fun Z' H' σ' ρ' O' h' => ?_, fun Z' H' σ' ρ' O' h' => ?_⟩ (itd_items upd_same hr') h4
    · exact ⟨(un O').1, L.nx _ _ _ _ (un O').2 h'⟩
    · have hz := lb _ _ upd_same
      have hh := st.bs.zh _ _ hz
      exact ⟨hh, L.rt _ _ v x (O.freeE hd st hz) (O.freeL hd lb fun b hb => upd_ne hb) (rv.lks (lks_free hz)) h'⟩
    · exact ⟨(un O').1, L.bk _ _ _ _ (un O').2 h'⟩
    · exact ⟨(un O').1, L.ct _ _ _ _ (un O').2 h'⟩
  · refine .inr (h3 Z H _ (.refl Z) O.bs.zh ⟨a, o, xs, rfl, O.bs.zh _ _ hd, ?_⟩)
    exact for_core (k := k.still) (d := d) fg fb O.still (L.still O.unstill) (itd_items hd hr) h4
end
end Dl
set_option Elab.async false
set_option linter.all false
set_option maxRecDepth 100000
set_option maxHeartbeats 2000000
namespace Dl
open PySem PySem.Spec PyProof.Rows L2
/-! ### comprehensions with two for -/
section
variable {c : Wc} {k : Cc} {r : Rt} {Z H Z' H' Z1 H1 Z2 H2 Z3 H3 : Hp} {σ σ' : L2.St} {ρ ρ' : En} {D : Addr}
/-- a step that may change the object at D -/
structure StD (s D : Addr) (Z H Z' H' : Hp) : Prop where
  zz : Same Z Z'
  nw : ∀ a o, Z' a = some o → Z a = some o ∨ H a = none
  hh : ∀ a o, H a = some o → a ≠ s → a ≠ D → H' a = some o
  kp : ∀ a o, H a = some o → ∃ o', H' a = some o'
theorem StD.refl {s : Addr} : StD s D Z H Z H := ⟨Same.refl _, fun _ _ e => .inl e, fun _ _ e _ _ => e, fun _ o e => ⟨o, e⟩⟩
theorem StD.of {s : Addr} (h : Stp s Z H Z' H') : StD s D Z H Z' H' := ⟨h.zz, h.nw, fun a o e n _ => h.hh a o e n, fun a o e => by
  by_cases z : a = s
  · subst z
    obtain ⟨i, j, h1, _⟩ := h.bs.st
    exact ⟨_, h1⟩
  · exact ⟨o, h.hh a o e z⟩⟩
theorem StD.trans {s : Addr} (h : StD s D Z1 H1 Z2 H2) (h2 : StD s D Z2 H2 Z3 H3) : StD s D Z1 H1 Z3 H3 := by
  refine ⟨h.zz.trans h2.zz, fun a o e => ?_, fun a o e n nD => h2.hh a o (h.hh a o e n nD) n nD, fun a o e => ?_⟩
  · rcases h2.nw a o e with e | e
    · exact h.nw a o e
    · right
      cases q : H1 a with
      | none => rfl
      | some o' =>
        obtain ⟨o2, z⟩ := h.kp a o' q
        rw [e] at z
        cases z
  · obtain ⟨o', z⟩ := h.kp a o e
    exact h2.kp a o' z
theorem StD.put {s : Addr} {o : HO} (h : StD s D Z H Z' H') : StD s D Z H Z' (upd H' D o) :=
  ⟨h.zz, h.nw, fun a u e n nD => by rw [upd_ne nD]; exact h.hh a u e n nD, fun a u e => by
    by_cases z : a = D
    · exact ⟨o, by rw [z, upd_same]⟩
    · obtain ⟨o', q⟩ := h.kp a u e
      exact ⟨o', by rw [upd_ne z]; exact q⟩⟩
def Rt.rd (r : Rt) (D : Addr) (avs : List V) : Rt := ⟨r.Z0, upd r.H0 D (.lst avs), r.Zl⟩
theorem en_rd {s : Addr} {avs : List V} (e : Stp s r.Z0 r.H0 Z H) (hd : H D = some (.lst avs)) (zd : Z D = none) : Stp s (r.rd D avs).Z0 (r.rd D avs).H0 Z H :=
  ⟨e.zz, e.bs, fun a o q => by
    rcases e.nw a o q with z | z
    · exact .inl z
    · right
      show upd r.H0 D _ a = none
      rw [upd_ne (fun y => by rw [y, zd] at q; cases q)]
      exact z, fun a o q n => by
    by_cases y : a = D
    · subst y
      rw [show (r.rd a avs).H0 a = some (.lst avs) from upd_same] at q
      cases q
      exact hd
    · rw [show (r.rd D avs).H0 a = r.H0 a from upd_ne y] at q
      exact e.hh a o q n⟩
theorem s0_rd {s : Addr} {avs : List V} (h : StOk s r.H0) (n : s ≠ D) : StOk s (r.rd D avs).H0 := by
  obtain ⟨i, j, h1, h2, h3⟩ := h
  exact ⟨i, j, (upd_ne n).trans h1, h2, h3⟩
/-- ahead of D: as it stands behind, D no own object -/
theorem Ok.rd {avs : List V} (O : Ok c k r Z1 H1 σ ρ) (hD : H1 D = none) (st : Stp c.s Z1 H1 Z H) (hd : H D = some (.lst avs)) (zd : Z D = none) : Ok c k.still (r.rd D avs) Z H σ ρ := by
  have O2 := O.stp st
  refine ⟨en_rd O2.en hd zd, s0_rd O.s0 (O.bs.st.ne hD), O2.lb, O2.sl, fun i t a ht ho ha => ?_, O2.ds, fun _ _ _ _ _ _ _ z => z.elim⟩
  obtain ⟨q1, q2, q3⟩ := O2.ow i t a ht ho ha
  refine ⟨q1, ?_, q3⟩
  have ne : a ≠ D := fun y => by
    subst y
    obtain ⟨o, e1, e2⟩ := O.sl i t ht
    obtain ⟨b, u, e3, e4⟩ := e2.own ho
    rw [e1, e3] at ha
    cases ha
    rw [hD] at e4
    cases e4
  exact (upd_ne ne).trans q2
/-- later, D changed -/
theorem Ok.late {avs avs' : List V} (O4 : Ok c k.still (r.rd D avs) Z H σ' ρ') (s0 : StOk c.s r.H0) (en : Stp c.s r.Z0 r.H0 Z' H') (nD : c.s ≠ D) (hd : H' D = some (.lst avs')) (zd : Z' D = none) (sd : StD c.s D Z H Z' H') : Ok c k.still (r.rd D avs') Z' H' σ' ρ' := by
  have neD : ∀ (i : Nat) (t : Sl) (a : Addr), ρ'[i]? = some t → t.own = true → σ'[i]? = some (some (.ref a)) → a ≠ D := fun i t a ht ho ha y => by
    have q := (O4.ow i t a ht ho ha).2.1
    subst y
    rw [show (r.rd a avs).H0 a = some (.lst avs) from upd_same] at q
    cases q
  refine ⟨en_rd en hd zd, s0_rd s0 nD, O4.lb.trans sd.zz, fun i t ht => ?_, fun i t a ht ho ha => ?_, O4.ds, fun _ _ _ _ _ _ _ z => z.elim⟩
  · obtain ⟨o, h1, h2⟩ := O4.sl i t ht
    refine ⟨o, h1, ?_⟩
    cases t with
    | un => trivial
    | val d =>
      obtain ⟨v, e1, e2⟩ := h2
      exact ⟨v, e1, e2.mono sd.zz⟩
    | ol ds =>
      obtain ⟨b, vs, e1, e2, e3⟩ := h2
      have hb : σ'[i]? = some (some (.ref b)) := by rw [h1, e1]
      exact ⟨b, vs, e1, sd.hh _ _ e2 (O4.ow i _ b ht rfl hb).2.2 (neD i _ b ht rfl hb), e3.mono sd.zz⟩
    | od ds =>
      obtain ⟨b, vs, e1, e2, e3⟩ := h2
      have hb : σ'[i]? = some (some (.ref b)) := by rw [h1, e1]
      exact ⟨b, vs, e1, sd.hh _ _ e2 (O4.ow i _ b ht rfl hb).2.2 (neD i _ b ht rfl hb), e3.mono sd.zz⟩
  · obtain ⟨q1, q2, q3⟩ := O4.ow i t a ht ho ha
    have ne := neD i t a ht ho ha
    obtain ⟨o, e1, e2⟩ := O4.sl i t ht
    obtain ⟨b, u, e3, e4⟩ := e2.own ho
    rw [e1, e3] at ha
    cases ha
    refine ⟨?_, (upd_ne ne).trans ((upd_ne ne).symm.trans q2), q3⟩
    cases z : Z' a with
    | none => rfl
    | some w =>
      rcases sd.nw _ _ z with z1 | z1
      · rw [q1] at z1
        cases z1
      · rw [e4] at z1
        cases z1
end
section
variable {X : Cx} {k : Cc} {a b e c : Expr} {w : WE} {pos : Pos}
def wLcB (g : WG) (wt : WT) (we : WE) (ρ : En) : List D → List D → (List D → Prop) → Prop
  | [], acc, Q => Q acc
  | x :: xs, acc, Q => g x ρ fun ρ1 => wt ρ1 fun b => if b = true then we ρ1 fun y => acc.length ≤ 1000000 ∧ wLcB g wt we ρ xs (acc ++ [y]) Q else wLcB g wt we ρ xs acc Q
def wLcL2 (g : WG) (wt : WT) (wi1 : WA) (g1 : WG) (wt1 : WT) (we : WE) (vs1 : List Nat) (ρ : En) : List D → List D → (List D → Prop) → Prop
  | [], acc, Q => Q acc
  | x :: xs, acc, Q => g x ρ fun ρ1 => wt ρ1 fun b => if b = true then wi1 ρ1 fun ds1 => wLcB g1 wt1 we (wipeD ρ1 vs1) ds1 acc fun acc' => wLcL2 g wt wi1 g1 wt1 we vs1 ρ xs acc' Q else wLcL2 g wt wi1 g1 wt1 we vs1 ρ xs acc Q
def wLc2 (wi : WA) (g : WG) (wt : WT) (wi1 : WA) (g1 : WG) (wt1 : WT) (we : WE) (vs vs1 : List Nat) : WE := fun ρ Q => wi ρ fun ds => wLcL2 g wt wi1 g1 wt1 we vs1 (wipeD ρ vs) ds [] fun ys => Q (.lst ys)
def tIc (c : Wc) (k : Cc) (w : WA) : TI := fun σ H R => ∃ r Z ρ Qd, Ok c k r Z H σ ρ ∧ w ρ Qd ∧ ∀ ds Z' H' J, Stp c.s Z H Z' H' → ItD c Z' J ds → Qd ds → R J H'
theorem DI.pi {tg it : Expr} {w : WA} (h : DI X k tg it w) : PI X tg it (tIc (wc X k.s) k w) := by
  obtain ⟨t, p, f⟩ := h
  exact ⟨fun pins s σ H R I ⟨r, Z, ρ, Qd, O, h, q⟩ => p.run pins s σ H R I (f r Z H σ ρ Qd R O h q)⟩
theorem drop_at {ds : List D} {i : Nat} {d : D} (hlt : i < ds.length) (e1 : ds[i]? = some d) : ds.drop i = d :: ds.drop (i + 1) := by
  rw [List.drop_eq_getElem_cons hlt]
  rw [List.getElem?_eq_getElem hlt] at e1
  rw [Option.some.inj e1]
theorem zd_stp {s D : Addr} {Za Ha Zb Hb : Hp} {o : HO} (st : Stp s Za Ha Zb Hb) (za : Za D = none) (ha : Ha D = some o) : Zb D = none := by
  cases z : Zb D with
  | none => rfl
  | some o =>
    rcases st.nw D o z with z1 | z1
    · rw [za] at z1
      cases z1
    · rw [ha] at z1
      cases z1
theorem lc2_core {wi wi1 : WA} {g g1 : WG} {wt wt1 : WT} {vs vs1 us us1 : List Nat} {ti : TI} (hus : ∀ i ∈ us, i ∈ vs) (hus1 : ∀ i ∈ us1, i ∈ vs1)
    (fi : ∀ (r : Rt) (Z H : Hp) (σ : L2.St) (ρ : En) (Qd : List D → Prop) (R : It → Hp → Prop), Ok (wc X k.s) k r Z H σ ρ → wi ρ Qd → (∀ ds Z' H' J, Stp k.s Z H Z' H' → ItD (wc X k.s) Z' J ds → Qd ds → R J H') → ti σ H R) :
    ∀ (r : Rt) (Z H : Hp) (σ : L2.St) (ρ : En) (Qd : D → Prop) (Q : VK), Ok (wc X k.s) k r Z H σ ρ → wLc2 wi g wt wi1 g1 wt1 w vs vs1 ρ Qd → (∀ d v Z' H', Stp k.s Z H Z' H' → Rp (wc X k.s) Z' v d → Qd d → Q v H') →
      tLc2 ti (tGc (wc X k.s) k.still us g) (tTc (wc X k.s) k.still wt) (tIc (wc X k.s) k.still wi1) (tGc (wc X k.s) k.still us1 g1) (tTc (wc X k.s) k.still wt1) (tEc (wc X k.s) k.still w) vs vs1 σ H Q := by
  intro r Z H σ ρ Qd Q O h q
  refine fi r Z H σ ρ _ _ O h fun ds Z1 H1 J s1 it h1 => ?_
  intro D hD
  have O1 := O.stp s1
  have b1 : StOk k.s H1 := O1.bs.st
  have nD : k.s ≠ D := b1.ne hD
  refine ⟨fun i m H' => ∃ Z' acc avs, Stp k.s Z1 H1 Z' H' ∧ H' D = some (.lst avs) ∧ RpA (wc X k.s) Z' avs acc ∧ Z' D = none ∧ wLcL2 g wt wi1 g1 wt1 w vs1 (wipeD ρ vs) (ds.drop i) acc (fun ys => Qd (.lst ys)) ∧ i ≤ ds.length ∧ m = ds.length - i,
    ⟨_, Z1, [], [], (Stp.refl O1.bs).mut b1 hD (O1.bs.zh.free hD), upd_same, .nil, O1.bs.zh.free hD, h1, Nat.zero_le _, rfl⟩, ?_⟩
  rintro i m H' ⟨Z', acc, avs, st, hd, ra, zd, h', hi, rfl⟩
  obtain ⟨go, stop, yld⟩ := it Z' H' st.zz st.bs
  by_cases hlt : i < ds.length
  · refine .inr ⟨go i hlt, fun H2 => ∃ Z2 acc2 avs2, Stp k.s Z1 H1 Z2 H2 ∧ H2 D = some (.lst avs2) ∧ RpA (wc X k.s) Z2 avs2 acc2 ∧ Z2 D = none ∧ wLcL2 g wt wi1 g1 wt1 w vs1 (wipeD ρ vs) (ds.drop (i + 1)) acc2 (fun ys => Qd (.lst ys)), ?_, ?_⟩
    · rintro H2 ⟨Z2, acc2, avs2, st2, hd2, ra2, zd2, h2⟩
      exact ⟨_, by omega, Z2, acc2, avs2, st2, hd2, ra2, zd2, h2, hlt, rfl⟩
    · intro x H2 y
      obtain ⟨dx, Z3, e1, s3, r3⟩ := yld i x H2 y hlt
      rw [drop_at hlt e1] at h'
      have st3 := st.trans s3 b1
      have hd3 := s3.hh D _ hd (Ne.symm nD)
      have zd3 := zd_stp s3 zd hd
      have O3 := (O1.rd hD st3 hd3 zd3).wipe vs
      refine ⟨r.rd D avs, Z3, wipeD ρ vs, dx, _, O3, r3, h', fun σ4 ρ4 O4 w4 h4 => ?_⟩
      refine ⟨by rw [w4 vs hus, wipe_idem], r.rd D avs, Z3, ρ4, _, O4, h4, fun bb Z5 H5 s5 h5 => ?_⟩
      have st5 := st3.trans s5 b1
      have hd5 := s5.hh D _ hd3 (Ne.symm nD)
      have zd5 := zd_stp s5 zd3 hd3
      cases bb with
      | true =>
        refine iteT ⟨r.rd D avs, Z5, ρ4, _, O4.stp s5, (by simpa using h5), fun ds1 Z6 H6 J1 s6 it1 h6 => ?_⟩
        have O6 := (O4.stp s5).stp s6
        have st6 := st5.trans s6 b1
        have hd6 := s6.hh D _ hd5 (Ne.symm nD)
        have zd6 := zd_stp s6 zd5 hd5
        refine ⟨fun j kk H7 => ∃ Z7 acc7 avs7, Stp k.s Z1 H1 Z7 H7 ∧ StD k.s D Z6 H6 Z7 H7 ∧ H7 D = some (.lst avs7) ∧ RpA (wc X k.s) Z7 avs7 acc7 ∧ Z7 D = none ∧ wLcB g1 wt1 w (wipeD ρ4 vs1) (ds1.drop j) acc7 (fun acc' => wLcL2 g wt wi1 g1 wt1 w vs1 (wipeD ρ vs) (ds.drop (i + 1)) acc' (fun ys => Qd (.lst ys))) ∧ j ≤ ds1.length ∧ kk = ds1.length - j,
          ⟨_, Z6, acc, avs, st6, .refl, hd6, ra.mono ((s3.zz.trans s5.zz).trans s6.zz), zd6, h6, Nat.zero_le _, rfl⟩, ?_⟩
        rintro j kk H7 ⟨Z7, acc7, avs7, st7, sd7, hd7, ra7, zd7, h7, hj, rfl⟩
        obtain ⟨go1, stop1, yld1⟩ := it1 Z7 H7 sd7.zz st7.bs
        by_cases hlt1 : j < ds1.length
        · refine .inr ⟨go1 j hlt1, fun H8 => ∃ Z8 acc8 avs8, Stp k.s Z1 H1 Z8 H8 ∧ StD k.s D Z6 H6 Z8 H8 ∧ H8 D = some (.lst avs8) ∧ RpA (wc X k.s) Z8 avs8 acc8 ∧ Z8 D = none ∧ wLcB g1 wt1 w (wipeD ρ4 vs1) (ds1.drop (j + 1)) acc8 (fun acc' => wLcL2 g wt wi1 g1 wt1 w vs1 (wipeD ρ vs) (ds.drop (i + 1)) acc' (fun ys => Qd (.lst ys))), ?_, ?_⟩
          · rintro H8 ⟨Z8, acc8, avs8, q1, q2, q3, q4, q5, q6⟩
            exact ⟨_, by omega, Z8, acc8, avs8, q1, q2, q3, q4, q5, q6, hlt1, rfl⟩
          · intro x1 H8 y1
            obtain ⟨dx1, Z8, e8, s8, r8⟩ := yld1 j x1 H8 y1 hlt1
            rw [drop_at hlt1 e8] at h7
            have st8 := st7.trans s8 b1
            have sd8 := sd7.trans (.of s8)
            have hd8 := s8.hh D _ hd7 (Ne.symm nD)
            have zd8 := zd_stp s8 zd7 hd7
            have O8 := (O6.late O1.s0 (O1.en.trans st8 O1.s0) nD hd8 zd8 sd8).wipe vs1
            refine ⟨r.rd D avs7, Z8, wipeD ρ4 vs1, dx1, _, O8, r8, h7, fun σ9 ρ9 O9 w9 h9 => ?_⟩
            refine ⟨by rw [w9 vs1 hus1, wipe_idem], r.rd D avs7, Z8, ρ9, _, O9, h9, fun b2 Z10 H10 s10 h10 => ?_⟩
            have st10 := st8.trans s10 b1
            have sd10 := sd8.trans (.of s10)
            have hd10 := s10.hh D _ hd8 (Ne.symm nD)
            have zd10 := zd_stp s10 zd8 hd8
            cases b2 with
            | true =>
              refine iteT ⟨r.rd D avs7, Z10, ρ9, _, O9.stp s10, (by simpa using h10), fun d v Z11 H11 s11 r11 h11 => ?_⟩
              have st11 := st10.trans s11 b1
              have hd11 := s11.hh D _ hd10 (Ne.symm nD)
              have zd11 := zd_stp s11 zd10 hd10
              refine ⟨avs7, hd11, ?_, Z11, acc7 ++ [d], avs7 ++ [v], st11.mut b1 hD zd11, (sd10.trans (.of s11)).put, upd_same, (ra7.mono ((s8.zz.trans s10.zz).trans s11.zz)).append (.cons r11 .nil), zd11, h11.2⟩
              have e5 := ra7.length
              have e6 : sizeLine = 16777216 := by decide
              have e7 := h11.1
              omega
            | false => exact iteF ⟨Z10, acc7, avs7, st10, sd10, hd10, ra7.mono (s8.zz.trans s10.zz), zd10, by simpa using h10⟩
        · have e : j = ds1.length := by omega
          subst e
          refine .inl ⟨stop1 _ (Nat.le_refl _), Z7, acc7, avs7, st7, hd7, ra7, zd7, ?_⟩
          rw [List.drop_length] at h7
          exact h7
      | false => exact iteF ⟨Z5, acc, avs, st5, hd5, ra.mono (s3.zz.trans s5.zz), zd5, by simpa using h5⟩
  · have e : i = ds.length := by omega
    subst e
    refine .inl ⟨stop _ (Nat.le_refl _), ?_⟩
    rw [List.drop_length] at h'
    exact q (.lst acc) (.ref D) (upd Z' D (.lst avs)) H' (s1.trans (st.frz b1 hD zd hd) O.bs.st) (.lst upd_same (ra.mono fun a u e => by rw [upd_ne (ne_of_none e zd)]; exact e)) h'
theorem de_lc2 {elt tg it tg1 it1 : Expr} {ifs ifs1 : List Expr} {scope : Scope} {own : List (Str × Nat)} {wi wi1 : WA} {g g1 : WG} {wt wt1 : WT} {us us1 vs1 : List Nat} (hN : X.N.Nodup) (hi : DI X k tg it wi) (ok : BlkOk X.N X.env.scope scope own)
    (hg : ∀ (s : Shared) (H : Hp) (C : Addr) (cl : List (Str × Addr)) (fp : List Addr), DG (X.blk s H scope (compEnvC scope cl C X.env) fp) k.still tg us g)
    (ht : ∀ (s : Shared) (H : Hp) (C : Addr) (cl : List (Str × Addr)) (fp : List Addr), DTs (X.blk s H scope (compEnvC scope cl C X.env) fp) k.still ifs wt)
    (hi1 : ∀ (s : Shared) (H : Hp) (C : Addr) (cl : List (Str × Addr)) (fp : List Addr), DI (X.blk s H scope (compEnvC scope cl C X.env) fp) k.still tg1 it1 wi1)
    (hg1 : ∀ (s : Shared) (H : Hp) (C : Addr) (cl : List (Str × Addr)) (fp : List Addr), DG (X.blk s H scope (compEnvC scope cl C X.env) fp) k.still tg1 us1 g1)
    (ht1 : ∀ (s : Shared) (H : Hp) (C : Addr) (cl : List (Str × Addr)) (fp : List Addr), DTs (X.blk s H scope (compEnvC scope cl C X.env) fp) k.still ifs1 wt1)
    (he : ∀ (s : Shared) (H : Hp) (C : Addr) (cl : List (Str × Addr)) (fp : List Addr), DE (X.blk s H scope (compEnvC scope cl C X.env) fp) k.still elt w)
    (hus : ∀ i ∈ us, i ∈ own.map (·.2) := by decide) (hus1 : ∀ i ∈ us1, i ∈ vs1 := by decide) (hv : ∀ i ∈ vs1, i ∈ own.map (·.2) := by decide) (hc : X.calm = true := by rfl) (hs : ∀ x, foldedSetIterable it X.env x = pure x := by intro _; rfl) (hs1 : ∀ env x, foldedSetIterable it1 env x = pure x := by intro _ _; rfl) :
    DE X k (.ListComp elt [⟨tg, it, ifs, 0⟩, ⟨tg1, it1, ifs1, 0⟩] scope pos) (wLc2 wi g wt wi1 g1 wt1 w (own.map (·.2)) vs1) := by
  obtain ⟨ti, pi, fi⟩ := hi
  exact ⟨_, pe_lc2 (g := tGc (wc X k.s) k.still us g) (tt := tTc (wc X k.s) k.still wt) (wi1 := tIc (wc X k.s) k.still wi1) (g1 := tGc (wc X k.s) k.still us1 g1) (tt1 := tTc (wc X k.s) k.still wt1) (te := tEc (wc X k.s) k.still w) hc hN pi ok hv (fun s H C cl fp => (hg s H C cl fp).pg) (fun s H C cl fp => (ht s H C cl fp).pt) (fun s H C cl fp => (hi1 s H C cl fp).pi) (fun s H C cl fp => (hg1 s H C cl fp).pg) (fun s H C cl fp => (ht1 s H C cl fp).pt) (fun s H C cl fp => (he s H C cl fp).pe) hs hs1, lc2_core hus hus1 fi⟩
end
end Dl
set_option Elab.async false
set_option linter.all false
set_option maxRecDepth 100000
set_option maxHeartbeats 2000000
namespace Dl
open PySem PySem.Spec PyProof.Rows L2
section
variable {X : Cx} {k : Cc} {a b e c : Expr} {w wk wv : WE} {pos : Pos}
/-! ### dict comprehensions -/
def wDcL (g : WG) (wt : WT) (wk wv : WE) (ρ : En) : List D → List (Key × D) → (List (Key × D) → Prop) → Prop
  | [], acc, Q => Q acc
  | x :: xs, acc, Q => g x ρ fun ρ1 => wt ρ1 fun b => if b = true then wk ρ1 fun kd => wv ρ1 fun y => ∃ key, kd.key = some key ∧ acc.length ≤ 1000000 ∧ wDcL g wt wk wv ρ xs (putT acc key y) Q else wDcL g wt wk wv ρ xs acc Q
def wDc (wi : WA) (g : WG) (wt : WT) (wk wv : WE) (vs : List Nat) : WE := fun ρ Q => wi ρ fun ds => wDcL g wt wk wv (wipeD ρ vs) ds [] fun ys => Q (.dic ys)
theorem dc_core {wi : WA} {g : WG} {wt : WT} {vs us : List Nat} {ti : TI} (hus : ∀ i ∈ us, i ∈ vs)
    (fi : ∀ (r : Rt) (Z H : Hp) (σ : L2.St) (ρ : En) (Qd : List D → Prop) (R : It → Hp → Prop), Ok (wc X k.s) k r Z H σ ρ → wi ρ Qd → (∀ ds Z' H' J, Stp k.s Z H Z' H' → ItD (wc X k.s) Z' J ds → Qd ds → R J H') → ti σ H R) :
    ∀ (r : Rt) (Z H : Hp) (σ : L2.St) (ρ : En) (Qd : D → Prop) (Q : VK), Ok (wc X k.s) k r Z H σ ρ → wDc wi g wt wk wv vs ρ Qd → (∀ d v Z' H', Stp k.s Z H Z' H' → Rp (wc X k.s) Z' v d → Qd d → Q v H') →
      tDc ti (tGc (wc X k.s) k.still us g) (tTc (wc X k.s) k.still wt) (tEc (wc X k.s) k.still wk) (tEc (wc X k.s) k.still wv) vs σ H Q := by
  intro r Z H σ ρ Qd Q O h q
  refine fi r Z H σ ρ _ _ O h fun ds Z1 H1 J s1 it h1 => ?_
  intro D hD
  have O1 := O.stp s1
  have b1 : StOk k.s H1 := O1.bs.st
  have nD : k.s ≠ D := b1.ne hD
  refine ⟨fun i m H' => ∃ Z' acc avs, Stp k.s Z1 H1 Z' H' ∧ H' D = some (.dK avs) ∧ RpK (wc X k.s) Z' avs acc ∧ Z' D = none ∧ wDcL g wt wk wv (wipeD ρ vs) (ds.drop i) acc (fun ys => Qd (.dic ys)) ∧ i ≤ ds.length ∧ m = ds.length - i,
    ⟨_, Z1, [], [], (Stp.refl O1.bs).mut b1 hD (O1.bs.zh.free hD), upd_same, .nil, O1.bs.zh.free hD, h1, Nat.zero_le _, rfl⟩, ?_⟩
  rintro i m H' ⟨Z', acc, avs, st, hd, ra, zd, h', hi, rfl⟩
  obtain ⟨go, stop, yld⟩ := it Z' H' st.zz st.bs
  by_cases hlt : i < ds.length
  · refine .inr ⟨go i hlt, fun H2 => ∃ Z2 acc2 avs2, Stp k.s Z1 H1 Z2 H2 ∧ H2 D = some (.dK avs2) ∧ RpK (wc X k.s) Z2 avs2 acc2 ∧ Z2 D = none ∧ wDcL g wt wk wv (wipeD ρ vs) (ds.drop (i + 1)) acc2 (fun ys => Qd (.dic ys)), ?_, ?_⟩
    · rintro H2 ⟨Z2, acc2, avs2, st2, hd2, ra2, zd2, h2⟩
      exact ⟨_, by omega, Z2, acc2, avs2, st2, hd2, ra2, zd2, h2, hlt, rfl⟩
    · intro x H2 y
      obtain ⟨dx, Z3, e1, s3, r3⟩ := yld i x H2 y hlt
      rw [drop_at hlt e1] at h'
      have st3 := st.trans s3 b1
      have O3 := ((O1.stp st3).wipe vs).still
      have hd3 := s3.hh D _ hd (Ne.symm nD)
      have zd3 := zd_stp s3 zd hd
      refine ⟨r, Z3, wipeD ρ vs, dx, _, O3, r3, h', fun σ4 ρ4 O4 w4 h4 => ?_⟩
      refine ⟨by rw [w4 vs hus, wipe_idem], r, Z3, ρ4, _, O4, h4, fun bb Z5 H5 s5 h5 => ?_⟩
      have hd5 := s5.hh D _ hd3 (Ne.symm nD)
      have zd5 := zd_stp s5 zd3 hd3
      cases bb with
      | true =>
        refine iteT ⟨r, Z5, ρ4, _, O4.stp s5, (by simpa using h5), fun kd u Z6 H6 s6 r6 h6 => ?_⟩
        have hd6 := s6.hh D _ hd5 (Ne.symm nD)
        have zd6 := zd_stp s6 zd5 hd5
        refine ⟨r, Z6, ρ4, _, (O4.stp s5).stp s6, h6, fun d v Z7 H7 s7 r7 h7 => ?_⟩
        obtain ⟨key, ek, hl, h7⟩ := h7
        have hd7 := s7.hh D _ hd6 (Ne.symm nD)
        have zd7 := zd_stp s7 zd6 hd6
        have st7 := ((st3.trans s5 b1).trans s6 b1).trans s7 b1
        refine ⟨avs, key, key_v r6 ek, hd7, ?_, Z7, putT acc key d, putK avs key v, st7.mut b1 hD zd7, upd_same, rpk_put (ra.mono (((s3.zz.trans s5.zz).trans s6.zz).trans s7.zz)) r7, zd7, h7⟩
        rw [rpk_len ra]
        exact Nat.lt_of_le_of_lt hl (by decide)
      | false =>
        exact iteF ⟨Z5, acc, avs, st3.trans s5 b1, hd5, ra.mono (s3.zz.trans s5.zz), zd5, by simpa using h5⟩
  · have e : i = ds.length := by omega
    subst e
    refine .inl ⟨stop _ (Nat.le_refl _), ?_⟩
    rw [List.drop_length] at h'
    exact q (.dic acc) (.ref D) (upd Z' D (.dK avs)) H' (s1.trans (st.frz b1 hD zd hd) O.bs.st) (.dic (.inl upd_same) (ra.mono fun a u e => by rw [upd_ne (ne_of_none e zd)]; exact e)) h'
theorem de_dc {kx vx tg it : Expr} {ifs : List Expr} {scope : Scope} {own : List (Str × Nat)} {wi : WA} {g : WG} {wt : WT} {us : List Nat} (hN : X.N.Nodup) (hi : DI X k tg it wi) (ok : BlkOk X.N X.env.scope scope own)
    (hg : ∀ (s : Shared) (H : Hp) (C : Addr) (cl : List (Str × Addr)) (fp : List Addr), DG (X.blk s H scope (compEnvC scope cl C X.env) fp) k.still tg us g)
    (ht : ∀ (s : Shared) (H : Hp) (C : Addr) (cl : List (Str × Addr)) (fp : List Addr), DTs (X.blk s H scope (compEnvC scope cl C X.env) fp) k.still ifs wt)
    (hk : ∀ (s : Shared) (H : Hp) (C : Addr) (cl : List (Str × Addr)) (fp : List Addr), DE (X.blk s H scope (compEnvC scope cl C X.env) fp) k.still kx wk)
    (he : ∀ (s : Shared) (H : Hp) (C : Addr) (cl : List (Str × Addr)) (fp : List Addr), DE (X.blk s H scope (compEnvC scope cl C X.env) fp) k.still vx wv)
    (hus : ∀ i ∈ us, i ∈ own.map (·.2) := by decide) (hc : X.calm = true := by rfl) (hs : ∀ x, foldedSetIterable it X.env x = pure x := by intro _; rfl) : DE X k (.DictComp kx vx [⟨tg, it, ifs, 0⟩] scope pos) (wDc wi g wt wk wv (own.map (·.2))) := by
  obtain ⟨ti, pi, fi⟩ := hi
  exact ⟨_, pe_dc (g := tGc (wc X k.s) k.still us g) (tt := tTc (wc X k.s) k.still wt) (tk := tEc (wc X k.s) k.still wk) (tv := tEc (wc X k.s) k.still wv) hc hN pi ok (fun s H C cl fp => (hg s H C cl fp).pg) (fun s H C cl fp => (ht s H C cl fp).pt) (fun s H C cl fp => (hk s H C cl fp).pe) (fun s H C cl fp => (he s H C cl fp).pe) hs, dc_core hus fi⟩
/-! ### slices of tuples -/
def rdSlT : RSD := fun a i j Q => a.T fun xs => Q (.tup (cutD xs i j))
theorem os_slT : OpS X k (rSlA X.K) rdSlT := by
  intro Z H x d i j Qd Q B ra h q
  obtain ⟨ds, e1, h1⟩ := D.T_ex h
  clear h
  have h := h1
  clear h1
  subst e1
  cases ra with
  | tup hs hr =>
    refine ⟨_, _, rfl, same_t B.zh hs, fun hf => ?_, fun _ p hp => q _ _ _ _ (.add B hp) (rp_tup (rpa_cut hr) B hp) h⟩
    have e : cutD ds i j = ds := by
      unfold cutD
      rw [hr.length] at hf
      rw [hf.1, hf.2]
      simp
    rw [e] at h
    exact q _ _ Z H (.refl B) (.tup hs hr) h
theorem de_slcT {lo hi : Option Expr} {l u : WO} {p2 : Pos} (h : DE X k e w) (hl : DO X k lo l) (hu : DO X k hi u) : DE X k (.Subscript e (.Slice lo hi none p2) pos) (wSl rdSlT w l u) :=
  de_slice sl_tupA os_slT h hl hu
end
end Dl
set_option Elab.async false
set_option linter.all false
set_option maxRecDepth 100000
set_option maxHeartbeats 2000000
namespace Dl
open PySem PySem.Spec PyProof.Rows L2
/-! ### errors whose context is told: suites that call defs -/
section
variable {X : Cx} {k : Cc} {a b e c : Expr} {es : List Expr} {wa wb w : WE} {pos p p1 p2 pos2 : Pos} {rest : List Stmt}
theorem pmk_sup {x : Str} {ta : TA} {C fI : Addr} {n : Nat} {fd : FuncData} {ps : List Str} {sp : Sp} (T : OexC X.K C) (iC : PySem.W.findIn X.K (.ref C) "__init__" = some (some (.ref fI))) (tI : PySem.W.typeIn X.K (.ref fI) = some (.type "function"))
    (F1 : FnOk X.prog X.w X.K X.mg X.base CX0 n fI fd ps sp) (hr : Room (n + 1) X.A) (hb : Binds X.K fd ps []) (hg : Gl X x) (hm : X.mg x = some (.ref C)) (ha : PA X [e] ta) (hdb : (x == ("__debug__" : Str)) = false := by decide)
    (he : starEach [e] X.env = (false, eval e X.env) :: starEach [] X.env := by rfl) : L2N.PMk X (.Call (.Name x p) [e] [] pos) (tMkO C sp [] ta) := by
  intro pl st0 sg HH QQ II hh
  obtain ⟨_, _, _, _, bm, _, _, _, _, _, _, _, _, _, _, hC, hbm⟩ := T.cls
  refine wpAny_Call_Name_kw (ld_glob II hg hm (PySem.W.callWith_K (h₀ := X.base) II.ok.mod.kin T.kC (thn (ha.run pos pl st0 sg HH _ II hh) fun us s1 ⟨vs, Ha, Ia, ra, hz, qa⟩ => ⟨Ia.kIn, ?_⟩) he rfl) hdb)
  obtain ⟨hp, gg, dd, tt, oo⟩ := s1
  let N : Addr := hp.objs.size + 1
  let h9 : Heap := (hp.push (PySem.W.kdv_tup us)).push (PySem.HandSPX.excO C hp.objs.size)
  have up : ∀ b o, hp.get? b = some o → h9.get? b = some o := fun b o z => Heap.get?_push_of_some _ (Heap.get?_push_of_some _ z)
  have at9 : ((hp.push (PySem.W.kdv_tup us)).push (PySem.HandSPX.excO C hp.objs.size)).get? (hp.objs.size + 1) = some (PySem.HandSPX.excO C hp.objs.size) := by heap_get
  have le : hp.objs.size ≤ N := Nat.le_succ _
  have q9 := qa N (Ia.hok.fresh le)
  have I9 : L2.Inv X pl sg (upd Ha N (exo N C none)) ⟨h9, gg, dd, tt, oo⟩ := Ia.laid (t' := tt) (a := N) (o := exo N C none) (h' := h9) up le (exo_ok at9)
  rw [List.append_nil] at q9
  have rv : Vals (V.ref N :: vs) (Value.ref N :: us) := .cons rfl ra
  have hps : vs.length + 1 = ps.length := F1.len _ _ _ _ q9
  have hus : us.length = vs.length := (Paired.length ra).symm
  have bd := hb _ (Value.ref N :: us) I9.kIn (by rw [List.append_nil, List.length_cons, hus, hps])
  rw [List.append_nil] at bd
  refine wpAny_call (PySem.HandSPX.call_own F.excBase_ValueError (fun Y => PySem.HandSPX.refsVE_contains Y bm hbm) (Ia.kIn _ _ hC) (PySem.W.looks_findIn Ia.kIn iC) (fun self => PySem.W.bind_fn Ia.kIn self tI) (show us.length ≤ sizeLine by rw [hus]; exact Nat.le_trans hz (by decide)) (codeAny_mono (F1.run _ X.stack _ _ ⟨Value.ref N :: us, []⟩ (Value.ref N :: us) _ _ (fun _ _ _ => False) (hr.make C us []) (I9.env0.make C us []) bd rv q9) fun r s9 hq => ?_))
  cases r with
  | error er => exact hq.elim
  | ok fl => cases fl with
    | ret u =>
      obtain ⟨v, Hb, e1, e2, e3, e4, e5, e6, d, fs, ea, ed, hd1, qq⟩ := hq
      subst e6
      obtain ⟨hb9, g9, d9, t9, o9⟩ := s9
      obtain ⟨t0, G, J, kG, ge, hoe, na⟩ := mk_end0 (d2 := d9) (t2 := t9) Ia le up e3 e4 e1 e2 ea ed hd1
      exact ⟨e5, N, _, _, ⟨G, g9, d9, t9, o9⟩, _, .ref C, some d, rfl, J, kG, ge, hoe, ⟨rfl, rfl, fun vs hv => by cases hv; rfl⟩, rfl, rfl, na, rfl, e2, raises_own T.exC T.tyC, qq⟩
    | next => exact False.elim hq
    | brk => exact False.elim hq
    | cont => exact False.elim hq
theorem takesN0 {X : Cx} : L2N.Takes X (fun _ _ _ _ => False) := fun _ _ ⟨_, _, _, _, _, _, _, _, _, _, _, _, _, _, _, _, z⟩ => z.elim
theorem ds_raiseFN {x fld : Str} {C fI : Addr} {good : V → Prop} {n : Nat} {fd : FuncData} {ps : List Str} (T : ExcF X.K X.mg x C fI) (F1 : FnOk X.prog X.w X.K X.mg X.base CX0 n fI fd ps (spSup C fld good)) (hr : Room (n + 1) X.A) (hb : Binds X.K fd ps []) (tk : L2N.Takes X (fun cls d _ H => k.xk cls d H)) (h : DE X k e w) (hc : X.calm = true := by rfl) (hg : Gl X x := by rfl) (hs : starEach [e] X.env = (false, eval e X.env) :: starEach [] X.env := by rfl) (hdb : (x == ("__debug__" : Str)) = false := by decide) :
    DS X k (.Raise (some (.Call (.Name x p) [e] [] pos)) none pos2) (wRaiseF x fld good k.xd w) := by
  obtain ⟨t, pe, f⟩ := h
  refine ⟨_, L2N.ps_raise hc tk (pmk_sup T.T T.iC T.tI F1 hr hb hg T.g (pa_cons pe pa_nil hs) hdb hs), fun r Z H σ ρ d E O L h => ?_⟩
  refine f r Z H σ ρ _ _ O h fun y v Z1 H1 s1 r1 h1 => ?_
  refine ⟨Nat.le_add_left 1 999, fun a ha => ⟨a, v, rfl, h1.1 _ _ _ r1, upd_same, fun dx hd hne => ⟨rfl, dx, [(fld, v)], upd_same, ?_, ?_, ?_⟩⟩⟩
  · rw [upd_ne hne, upd_same]
  · rw [upd_ne hne] at hd
    exact hd
  · rw [upd_ne hne] at hd
    have eH : upd (del (upd (upd (upd H1 a (exo a C none)) dx (exd dx [(fld, v)])) a (exo a C (some dx))) a) dx (.xd [(fld, v)]) = upd H1 dx (.xd [(fld, v)]) := by
      funext b
      by_cases h1 : b = dx
      · rw [h1, upd_same, upd_same]
      · rw [upd_ne h1, upd_ne h1]
        by_cases h2 : b = a
        · rw [h2, del_same, ha]
        · rw [del_ne h2, upd_ne h2, upd_ne h1, upd_ne h2]
    rw [eH]
    have sA := Stp.add (o := .xd [(fld, v)]) s1.bs hd
    exact O.lk _ _ ⟨x, some [(fld, y)]⟩ _ _ ((O.en.trans s1 O.s0).trans sA O.s0) ⟨C, T.g, rfl, dx, _, rfl, upd_same, .cons (r1.mono sA.zz) .nil⟩ h1.2
def DXEN (X : Cx) (k : Cc) (e : Expr) (w : WXE) : Prop := ∀ W, L2N.Takes X W → ∃ t, PE X e t ∧ ∀ (r : Rt) (Z H : Hp) (σ : L2.St) (ρ : En) (Qd : D → Prop) (Ed : Exn → Prop) (Q : VK), Ok (wc X k.s) k.still r Z H σ ρ → w ρ Qd Ed →
  (∀ d v Z' H', Stp k.s Z H Z' H' → Rp (wc X k.s) Z' v d → Qd d → Q v H') → (∀ ex cls od Z' H', Stp k.s Z H Z' H' → ExR (wc X k.s) Z' H' ex cls od → Ed ex → W cls od σ H') → t σ H Q
theorem dxen_call {f : Str} {fa : Addr} {fd : FuncData} {ps : List Str} {spec : SpecD} {u : WA} {j : Nat}
    (F : FnOk X.prog X.w X.K X.mg X.base (L2N.CX X.prog X.w) j fa fd ps (spD X.K X.mg spec)) (hr : Room j X.A) (hm : X.mg f = some (.ref fa)) (hk : PySem.W.keepIn X.K (.ref fa) = true) (hb : Binds X.K fd ps [])
    (ha : DA X k.still (e :: es) u) (hg : Gl X f := by rfl) (hdb : (f == ("__debug__" : Str)) = false := by decide) (he : starEach (e :: es) X.env = (false, eval e X.env) :: starEach es X.env := by rfl) (hpl : (backTo pos (starEach es X.env)).any (·.1) = false := by rfl) :
    DXEN X k (.Call (.Name f p) (e :: es) [] pos) (wXCall spec u) := by
  intro W tk
  obtain ⟨t, pa, g⟩ := ha
  refine ⟨_, pe_callS F hr hg hm hk hb (fun σ => L2N.passAt tk σ) pa hdb he hpl, fun r Z H σ ρ Qd Ed Q O h q qe => ?_⟩
  refine g r Z H σ ρ _ _ O h fun ds vs Z1 H1 s1 r1 h1 => ?_
  exact ⟨k.s, Z1, ds, Qd, Ed, s1.bs, r1, h1, fun d v Z' H' st rv hd => q d v Z' H' (s1.trans st O.bs.st) rv hd, fun ex cls od Z' H' st er hd => qe ex cls od Z' H' (s1.trans st O.bs.st) er hd⟩
theorem dxen_tup2 {wb : WXE} {x1 : Nat} (ha : DE X k.still a wa) (hb : DXEN X k b wb) (h1 : starEach [a, b] X.env = (false, eval a X.env) :: starEach [b] X.env := by rfl) (h2 : starEach [b] X.env = (false, eval b X.env) :: starEach [] X.env := by rfl) : DXEN X k (.Tuple [a, b] x1 pos) (wXTup2 wa wb) := by
  intro W tk
  obtain ⟨t, pa, g⟩ := ha
  obtain ⟨t2, pb, g2⟩ := hb W tk
  refine ⟨_, pe_tup (pa_cons pa (pa_cons pb pa_nil h2) h1), fun r Z H σ ρ Qd Ed Q O h q qe => ?_⟩
  refine g r Z H σ ρ _ _ O h fun x v Z1 H1 s1 r1 h1 => ?_
  refine g2 r Z1 H1 σ ρ _ _ _ (O.stp s1) h1 (fun y u Z2 H2 s2 r2 h2 => ?_) fun ex cls od Z' H' st er hd => qe ex cls od Z' H' (s1.trans st O.bs.st) er hd
  refine ⟨Nat.le_trans (show 2 ≤ 100000 by decide) (by decide), fun p hp => ?_⟩
  exact q _ _ _ _ ((s1.trans s2 O.bs.st).trans (.add s2.bs hp) O.bs.st) (rp_tup (.cons (r1.mono s2.zz) (.cons r2 .nil)) s2.bs hp) h2
def DXBN (X : Cx) (k : Cc) (sts : List Stmt) (w : DEnds → (Exn → Prop) → En → Prop) : Prop := ∀ W, L2N.Takes X W → ∃ t, PSs X sts t ∧ ∀ (r : Rt) (Z H : Hp) (σ : L2.St) (ρ : En) (d : DEnds) (Ed : Exn → Prop) (E : Ends), Ok (wc X k.s) k.still r Z H σ ρ → Lk (wc X k.s) k.still r d E →
  (∀ ex cls od Z' H', Stp k.s Z H Z' H' → ExR (wc X k.s) Z' H' ex cls od → Ed ex → W cls od σ H') → w d Ed ρ → t E σ H
theorem dxbn_ret {w : WXE} (h : DXEN X k e w) : DXBN X k [.Return (some e) pos] (wXRet w) := by
  intro W tk
  obtain ⟨t, p, f⟩ := h W tk
  refine ⟨_, pss_one (ps_ret p), fun r Z H σ ρ d Ed E O L qe h => ?_⟩
  exact f r Z H σ ρ _ _ _ O h (fun x v Z1 H1 s1 r1 h1 => L.rt Z1 H1 v x (O.en.trans s1 O.s0) (O.lb.trans s1.zz) r1 h1) qe
theorem dxbn_set {i : Nat} {x : Str} {pos' : Pos} {w : WXE} {v : WS} (hN : X.N.Nodup) (h : DXEN X k e w) (h2 : DB X k.still rest v) (hi : X.N[i]? = some x := by rfl) (hx : Loc X.env.scope x := by first | exact Or.inl rfl | exact Or.inr rfl) (hs : swapsWith e (some (.Name x pos')) pos.line X.env = pure false := by rfl)
    (hf : X.fn x = true ∨ X.env.scope.names.lookup x = some .local := by first | exact .inl rfl | exact .inr rfl | assumption) : DXBN X k (.Assign [.Name x pos'] e pos :: rest) (wXSet i w v) := by
  intro W tk
  obtain ⟨t, p, f⟩ := h W tk
  obtain ⟨t2, p2, f2⟩ := h2
  refine ⟨_, pss_cons (ps_set hN hi hx p hs hf) p2, fun r Z H σ ρ d Ed E O L qe h => ?_⟩
  exact f r Z H σ ρ _ _ _ O h (fun x v Z1 H1 s1 r1 h1 => f2 r Z1 H1 _ _ d E ((O.stp s1).set r1) L h1) qe
theorem dxbn_expr {w : WXE} {v : WS} (h : DXEN X k e w) (h2 : DB X k.still rest v) (hs : swapsWith e none pos.line X.env = pure false := by rfl) : DXBN X k (.Expr e pos :: rest) (wXDrop w v) := by
  intro W tk
  obtain ⟨t, p, f⟩ := h W tk
  obtain ⟨t2, p2, f2⟩ := h2
  refine ⟨_, pss_cons (ps_expr p hs) p2, fun r Z H σ ρ d Ed E O L qe h => ?_⟩
  exact f r Z H σ ρ _ _ _ O h (fun x v Z1 H1 s1 r1 h1 => f2 r Z1 H1 _ _ d E (O.stp s1) L h1) qe
theorem DXBN.ps {sts : List Stmt} {w : WXB} {W : WX} (h : DXBN X k sts w) (tk : L2N.Takes X W) : PSs X sts (tXB (wc X k.s) k w W) := by
  refine ⟨fun pins s σ H E I ⟨r, Z, ρ, d, Ed, O, L, qe, hu⟩ => ?_⟩
  obtain ⟨t, p, f⟩ := h W tk
  exact p.run pins s σ H E I (f r Z H σ ρ d Ed E O L qe hu)
theorem ds_tryN {i : Nat} {x n : Str} {C : Addr} {wb : WXB} {sw : Addr → Option Addr → WS} {b₀ : Stmt} {body suite : List Stmt} {np pos' tpos : Pos}
    (hN : X.N.Nodup) (hm0 : X.mg x = some (.ref C)) (hex : PySem.W.exmOne X.K (.ref C) (.ref C) = some true)
    (hbd : ∀ (pn : List (Addr × Obj)) (xe : Value → Shared → Prop), DXBN (X.tr pn xe) k body wb)
    (hsu : ∀ (a : Addr) (od : Option Addr) (oe : Obj) (pn : List (Addr × Obj)), L2N.Zn (.ref C) od oe → (∃ vs, oe.data = .fields vs) → DB (X.suite a ((a, oe) :: pn)) k.still (b₀ :: suite) (sw a od))
    (hs : X.stack = X.env :: X.outer := by rfl) (hf : X.env.frame = some X.env.locals := by rfl) (hi : X.N[i]? = some n := by rfl) (hln : X.env.kindOf n = some .local := by rfl) (hc : Gl X x := by rfl) (hxd : (x == ("__debug__" : Str)) = false := by decide) :
    DS X k (.Try body [.ExceptHandler (some (.Name x np)) (some n) (b₀ :: suite) pos'] [] [] tpos) (wTry x i wb sw) := by
  refine ⟨_, L2N.ps_try_as (c := .ref C) (tb := fun W => tXB (wc X k.s) k wb W) (ts := fun a cl d => tSc (wc X k.s) k.still cl C (sw a d)) (Wout := fun _ _ _ _ => False) hs hf hN hi hln ⟨hc, hxd, .inl hm0⟩ takesN0 (fun W pn xe tk _ => (hbd pn xe).ps (X := X.tr pn xe) tk) (fun a oe cls d pn hz hv => ?_), fun r Z H σ ρ d E O L h => ?_⟩
  · refine ⟨fun pins s σ H E I ⟨ec, r, Z, ρ, dd, O, L, hu⟩ => ?_⟩
    subst ec
    obtain ⟨t, p, f⟩ := hsu a d oe pn hz hv
    exact p.run pins s σ H E I (f r Z H σ ρ dd E O L hu)
  · refine ⟨r, Z, ρ, d, _, O.still, L.still O.unstill, fun ex cls od Z' H' st er hd => ?_, h⟩
    obtain ⟨e1, hsw⟩ := hd
    have er0 := er
    obtain ⟨C', hC, rfl, hfs⟩ := er
    rw [e1] at hC
    have eC : C' = C := by
      have hC2 : X.mg x = some (.ref C') := hC
      rw [hm0] at hC2
      cases hC2 <;> rfl
    subst eC
    have hsome : ex.fs.isSome = od.isSome := by
      cases q : ex.fs with
      | none =>
        rw [q] at hfs
        rw [show od = none from hfs]
        rfl
      | some ds =>
        rw [q] at hfs
        obtain ⟨d, _, rfl, _⟩ := hfs
        rfl
    have O2 := (O.stp st).still
    refine ⟨true, hex, fun _ a ha => ⟨rfl, r, Z', ρ.set i (.val (ex.slot a od)), _, O2.set (Exn.rp er0), ⟨?_, ?_, ?_, ?_⟩, hsw a od hsome⟩, fun z => by cases z⟩
    · exact fun Z3 H3 σ3 ρ3 O3 h3 => L.nx Z3 H3 _ _ (O.back O3) h3
    · exact L.rt
    · exact fun Z3 H3 σ3 ρ3 O3 h3 => L.bk Z3 H3 _ _ (O.back O3) h3
    · exact fun Z3 H3 σ3 ρ3 O3 h3 => L.ct Z3 H3 _ _ (O.back O3) h3
/-- a def called while an error is handled -/
theorem fn_dH {P : Program} {w : World} {K : PySem.W.Frag} {mg : Str → Option Value} {base : Heap} {x qual : Str} {st : Stmt} {f : Addr} {fd : FuncData} {N ps : List Str} {n : Nat} {spec : SpecD} (F : Fun K x qual st f fd) (S : FnScope N ps (defScope st)) (hl : ∀ ds Q E, spec ds Q E → ds.length = ps.length) (hn : ps.length ≤ N.length) (W : WS)
    (hb : ∀ (cdv : Value) (A : Around) (outer : List Env) (s : Shared) (H : Hp) (E : XK) (p : Addr × Obj) (k : Cc), L2H.Hot1 A p → L2H.RoomH n (A.deeper (envOfC qual (defScope st) s.heap.objs.size f cdv)) → DB (L2H.cxH CX0 P w K mg base N qual (defScope st) f cdv A outer s H E p) k (defBody st) W)
    (hW : ∀ ds Q E, spec ds Q E → W { nx := fun _ => Q .non, rt := Q } (ρ0 N.length ds)) : L2H.FnH P w K mg base CX0 (n + 1) f fd ps (spD K mg spec) := by
  obtain ⟨oc, od, kV, doc, pm, an, cdv, ct, osl, rfl, lk, hcd⟩ := F.ex
  refine L2H.fn_ofH lk hcd S (fun vs H Q E h => ?_) (fun A outer s H vs Q E p hot hr h => ?_)
  · obtain ⟨s, Z, ds, Qd, Ed, _, h1, h2, _⟩ := h
    rw [h1.length]
    exact hl _ _ _ h2
  · obtain ⟨s', Z, ds, Qd, Ed, b, h1, h2, h3, _⟩ := h
    obtain ⟨t, pt, q⟩ := hb cdv A outer s H E p ⟨s', fun _ => False, fun _ _ _ => False⟩ hot hr
    refine ⟨t, pt, q ⟨Z, H, Z⟩ Z H (L2.start N vs) (ρ0 N.length ds) _ _ (start_ok (c := ⟨K, mg, s'⟩) b h1 (by rw [hl _ _ _ h2]; exact hn) (fun _ _ _ _ _ _ _ z => z.elim)) ⟨?_, ?_, ?_, ?_⟩ (hW ds Qd Ed h2)⟩
    · exact fun Z' H' σ ρ O hq => h3 .non .non Z' H' O.en .non hq
    · exact fun Z' H' v x st _ rx hq => h3 x v Z' H' st rx hq
    · exact fun _ _ _ _ _ z => z.elim
    · exact fun _ _ _ _ _ z => z.elim
theorem de_callH {n : Nat} {f : Addr} {fd : FuncData} {ps : List Str} {spec : SpecD} {x : Str} {u : WA} (F : L2H.FnH X.prog X.w X.K X.mg X.base CX0 n f fd ps (spD X.K X.mg spec)) (hr : L2H.RoomH n X.A) (hc : L2H.HotC X) (hm : X.mg x = some (.ref f)) (hk : PySem.W.keepIn X.K (.ref f) = true) (hb : Binds X.K fd ps []) (ha : DA X k (e :: es) u)
    (hg : Gl X x := by rfl) (hdb : (x == ("__debug__" : Str)) = false := by decide) (he : starEach (e :: es) X.env = (false, eval e X.env) :: starEach es X.env := by rfl) (hpl : (backTo pos (starEach es X.env)).any (·.1) = false := by rfl) :
    DE X k (.Call (.Name x p) (e :: es) [] pos) (wCall0 spec u) := by
  obtain ⟨t, pa, g⟩ := ha
  refine ⟨_, L2H.pe_callH (E := fun _ _ _ _ => False) F hr hc hg hm hk hb (fun _ _ _ _ _ _ _ z => z.elim) pa hdb he hpl, fun r Z H σ ρ Qd Q O h q => ?_⟩
  refine g r Z H σ ρ _ _ O h fun ds vs Z1 H1 s1 r1 h1 => ?_
  exact ⟨k.s, Z1, ds, Qd, fun _ => False, s1.bs, r1, h1, fun d v Z' H' st rv qd => q d v Z' H' (s1.trans st O.bs.st) rv qd, fun _ _ _ _ _ _ _ z => z.elim⟩
/-- the suite of ds_tryN bears the handled error -/
theorem hot_suite {a : Addr} {od : Option Addr} {C : Addr} {oe : Obj} {pn : List (Addr × Obj)} (hz : L2N.Zn (.ref C) od oe) (hf : ∃ vs, oe.data = .fields vs) : L2H.HotC (X.suite a ((a, oe) :: pn)) := by
  obtain ⟨vs, hv⟩ := hf
  exact ⟨(a, oe), ⟨rfl, vs, hv, hz.2.2 vs hv⟩, List.mem_cons_self⟩
theorem fn_dxN {P : Program} {w : World} {K : PySem.W.Frag} {mg : Str → Option Value} {base : Heap} {x qual : Str} {st : Stmt} {f : Addr} {fd : FuncData} {N ps : List Str} {n : Nat} {spec : SpecD} (F : Fun K x qual st f fd) (S : FnScope N ps (defScope st))
    (hl : ∀ ds Q E, spec ds Q E → ds.length = ps.length) (hn : ps.length ≤ N.length) (W : (Exn → Prop) → WS)
    (hb : ∀ (cdv : Value) (A : Around) (outer : List Env) (s : Shared) (H : Hp) (k : Cc), Room n (A.deeper (envOfC qual (defScope st) s.heap.objs.size f cdv)) →
      DB (cxOf (L2N.CX P w) P w K mg base N qual (defScope st) f cdv A outer s H k.xk) k (defBody st) (W k.xd))
    (hW : ∀ ds Q E, spec ds Q E → W E { nx := fun _ => Q .non, rt := Q } (ρ0 N.length ds)) : FnOk P w K mg base (L2N.CX P w) (n + 1) f fd ps (spD K mg spec) := by
  obtain ⟨oc, od, kV, doc, pm, an, cdv, ct, osl, rfl, lk, hcd⟩ := F.ex
  refine fn_of lk hcd S (fun vs H Q E h => ?_) (fun A outer s H vs Q E hr h => ?_)
  · obtain ⟨s, Z, ds, Qd, Ed, _, h1, h2, _⟩ := h
    rw [h1.length]
    exact hl _ _ _ h2
  · obtain ⟨s', Z, ds, Qd, Ed, b, h1, h2, h3, h4⟩ := h
    obtain ⟨t, p, q⟩ := hb cdv A outer s H ⟨s', Ed, E⟩ hr
    refine ⟨t, p, q ⟨Z, H, Z⟩ Z H (L2.start N vs) (ρ0 N.length ds) _ _ (start_ok (c := ⟨K, mg, s'⟩) b h1 (by rw [hl _ _ _ h2]; exact hn) (fun Z' H' ex cls od st e z => h4 ex cls od Z' H' st e z)) ⟨?_, ?_, ?_, ?_⟩ (hW ds Qd Ed h2)⟩
    · exact fun Z' H' σ ρ O hq => h3 .non .non Z' H' O.en .non hq
    · exact fun Z' H' v x st _ rx hq => h3 x v Z' H' st rx hq
    · exact fun _ _ _ _ _ z => z.elim
    · exact fun _ _ _ _ _ z => z.elim
end
end Dl
set_option Elab.async false
set_option linter.all false
set_option maxRecDepth 100000
set_option maxHeartbeats 2000000
namespace Dl
open PySem PySem.Spec PyProof.Rows L2
section
variable {X : Cx} {k : Cc} {a b e c : Expr} {es : List Expr} {wa wb w : WE} {pos p p1 p2 pos2 : Pos} {rest : List Stmt}
/-! ### x += n -/
def wAug (i : Nat) (w : WE) : WS := fun d ρ => Sl.V ρ[i]? fun x => x.I fun m => w ρ fun y => y.I fun n => d.nx (ρ.set i (.val (.int (m + n))))
theorem ds_aug {i : Nat} {x : Str} {pos' : Pos} (hN : X.N.Nodup) (h : DE X k e w) (hi : X.N[i]? = some x := by rfl) (hx : Loc X.env.scope x := by first | exact Or.inl rfl | exact Or.inr rfl)
    (hf : X.fn x = true ∨ X.env.scope.names.lookup x = some .local := by first | exact .inl rfl | exact .inr rfl | assumption) : DS X k (.AugAssign (.Name x pos') .Add e pos) (wAug i w) := by
  obtain ⟨t, pe, f⟩ := h
  refine ⟨_, ps_aug hN hi hx pe ip_add hf, fun r Z H σ ρ d E O L h => ?_⟩
  obtain ⟨x0, e1, h⟩ := Sl.V_ex h
  obtain ⟨m, rfl, h⟩ := D.I_ex h
  obtain ⟨o, e2, v, rfl, r0⟩ := O.sl i _ e1
  cases r0
  refine ⟨_, e2, f r Z H σ ρ _ _ O h fun y v Z1 H1 s1 r1 h1 => ?_⟩
  obtain ⟨n, rfl, h1⟩ := D.I_ex h1
  cases r1
  exact ⟨m, n, rfl, rfl, L.nx Z1 H1 _ _ ((O.stp s1).set (.int _)) h1⟩
/-! ### range(a, b) -/
def rngL (lo hi : Int) : List D := (List.range (hi - lo).toNat).map fun i => .int (lo + (i : Nat))
def wiR2 (wa wb : WE) : WA := fun ρ Q => wa ρ fun x => x.I fun i => wb ρ fun y => y.I fun j => (-1000000 ≤ i ∧ i ≤ 1000000 ∧ -1000000 ≤ j ∧ j ≤ 1000000) ∧ Q (rngL i j)
theorem itd_range2 {c : Wc} (Z : Hp) (i j : Int) : ItD c Z (Itr i (j - i).toNat) (rngL i j) := by
  intro Z2 H2 e b
  have hl : (rngL i j).length = (j - i).toNat := by unfold rngL; rw [List.length_map, List.length_range]
  refine ⟨fun n hn => by rw [hl] at hn; exact hn, fun n hn => by rw [hl] at hn; exact hn, fun n x H' y hn => ?_⟩
  obtain ⟨rfl, rfl⟩ := y
  rw [hl] at hn
  refine ⟨.int (i + (n : Nat)), Z2, ?_, .refl b, .int _⟩
  unfold rngL
  rw [List.getElem?_map, List.getElem?_range hn]
  rfl
theorem di_range2 {tg : Expr} (ha : DE X k a wa) (hb : DE X k b wb) (hg : Gl X "range") (hm : X.mg "range" = none) (hs : starEach [a, b] X.env = [(false, eval a X.env), (false, eval b X.env)] := by rfl) (hs2 : starEach [b] X.env = [(false, eval b X.env)] := by rfl) : DI X k tg (.Call (.Name "range" p) [a, b] [] pos) (wiR2 wa wb) := by
  obtain ⟨t, pa, f⟩ := ha
  obtain ⟨t2, pb, f2⟩ := hb
  refine ⟨_, pi_range2 hg hm (pa_cons pa (pa_cons pb pa_nil hs2) (by rw [hs, hs2])) hs hs2, fun r Z H σ ρ Qd R O h q => ?_⟩
  refine f r Z H σ ρ _ _ O h fun d v Z1 H1 s1 r1 h1 => ?_
  obtain ⟨i, rfl, h1⟩ := D.I_ex h1
  cases r1
  refine f2 r Z1 H1 σ ρ _ _ (O.stp s1) h1 fun d v Z2 H2 s2 r2 h2 => ?_
  obtain ⟨j, rfl, ⟨b1, b2, b3, b4⟩, h3⟩ := D.I_ex h2
  cases r2
  exact ⟨i, j, rfl, by omega, q _ Z2 H2 _ (s1.trans s2 O.bs.st) (itd_range2 _ i j) h3⟩
/-! ### s.startswith(t, i) -/
def wSt3 (w u v : WE) : WE := fun ρ Q => w ρ fun d => d.S fun z => u ρ fun y => y.S fun t => v ρ fun j => j.I fun i => Q (.bl (Txt.startswith3 z t i))
theorem de_st3 {o e f : Expr} {apos : Pos} {u v : WE} (h : DE X k o w) (h2 : DE X k e u) (h3 : DE X k f v) (hbase : attributeBase o "startswith" X.env (eval o X.env) = eval o X.env := by rfl) (hline : (apos.endLine == pos.line) = true := by rfl)
    (s1 : starEach [e, f] X.env = (false, eval e X.env) :: starEach [f] X.env := by rfl) (s2 : starEach [f] X.env = (false, eval f X.env) :: starEach [] X.env := by rfl)
    (pb : ∀ {to : TE} {ta : TA} {r : V → List V → Hp → VK → Prop}, MtR X "str.startswith" r → PE X o to → PA X [e, f] ta → PE X (.Call (.Attribute o "startswith" apos) [e, f] [] pos) (tBM X.K "str" r to ta) := by intro _ _ _ m h1 h2; exact pe_bm PySem.F.plainAttrs_str PySem.F.slot_str_startswith PySem.F.type_str_startswith m h1 h2) :
    DE X k (.Call (.Attribute o "startswith" apos) [e, f] [] pos) (wSt3 w u v) := by
  obtain ⟨t, pa, f1⟩ := h
  obtain ⟨t2, pb2, f2⟩ := h2
  obtain ⟨t3, pc, f3⟩ := h3
  refine ⟨_, pb mt_startswith3 pa (pa_cons pb2 (pa_cons pc pa_nil s2) s1), fun r Z H σ ρ Qd Q O h q => ?_⟩
  refine f1 r Z H σ ρ _ _ O h fun x v Z1 H1 s1 r1 h1 => ?_
  obtain ⟨z, rfl, h1⟩ := D.S_ex h1
  cases r1
  refine ⟨rfl, f2 r Z1 H1 σ ρ _ _ (O.stp s1) h1 fun y u Z2 H2 s2 r2 h2 => ?_⟩
  obtain ⟨y, rfl, h2⟩ := D.S_ex h2
  cases r2
  have s12 := s1.trans s2 O.bs.st
  refine f3 r Z2 H2 σ ρ _ _ (O.stp s12) h2 fun j w Z3 H3 s3 r3 h3 => ?_
  obtain ⟨i, rfl, h3⟩ := D.I_ex h3
  cases r3
  exact ⟨z, y, i, rfl, rfl, q _ _ Z3 H3 (s12.trans s3 O.bs.st) (.bl _) h3⟩
/-! ### int(text) -/
def rdCints : RAD := fun ds Q => match ds with
  | [.str s] => s.length ≤ 640 ∧ ∃ n, PySem.intText? s = some n ∧ Q (.int n)
  | _ => False
theorem de_Cints {u : WA} (hm : X.mg "int" = none) (ha : DA X k [e] u) (hg : Gl X "int" := by rfl) (he : starEach [e] X.env = (false, eval e X.env) :: starEach [] X.env := by rfl) : DE X k (.Call (.Name "int" p) [e] [] pos) (wCB rdCints u) := by
  refine de_ty call_int_str ?_ hm PyProof.Rows.boot_int ha hg (by decide) (by decide) he
  intro Z H xs ds Qd Q B ra h q
  match ds, xs, ra, h with
  | [.str s], [_], .cons (.str _) .nil, h => obtain ⟨hl, n, e, h⟩ := h; exact ⟨s, n, rfl, e, hl, q _ _ Z H (.refl B) (.int _) h⟩
/-! ### text * n -/
def rdRep : R2D := fun a b Q => a.S fun x => b.I fun n => (x.length ≤ 16 ∧ 0 ≤ n ∧ n ≤ 1000) ∧ Q (.str (Txt.mul x n))
theorem op_rep_str : OpR X (binaryOp .Mult) (fun x y H Q => ∃ s n, x = .str s ∧ y = .int n ∧ (s.length ≤ 16 ∧ 0 ≤ n ∧ n ≤ 1000) ∧ Q (.str (Txt.mul s n)) H) := by
  intro pins s σ H x y v u Q I rx ry h
  obtain ⟨i, j, rfl, rfl, ⟨h1, h2, h3⟩, q⟩ := h
  obtain ⟨t, rfl⟩ := rx
  obtain ⟨t', rfl⟩ := ry
  exact PySem.W.KXi.mul rfl h1 (by omega) (by omega) (fun t' tk _ _ => ⟨.str (Txt.mul i j), H, I.tok _, ⟨_, rfl⟩, q⟩)
theorem de_rep (ha : DE X k a wa) (hb : DE X k b wb) : DE X k (.BinOp a .Mult b pos) (wOp rdRep wa wb) := by
  refine de_op op_rep_str ?_ ha hb
  intro Z H x y a b Qd Q B ra rb h q
  obtain ⟨s, rfl, h⟩ := D.S_ex h
  obtain ⟨n, rfl, h1, h2⟩ := D.I_ex h
  cases ra
  cases rb
  exact ⟨s, n, rfl, rfl, h1, q _ _ Z H (.refl B) (.str _) h2⟩
end
/-! ### loops by a measure, the rest of the loop kept shut -/
theorem wh_rule {w : WT} {u : WS} {d : DEnds} (P : Nat → En → Prop)
    (step : ∀ (m : Nat) (ρ : En) (N : En → Prop), P m ρ → (∀ m' ρ', m' < m → P m' ρ' → N ρ') → w ρ fun b => if b = true then u { nx := N, rt := d.rt, bk := d.nx, ct := N } ρ else d.nx ρ) {m : Nat} {ρ : En} (h : P m ρ) : wWhile w u d ρ := by
  have key : ∀ (n m : Nat) (ρ : En), m < n → P m ρ → wWhN w u n d ρ := by
    intro n
    induction n with
    | zero => intro m ρ h; omega
    | succ n ih => exact fun m ρ hm hp => step m ρ (wWhN w u n d) hp fun m' ρ' h1 h2 => ih m' ρ' (by omega) h2
  exact ⟨m + 1, key (m + 1) m ρ (Nat.lt_succ_self m) h⟩
theorem for_rule {g : WG} {u : WS} {d : DEnds} (P : List D → En → Prop)
    (step : ∀ (x : D) (xs : List D) (ρ : En) (N : En → Prop), P (x :: xs) ρ → (∀ ρ', P xs ρ' → N ρ') → g x ρ fun ρ1 => u { nx := N, rt := d.rt, bk := d.nx, ct := N } ρ1) (he : ∀ ρ, P [] ρ → d.nx ρ) : ∀ (xs : List D) (ρ : En), P xs ρ → wForL g u xs d ρ
  | [], ρ, h => he ρ h
  | x :: xs, ρ, h => step x xs ρ (wForL g u xs d) h fun ρ' h' => for_rule P step he xs ρ' h'
end Dl
set_option Elab.async false
set_option linter.all false
set_option maxRecDepth 100000
set_option maxHeartbeats 2000000
namespace K5
open PySem PySem.Spec PyProof.Rows L2 Dl
/-! ### names, numbers, words: the mathematics -/
def mk (l : List Nat) : Str := ⟨l.toArray⟩
def isLet (c : Nat) : Bool := decide (97 ≤ c ∧ c ≤ 122) || decide (65 ≤ c ∧ c ≤ 90)
def isNam (c : Nat) : Bool := isLet c || decide (48 ≤ c ∧ c ≤ 57) || decide (c = 95)
def nameL : List Nat → Bool
  | [] => false
  | c :: r => decide (r.length ≤ 29) && isLet c && (c :: r).all isNam
def nameS (s : Str) : Bool := nameL (cs s)
def plain (c : Nat) : Bool := decide (32 ≤ c ∧ c ≤ 126 ∧ c ≠ 37)
def fitsD (sc : Str) : D → Bool
  | .bl _ => decide (sc = "Truth")
  | .int i => decide (sc = "Int") && decide (-2147483648 ≤ i ∧ i ≤ 2147483647)
  | .str s => decide (sc = "Text") && (cs s).all plain
  | _ => false
def isDig (c : Nat) : Bool := decide (48 ≤ c ∧ c ≤ 57)
def isBlk (c : Nat) : Bool := decide (c ∈ cs " \n,")
def isSg (c : Nat) : Bool := decide (c ∈ cs "{}():=![]@")
def gd (c : Nat) : Bool := plain c || decide (c = 10)
def noQ (c : Nat) : Bool := !decide (c = 34)
def run (p : Nat → Bool) (l : List Nat) : Nat := (l.takeWhile p).length
abbrev WR := Option (Str × D × Nat)
def numV (l : List Nat) : Int := ((NumText.digitsVal l : Nat) : Int)
def nameW (l : List Nat) : WR := if l.takeWhile isNam = cs "_type" ∨ nameL (l.takeWhile isNam) = true then some ("name", .str (mk (l.takeWhile isNam)), run isNam l) else none
def varW (l : List Nat) : WR := if nameL ((l.drop 1).takeWhile isNam) = true then some ("variable", .str (mk ((l.drop 1).takeWhile isNam)), 1 + run isNam (l.drop 1)) else none
def numW (l : List Nat) : WR :=
  if l.head? = some 45 then (if 1 ≤ run isDig (l.drop 1) ∧ run isDig (l.drop 1) ≤ 10 then some ("number", .int (-numV ((l.drop 1).takeWhile isDig)), 1 + run isDig (l.drop 1)) else none)
  else if 1 ≤ run isDig l ∧ run isDig l ≤ 10 then some ("number", .int (numV (l.takeWhile isDig)), run isDig l) else none
def txtW (l : List Nat) : WR := if 34 ∈ l.drop 1 ∧ ((l.drop 1).takeWhile noQ).all plain = true then some ("text", .str (mk ((l.drop 1).takeWhile noQ)), 1 + run noQ (l.drop 1) + 1) else none
def wordL (l : List Nat) : WR := match l with
  | [] => none
  | c :: r =>
    if isSg c = true then some ("sign", .str ⟨#[c]⟩, 1)
    else if (c :: r).take 3 = [46, 46, 46] then some ("sign", .str "...", 3)
    else if c = 34 then txtW (c :: r)
    else if c = 36 then varW (c :: r)
    else if c = 45 ∨ isDig c = true then numW (c :: r)
    else nameW (c :: r)
def splF : Nat → Nat → List Nat → Nat ⊕ List D
  | 0, _, _ => .inr []
  | _ + 1, _, [] => .inr []
  | f + 1, i, c :: r => if isBlk c = true then splF f (i + 1) r else match wordL (c :: r) with
    | none => .inl i
    | some (k, d, n) => match splF f (i + n) ((c :: r).drop n) with
      | .inl j => .inl j
      | .inr ws => .inr (.tup [.int (i : Nat), .str k, d] :: ws)
def spl (i : Nat) (l : List Nat) : Nat ⊕ List D := splF l.length i l
def encS : Nat ⊕ List D → D
  | .inl j => .tup [.str "fault", .int (j : Nat)]
  | .inr ws => .tup [.str "words", .lst ws]
def flt (i : Nat) : Exn := ⟨"InvalidDocument", some [("place", .int (i : Nat))]⟩
def outW (i : Nat) (o : WR) (Q : D → Prop) (E : Exn → Prop) : Prop := match o with
  | some (k, d, n) => Q (.tup [.str k, d, .int ((i + n : Nat) : Int)])
  | none => E (flt i)
def outL (i : Nat) (o : WR) (Q : D → Prop) : Prop := match o with
  | some (k, d, n) => Q (.tup [.str "word", .tup [.str k, d], .int ((i + n : Nat) : Int)])
  | none => Q (.tup [.str "fault", .int (i : Nat)])
/-- what an error keeps as its place -/
def goodF (lit : Str) (v : V) : Prop := ∃ i : Int, v = .int i ∧ i.natAbs.log2 < 1920 ∧ (lit ++ (toString i : Str)).length ≤ 1000000
/-! ### the promises -/
def sp_is_name : SpecD := fun ds Q _ => ∃ t : Str, ds = [.str t] ∧ t.length ≤ 1000 ∧ Q (.bl (nameS t))
def sp_is_plain : SpecD := fun ds Q _ => ∃ i : Int, ds = [.int i] ∧ Q (.bl (decide (32 ≤ i ∧ i ≤ 126 ∧ i ≠ 37)))
def sp_fits : SpecD := fun ds Q _ => ∃ (sc : Str) (v : D), ds = [.str sc, v] ∧ (∃ t, tyN v = some t) ∧ (∀ s, v = .str s → s.length ≤ 1000) ∧ Q (.bl (fitsD sc v))
def sp_may_follow : SpecD := fun ds Q _ => ∃ c : Nat, ds = [.str ⟨#[c]⟩] ∧ Q (.bl (isNam c))
def sp_is_digit : SpecD := fun ds Q _ => ∃ c : Nat, ds = [.str ⟨#[c]⟩] ∧ Q (.bl (isDig c))
def sp_end_of_name : SpecD := fun ds Q _ => ∃ (t : Str) (i : Nat), ds = [.str t, .int (i : Nat)] ∧ i ≤ t.length ∧ t.length ≤ 1000 ∧ Q (.int ((i + run isNam ((cs t).drop i) : Nat) : Int))
def sp_rd (w : List Nat → WR) : SpecD := fun ds Q E => ∃ (t : Str) (i : Nat), ds = [.str t, .int (i : Nat)] ∧ i < t.length ∧ t.length ≤ 1000 ∧ outW i (w ((cs t).drop i)) Q E
def sp_read_name : SpecD := sp_rd nameW
def sp_read_number : SpecD := sp_rd numW
def sp_read_variable : SpecD := sp_rd varW
def sp_read_text : SpecD := sp_rd txtW
def sp_read_word : SpecD := sp_rd wordL
def sp_split_words : SpecD := fun ds Q E => ∃ t : Str, ds = [.str t] ∧ t.length ≤ 1000 ∧ match spl 0 (cs t) with
  | .inl j => E (flt j)
  | .inr ws => Q (.lst ws)
def sp_l_is_integer : SpecD := fun ds Q _ => ∃ v : D, ds = [v] ∧ (∃ t, tyN v = some t) ∧ Q (.bl (match v with
  | .int _ => true
  | _ => false))
def sp_l_refill : SpecD := fun ds Q _ => ∃ (ns : List Int) (k : Int), ds = [.scr ns, .int k] ∧ 0 ≤ k ∧ ∀ v, 0 ≤ v → Q (.int v)
def sp_l_draw : SpecD := fun ds Q _ => ∃ (ns : List Int) (n : Int), ds = [.drw, .scr ns, .int n] ∧ 0 < n ∧ n < 2 ^ 60 ∧ ∀ d, 0 ≤ d → d < n → Q (.int d)
def sp_l_run : SpecD := fun ds Q _ => ∃ (t z : Str) (i : Nat), ds = [.str t, .int (i : Nat), .str z] ∧ i ≤ t.length ∧ t.length ≤ 1000 ∧ Q (.int ((i + run (fun c => decide (c ∈ cs z)) ((cs t).drop i) : Nat) : Int))
def sp_l_named : SpecD := fun ds Q _ => ∃ (t : Str) (i j : Nat), ds = [.str t, .int (i : Nat), .int (j : Nat)] ∧ i ≤ t.length ∧ t.length ≤ 1000 ∧ match nameW ((cs t).drop i) with
  | some (_, d, n) => Q (.tup [.str "word", d, .int ((i + n : Nat) : Int)])
  | none => Q (.tup [.str "fault", .int (j : Nat)])
def sp_l_word_at : SpecD := fun ds Q _ => ∃ (t : Str) (i : Nat), ds = [.str t, .int (i : Nat)] ∧ i < t.length ∧ t.length ≤ 1000 ∧ (∀ c ∈ cs t, gd c = true) ∧ outL i (wordL ((cs t).drop i)) Q
def sp_l_split : SpecD := fun ds Q _ => ∃ t : Str, ds = [.str t] ∧ t.length ≤ 1000 ∧ (∀ c ∈ cs t, gd c = true) ∧ Q (encS (spl 0 (cs t)))
def sp_l_told : SpecD := fun ds Q _ => ∃ t : Str, ds = [.str t] ∧ t.length ≤ 1000 ∧ Q (encS (spl 0 (cs t)))
def sp_l_piece : SpecD := fun ds Q _ => ∃ ns : List Int, ds = [.drw, .scr ns] ∧ ∀ s : Str, s.length ≤ 31 → (∀ c ∈ cs s, gd c = true) → Q (.str s)
/-! ### the words of a text -/
theorem takeWhile_all (p : Nat → Bool) : ∀ l : List Nat, ∀ c ∈ l.takeWhile p, p c = true
  | [], c, h => by cases h
  | a :: r, c, h => by
    rw [List.takeWhile_cons] at h
    split at h
    · rename_i ha
      rcases List.mem_cons.mp h with rfl | h
      · exact ha
      · exact takeWhile_all p r c h
    · cases h
theorem run_le (p : Nat → Bool) : ∀ l : List Nat, run p l ≤ l.length
  | [] => Nat.le_refl _
  | a :: r => by
    unfold run
    rw [List.takeWhile_cons]
    split
    · have := run_le p r
      unfold run at this
      simp only [List.length_cons]
      omega
    · exact Nat.zero_le _
theorem run_cons_t {p : Nat → Bool} {c : Nat} {r : List Nat} (h : p c = true) : run p (c :: r) = run p r + 1 := by
  unfold run
  rw [List.takeWhile_cons, if_pos h, List.length_cons]
theorem run_cons_f {p : Nat → Bool} {c : Nat} {r : List Nat} (h : p c = false) : run p (c :: r) = 0 := by
  unfold run
  rw [List.takeWhile_cons, if_neg (by rw [h]; exact Bool.false_ne_true)]
  rfl
theorem run_congr {p q : Nat → Bool} (h : ∀ c, p c = q c) (l : List Nat) : run p l = run q l := by
  have : p = q := funext h
  rw [this]
theorem take_run (p : Nat → Bool) : ∀ l : List Nat, l.take (run p l) = l.takeWhile p
  | [] => rfl
  | a :: r => by
    cases h : p a with
    | true => rw [run_cons_t h, List.takeWhile_cons, if_pos h, List.take_succ_cons, take_run p r]
    | false => rw [run_cons_f h, List.takeWhile_cons, if_neg (by rw [h]; exact Bool.false_ne_true)]; rfl
theorem mem_tw {p : Nat → Bool} {l : List Nat} {c : Nat} (h : c ∈ l.takeWhile p) : c ∈ l := (List.takeWhile_sublist p).mem h
/-- what is known of a word -/
theorem wordL_ok {l : List Nat} {k : Str} {d : D} {n : Nat} (h : wordL l = some (k, d, n)) : 1 ≤ n ∧ n ≤ l.length ∧ ((k = "number" ∧ ∃ i, d = .int i) ∨ (k ≠ "number" ∧ ∃ s, d = .str s ∧ ∀ c ∈ cs s, c ∈ l ∨ c = 46)) ∧ (k = "sign" ∨ k = "text" ∨ k = "variable" ∨ k = "number" ∨ k = "name") := by
  cases l with
  | nil => cases h
  | cons c r =>
    unfold wordL at h
    simp only at h
    split at h
    · simp only [Option.some.injEq, Prod.mk.injEq] at h
      obtain ⟨rfl, rfl, rfl⟩ := h
      refine ⟨by omega, by simp, .inr ⟨by decide, _, rfl, fun x hx => .inl ?_⟩, by simp⟩
      have : x ∈ [c] := hx
      rw [List.mem_singleton] at this
      rw [this]
      exact List.mem_cons_self
    · split at h
      · rename_i h3
        simp only [Option.some.injEq, Prod.mk.injEq] at h
        obtain ⟨rfl, rfl, rfl⟩ := h
        have hl : ((c :: r).take 3).length = 3 := by rw [h3]; rfl
        rw [List.length_take] at hl
        refine ⟨by omega, by omega, .inr ⟨by decide, _, rfl, fun x hx => .inr ?_⟩, by simp⟩
        have : ∀ x ∈ cs "...", x = 46 := by decide
        exact this x hx
      · split at h
        · unfold txtW at h
          split at h
          · rename_i hq
            simp only [Option.some.injEq, Prod.mk.injEq] at h
            obtain ⟨rfl, rfl, rfl⟩ := h
            have hl := run_le noQ r
            have hlt : run noQ r < r.length := by
              refine Nat.lt_of_le_of_ne hl fun e => ?_
              have e2 := take_run noQ r
              rw [e, List.take_length] at e2
              have hm : 34 ∈ r := hq.1
              rw [e2] at hm
              have := takeWhile_all noQ _ _ hm
              exact absurd this (by decide)
            simp only [List.drop_succ_cons, List.drop_zero, List.length_cons]
            exact ⟨by omega, by omega, .inr ⟨by decide, _, rfl, fun x hx => .inl (List.mem_cons_of_mem _ (mem_tw hx))⟩, by simp⟩
          · cases h
        · split at h
          · unfold varW at h
            split at h
            · simp only [Option.some.injEq, Prod.mk.injEq] at h
              obtain ⟨rfl, rfl, rfl⟩ := h
              have hl := run_le isNam r
              simp only [List.drop_succ_cons, List.drop_zero, List.length_cons]
              exact ⟨by omega, by omega, .inr ⟨by decide, _, rfl, fun x hx => .inl (List.mem_cons_of_mem _ (mem_tw hx))⟩, by simp⟩
            · cases h
          · split at h
            · unfold numW at h
              have hl := run_le isDig r
              have hl2 := run_le isDig (c :: r)
              split at h
              · split at h
                · simp only [Option.some.injEq, Prod.mk.injEq] at h
                  obtain ⟨rfl, rfl, rfl⟩ := h
                  simp only [List.drop_succ_cons, List.drop_zero, List.length_cons]
                  exact ⟨by omega, by omega, .inl ⟨trivial, _, rfl⟩, by simp⟩
                · cases h
              · split at h
                · simp only [Option.some.injEq, Prod.mk.injEq] at h
                  obtain ⟨rfl, rfl, rfl⟩ := h
                  exact ⟨by omega, hl2, .inl ⟨rfl, _, rfl⟩, by simp⟩
                · cases h
            · unfold nameW at h
              split at h
              · rename_i hn
                simp only [Option.some.injEq, Prod.mk.injEq] at h
                obtain ⟨rfl, rfl, rfl⟩ := h
                refine ⟨?_, run_le _ _, .inr ⟨by decide, _, rfl, fun x hx => .inl (mem_tw hx)⟩, by simp⟩
                unfold run
                rcases hn with hn | hn
                · rw [hn]; decide
                · cases e : (c :: r).takeWhile isNam with
                  | nil => rw [e] at hn; cases hn
                  | cons a b => simp
              · cases h
theorem splF_eq : ∀ (f g : Nat) (i : Nat) (l : List Nat), l.length ≤ f → l.length ≤ g → splF f i l = splF g i l
  | 0, 0, i, l, _, _ => rfl
  | 0, g + 1, i, [], _, _ => rfl
  | f + 1, 0, i, [], _, _ => rfl
  | f + 1, g + 1, i, [], _, _ => rfl
  | f + 1, g + 1, i, c :: r, h1, h2 => by
    simp only [List.length_cons] at h1 h2
    unfold splF
    split
    · exact splF_eq f g _ r (by omega) (by omega)
    · cases hw : wordL (c :: r) with
      | none => rfl
      | some x =>
        obtain ⟨k, d, n⟩ := x
        have hn := wordL_ok hw
        simp only [List.length_cons] at hn
        simp only
        rw [splF_eq f g (i + n) ((c :: r).drop n) (by rw [List.length_drop, List.length_cons]; omega) (by rw [List.length_drop, List.length_cons]; omega)]
theorem spl_nil (i : Nat) : spl i [] = .inr [] := rfl
theorem spl_blk {i c : Nat} {r : List Nat} (h : isBlk c = true) : spl i (c :: r) = spl (i + 1) r := by
  unfold spl
  rw [List.length_cons]
  show (if isBlk c = true then splF r.length (i + 1) r else _) = _
  rw [if_pos h]
theorem spl_word {i c : Nat} {r : List Nat} (h : isBlk c = false) : spl i (c :: r) = match wordL (c :: r) with
    | none => .inl i
    | some (k, d, n) => match spl (i + n) ((c :: r).drop n) with
      | .inl j => .inl j
      | .inr ws => .inr (.tup [.int (i : Nat), .str k, d] :: ws) := by
  unfold spl
  rw [List.length_cons]
  show (if isBlk c = true then splF r.length (i + 1) r else _) = _
  rw [if_neg (by rw [h]; exact Bool.false_ne_true)]
  cases hw : wordL (c :: r) with
  | none => rfl
  | some x =>
    obtain ⟨k, d, n⟩ := x
    have hn := wordL_ok hw
    simp only [List.length_cons] at hn
    simp only
    rw [splF_eq r.length ((c :: r).drop n).length (i + n) ((c :: r).drop n) (by rw [List.length_drop, List.length_cons]; omega) (Nat.le_refl _)]
theorem spl_skip : ∀ (l : List Nat) (i : Nat), spl i l = spl (i + run isBlk l) (l.drop (run isBlk l))
  | [], i => rfl
  | c :: r, i => by
    cases h : isBlk c with
    | true =>
      rw [spl_blk h, run_cons_t h, spl_skip r (i + 1), List.drop_succ_cons]
      congr 1
      omega
    | false => rw [run_cons_f h]; rfl
theorem run_rest (p : Nat → Bool) : ∀ l : List Nat, ∀ c r, l.drop (run p l) = c :: r → p c = false
  | [], c, r, h => by cases h
  | a :: l, c, r, h => by
    cases ha : p a with
    | true => rw [run_cons_t ha, List.drop_succ_cons] at h; exact run_rest p l c r h
    | false =>
      rw [run_cons_f ha] at h
      simp only [List.drop_zero, List.cons.injEq] at h
      rw [← h.1]
      exact ha
/-- the words are of the kinds that the law looks at, and can be compared -/
def wOk (d : D) : Prop := ∃ (i : Int) (k : Str) (v : D), d = .tup [.int i, .str k, v] ∧ ((k = "number" ∧ ∃ i, v = .int i) ∨ (k ≠ "number" ∧ ∃ s, v = .str s)) ∧ PyData.strOk k = true ∧ v.fit = true ∧ v.dep = 0
theorem strOk_lt {s : Str} (h : ∀ c ∈ cs s, c < 128) : PyData.strOk s = true := by
  unfold PyData.strOk
  rw [← Array.all_toList, List.all_eq_true]
  intro c hc
  have := h c hc
  exact decide_eq_true (by omega)
theorem gd_lt {c : Nat} (h : gd c = true) : c < 128 := by
  unfold gd plain at h
  simp only [Bool.or_eq_true, decide_eq_true_eq] at h
  omega
theorem spl_ok : ∀ (m : Nat) (l : List Nat) (i : Nat) (ws : List D), l.length ≤ m → (∀ c ∈ l, gd c = true) → spl i l = .inr ws → (∀ d ∈ ws, wOk d) ∧ ws.length ≤ l.length
  | _, [], i, ws, _, _, e => by
    rw [spl_nil] at e
    cases e
    exact ⟨fun d h => (nomatch h), Nat.le_refl _⟩
  | 0, c :: r, i, ws, h, _, _ => by simp at h
  | m + 1, c :: r, i, ws, h, hg, e => by
    simp only [List.length_cons] at h
    cases hb : isBlk c with
    | true =>
      rw [spl_blk hb] at e
      obtain ⟨h1, h2⟩ := spl_ok m r (i + 1) ws (by omega) (fun c h => hg c (List.mem_cons_of_mem _ h)) e
      exact ⟨h1, by simp only [List.length_cons]; omega⟩
    | false =>
      rw [spl_word hb] at e
      cases hw : wordL (c :: r) with
      | none => rw [hw] at e; cases e
      | some x =>
        obtain ⟨k, d, n⟩ := x
        rw [hw] at e
        simp only at e
        obtain ⟨n1, n2, hk, hkk⟩ := wordL_ok hw
        cases hs : spl (i + n) ((c :: r).drop n) with
        | inl j => rw [hs] at e; cases e
        | inr us =>
          rw [hs] at e
          simp only [Sum.inr.injEq] at e
          subst e
          simp only [List.length_cons] at n2
          obtain ⟨h1, h2⟩ := spl_ok m ((c :: r).drop n) (i + n) us (by rw [List.length_drop, List.length_cons]; omega) (fun c h => hg c (List.mem_of_mem_drop h)) hs
          rw [List.length_drop, List.length_cons] at h2
          refine ⟨fun d' hd' => ?_, by simp only [List.length_cons]; omega⟩
          rcases List.mem_cons.mp hd' with rfl | hd'
          · refine ⟨_, _, _, rfl, ?_, ?_, ?_⟩
            · rcases hk with hk | ⟨hk, s, e, _⟩
              · exact .inl hk
              · exact .inr ⟨hk, s, e⟩
            · rcases hkk with rfl | rfl | rfl | rfl | rfl <;> decide +kernel
            · rcases hk with ⟨_, j, rfl⟩ | ⟨_, s, rfl, hs⟩
              · exact ⟨rfl, rfl⟩
              · refine ⟨strOk_lt fun c hc => ?_, rfl⟩
                rcases hs c hc with h | h
                · exact gd_lt (hg c h)
                · omega
          · exact h1 d' hd'
theorem wOk_fit : ∀ ws : List D, (∀ d ∈ ws, wOk d) → D.fitA ws = true ∧ D.depA ws ≤ 1
  | [], _ => ⟨rfl, Nat.zero_le _⟩
  | d :: r, h => by
    obtain ⟨h1, h2⟩ := wOk_fit r fun d hd => h d (List.mem_cons_of_mem _ hd)
    obtain ⟨i, k, v, rfl, _, hk, hv, hd⟩ := h d List.mem_cons_self
    constructor
    · simp only [D.fitA, D.fit, hk, hv, h1, Bool.and_self]
    · simp only [D.depA, D.dep, hd]
      omega
theorem encS_ok {l : List Nat} (h : ∀ c ∈ l, gd c = true) : (encS (spl 0 l)).ok := by
  cases e : spl 0 l with
  | inl j => exact ⟨by simp only [encS, D.fit, D.fitA]; decide +kernel, by simp only [encS, D.dep, D.depA]; omega⟩
  | inr ws =>
    obtain ⟨h1, _⟩ := spl_ok _ l 0 ws (Nat.le_refl _) h e
    obtain ⟨h2, h3⟩ := wOk_fit ws h1
    refine ⟨?_, ?_⟩
    · simp only [encS, D.fit, D.fitA, h2]
      decide +kernel
    · simp only [encS, D.dep, D.depA]
      omega
end K5
set_option Elab.async false
set_option linter.all false
set_option maxRecDepth 100000
set_option maxHeartbeats 2000000
namespace K5
open PySem PySem.Spec PyProof.Rows L2 Dl PySem.Builtin.Str
theorem mk_cs (t : Str) : mk (cs t) = t := by
  apply cs_inj
  rfl
theorem cs_mk (l : List Nat) : cs (mk l) = l := rfl
theorem cut_nat (z : Str) (i j : Nat) : cs (cutS z (some (i : Int)) (some (j : Int))) = ((cs z).drop i).take (j - i) := by
  rw [cs_cut, HT.sIx_nat, HT.sIx_nat, ← cs_len]
  by_cases h : i ≤ (cs z).length
  · rw [Nat.min_eq_left h, List.take_eq_take_iff, List.length_drop]
    omega
  · have e : min i (cs z).length = (cs z).length := by omega
    rw [e, List.drop_eq_nil_of_le (Nat.le_refl _), List.drop_eq_nil_of_le (show (cs z).length ≤ i by omega), List.take_nil, List.take_nil]
theorem cut_run (z : Str) (p : Nat → Bool) (i : Nat) : cutS z (some (i : Int)) (some ((i + run p ((cs z).drop i) : Nat) : Int)) = mk (((cs z).drop i).takeWhile p) := by
  apply cs_inj
  rw [cut_nat, cs_mk, show i + run p ((cs z).drop i) - i = run p ((cs z).drop i) by omega, take_run]
theorem at_drop {t : Str} {i : Nat} (h : i < t.length) : ∃ c r, (cs t).drop i = c :: r ∧ (cs t).drop (i + 1) = r ∧ atI t.cps.toList (i : Int) = some c ∧ c ∈ cs t := by
  have hl : i < (cs t).length := by rw [cs_len]; exact h
  refine ⟨(cs t)[i], (cs t).drop (i + 1), List.drop_eq_getElem_cons hl, rfl, atI_nat (List.getElem?_eq_getElem hl), List.getElem_mem hl⟩
theorem drop_all {t : Str} {i : Nat} (h : t.length ≤ i) : (cs t).drop i = [] := List.drop_eq_nil_of_le (by rw [cs_len]; exact h)
theorem from_nat {n i : Nat} : fromIndex n (i : Int) = i := by
  unfold fromIndex
  rw [if_neg (by omega)]
  omega
theorem occ_full (s sub : Str) (hi : Nat) : ∀ (l : List Nat) (st : Array Nat × Nat), st.fst.size = 1 → (forIn l st (PySem.StrLaws.occBody s sub hi 1)).run.fst = st.fst
  | [], st, h => rfl
  | a :: l, st, h => by
    rw [List.forIn_cons]
    unfold PySem.StrLaws.occBody
    rw [if_neg (fun z => by have := z.1.1.1; omega)]
    exact occ_full s sub hi l _ h
theorem occ_first (t : Str) (c : Nat) : ∀ (n lo free : Nat), free ≤ lo → lo + n = t.length + 1 →
    (forIn (List.range' lo n) ((#[] : Array Nat), free) (PySem.StrLaws.occBody t ⟨#[c]⟩ t.length 1)).run.fst.toList = if c ∈ (cs t).drop lo then [lo + run (fun x => !decide (x = c)) ((cs t).drop lo)] else []
  | 0, lo, free, h1, h2 => by
    rw [drop_all (by omega), if_neg (List.not_mem_nil)]
    rfl
  | n + 1, lo, free, h1, h2 => by
    rw [List.range'_succ, List.forIn_cons]
    unfold PySem.StrLaws.occBody
    have key := PySem.StrLaws.subAt_one t c lo
    by_cases hc : (cs t)[lo]? = some c
    · have hk := key.mpr hc
      rw [if_pos ⟨⟨⟨by simp, h1⟩, hk.1⟩, hk.2⟩]
      have e := occ_full t ⟨#[c]⟩ t.length (List.range' (lo + 1) n) ((#[] : Array Nat).push lo, lo + (⟨#[c]⟩ : Str).length) rfl
      have hlt := (List.getElem?_eq_some_iff.mp hc).1
      have hd : (cs t).drop lo = c :: (cs t).drop (lo + 1) := by
        rw [List.drop_eq_getElem_cons hlt]
        rw [List.getElem?_eq_getElem hlt] at hc
        rw [Option.some.inj hc]
      rw [hd, if_pos List.mem_cons_self, run_cons_f (by simp)]
      exact congrArg Array.toList e
    · rw [if_neg (fun z => hc (key.mp ⟨z.1.2, z.2⟩))]
      have ih := occ_first t c n (lo + 1) free (by omega) (by omega)
      have e3 : (if c ∈ (cs t).drop (lo + 1) then [lo + 1 + run (fun x => !decide (x = c)) ((cs t).drop (lo + 1))] else []) = if c ∈ (cs t).drop lo then [lo + run (fun x => !decide (x = c)) ((cs t).drop lo)] else [] := by
        by_cases hlt : lo < t.length
        · obtain ⟨a, r, e1, e2, _, _⟩ := at_drop hlt
          have ha : a ≠ c := fun z => by
            have : (cs t)[lo]? = ((cs t).drop lo)[0]? := by rw [List.getElem?_drop]; rfl
            rw [e1] at this
            exact hc (by rw [this, z]; rfl)
          rw [e1, e2, run_cons_t (by simpa using ha)]
          by_cases hm : c ∈ r
          · rw [if_pos hm, if_pos (List.mem_cons_of_mem _ hm)]
            congr 1
            omega
          · rw [if_neg hm, if_neg (fun z => by
              rcases List.mem_cons.mp z with z | z
              · exact ha z.symm
              · exact hm z)]
        · rw [drop_all (i := lo + 1) (by omega), drop_all (i := lo) (by omega), if_neg List.not_mem_nil, if_neg List.not_mem_nil]
      rw [← e3]
      exact ih
theorem find3_one {t : Str} {c i : Nat} (h : i ≤ t.length) : Txt.find3 t ⟨#[c]⟩ (i : Int) = if c ∈ (cs t).drop i then ((i + run (fun x => !decide (x = c)) ((cs t).drop i) : Nat) : Int) else -1 := by
  unfold Txt.find3
  rw [from_nat, PySem.StrLaws.occ_eq, occ_first t c _ i i (Nat.le_refl _) (by omega)]
  split
  · rename_i k r e
    split at e
    · rename_i hm
      rw [if_pos hm]
      simp only [List.cons.injEq] at e
      rw [← e.1]
    · cases e
  · rename_i e
    split at e
    · cases e
    · rename_i hm
      rw [if_neg hm]
theorem st3_dots {t : Str} {i : Nat} : Txt.startswith3 t "..." (i : Int) = decide (((cs t).drop i).take 3 = [46, 46, 46]) := by
  unfold Txt.startswith3
  rw [from_nat, PySem.StrLaws.subAt_eq]
  show (decide (i + 3 ≤ t.length) && (((cs t).drop i).take 3 == [46, 46, 46])) = _
  by_cases h : ((cs t).drop i).take 3 = [46, 46, 46]
  · have hl : (((cs t).drop i).take 3).length = 3 := by rw [h]; rfl
    rw [List.length_take, List.length_drop, cs_len] at hl
    rw [decide_eq_true h, decide_eq_true (by omega), beq_iff_eq.mpr h]
    rfl
  · rw [decide_eq_false h, beq_eq_false_iff_ne.mpr h, Bool.and_false]
theorem dig_all {l : List Nat} (h : ∀ c ∈ l, isDig c = true) : NumText.AllDigits l := fun c hc => by
  have := h c hc
  unfold isDig at this
  exact of_decide_eq_true this
theorem int_dig {l : List Nat} (h : ∀ c ∈ l, isDig c = true) (h1 : 1 ≤ l.length) (h2 : l.length ≤ 640) : PySem.intText? (mk l) = some (numV l) :=
  intText_digits (x := mk l) (dig_all h) (fun e => by
    have : l = [] := e
    rw [this] at h1
    simp at h1) (by
    have : (mk l).length = l.length := by rw [← cs_len, cs_mk]
    omega)
theorem int_neg {l : List Nat} (h : ∀ c ∈ l, isDig c = true) (h1 : 1 ≤ l.length) (h2 : l.length ≤ 640) : PySem.intText? (mk (45 :: l)) = some (-numV l) :=
  intText_neg (x := mk (45 :: l)) rfl (dig_all h) (fun e => by
    rw [e] at h1
    simp at h1) (by
    have : (mk (45 :: l)).length = l.length + 1 := by rw [← cs_len, cs_mk]; rfl
    omega)
theorem tw_len (p : Nat → Bool) (l : List Nat) : (l.takeWhile p).length = run p l := rfl
theorem mk_len (l : List Nat) : (mk l).length = l.length := by rw [← cs_len, cs_mk]
/-- a text of one sign against a text -/
theorem one_eq (a b : Nat) : ((⟨#[a]⟩ : Str) = ⟨#[b]⟩) = (a = b) := by
  apply propext
  constructor
  · intro h
    have := congrArg cs h
    simpa using this
  · intro h
    rw [h]
theorem sg_eq (c : Nat) (s : Str) (b : Nat) (h : s = ⟨#[b]⟩) : decide ((⟨#[c]⟩ : Str) = s) = decide (c = b) := by
  rw [h]
  exact decide_eq_decide.mpr (by rw [one_eq])
theorem goodF_nat {i : Nat} (h : i ≤ 1000) : goodD (goodF "the document does not fit at place ") (.int (i : Nat)) := by
  intro c Z v r
  cases r
  have key : ∀ j ∈ List.range 1001, ((toString ((j : Nat) : Int) : Str)).length ≤ 10 := by decide +kernel
  refine ⟨_, rfl, ?_, ?_⟩
  · refine Nat.lt_of_le_of_lt (Nat.log2_le_self _) ?_
    show (i : Int).natAbs < 1920
    omega
  · have := key i (List.mem_range.mpr (by omega))
    rw [len_app]
    have e : ("the document does not fit at place " : Str).length = 35 := by decide
    omega
end K5
set_option Elab.async false
set_option linter.all false
set_option maxRecDepth 100000
set_option maxHeartbeats 4000000
namespace K5
open PySem PySem.Spec PyProof.Rows L2 Dl
def W_is_name : WS :=
  (wSeq (wIf (wNotT (wB (wSB Txt.isascii (wVar 0)))) (wRet (wC (.bl false))) wNext)
  (wSeq (wIf (wNotT (wB (wChain rdLe rdLe (wC (.int 1)) (wCB rdLen (wCons (wVar 0) wNil)) (wC (.int (30)))))) (wRet (wC (.bl false))) wNext)
  (wRet (wNameEnd 0))))
def W_is_plain : WS :=
  (wRet (wAndV (wChain rdLe rdLe (wC (.int (32))) (wVar 0) (wC (.int (126)))) (wOp rdNe (wVar 0) (wC (.int (37))))))
def W_fits : WS :=
  (wSeq (wIf (wB (wCB rdIsi (wCons (wVar 1) (wCons (wC (.ty "bool")) wNil)))) (wRet (wOp rdEq (wVar 0) (wC (.str "Truth")))) wNext)
  (wSeq (wIf (wB (wCB rdIsi (wCons (wVar 1) (wCons (wC (.ty "int")) wNil)))) (wRet (wAndV (wOp rdEq (wVar 0) (wC (.str "Int"))) (wChain rdLe rdLe (wC (.int (-2147483648))) (wVar 1) (wC (.int (2147483647)))))) wNext)
  (wSeq (wIf (wB (wCB rdIsi (wCons (wVar 1) (wCons (wC (.ty "str")) wNil)))) (wRet (wAndV (wOp rdEq (wVar 0) (wC (.str "Text"))) (wCB rdAll (wCons (wLc (wiS (wVar 1)) (wgName 2) wYes (wCall0 sp_is_plain (wCons (wCB rdOrd (wCons (wVar 2) wNil)) wNil)) [2]) wNil)))) wNext)
  (wRet (wC (.bl false))))))
def W_may_follow : WS :=
  (wRet (wOrV (wOp rdEq (wVar 0) (wC (.str "_"))) (wAndV (wSB Txt.isascii (wVar 0)) (wSB Txt.isalnum (wVar 0)))))
def W_is_digit : WS :=
  (wRet (wAndV (wSB Txt.isascii (wVar 0)) (wSB Txt.isdigit (wVar 0))))
def W_end_of_name : WS :=
  (wSeq (wSet 2 (wVar 1))
  (wSeq (wWhile (wAndT (wB (wOp rdLt (wVar 2) (wCB rdLen (wCons (wVar 0) wNil)))) (wB (wCall0 sp_may_follow (wCons (wOp rdIx (wVar 0) (wVar 2)) wNil))))
  (wAug 2 (wC (.int 1))))
  (wRet (wVar 2))))
def W_read_name (xd : Exn → Prop) : WS :=
  (wSeq (wSet 2 (wCall0 sp_end_of_name (wCons (wVar 0) (wCons (wVar 1) wNil))))
  (wSeq (wSet 3 (wSl rdSl (wVar 0) (wPart (wVar 1)) (wPart (wVar 2))))
  (wSeq (wIf (wAndT (wB (wOp rdNe (wVar 3) (wC (.str "_type")))) (wNotT (wB (wCall0 sp_is_name (wCons (wVar 3) wNil))))) (wRaiseF "InvalidDocument" "place" (goodF "the document does not fit at place ") xd (wVar 1)) wNext)
  (wRet (wTup (wCons (wC (.str "name")) (wCons (wVar 3) (wCons (wVar 2) wNil))))))))
def W_read_number (xd : Exn → Prop) : WS :=
  (wSeq (wSet 2 (wIfE (wB (wOp rdEq (wOp rdIx (wVar 0) (wVar 1)) (wC (.str "-")))) (wOp rdAdd (wVar 1) (wC (.int 1))) (wVar 1)))
  (wSeq (wSet 3 (wVar 2))
  (wSeq (wWhile (wAndT (wB (wOp rdLt (wVar 3) (wCB rdLen (wCons (wVar 0) wNil)))) (wB (wCall0 sp_is_digit (wCons (wOp rdIx (wVar 0) (wVar 3)) wNil))))
  (wAug 3 (wC (.int 1))))
  (wSeq (wIf (wNotT (wB (wChain rdLe rdLe (wC (.int 1)) (wOp (rdI0 fun i j => .int (i - j)) (wVar 3) (wVar 2)) (wC (.int (10)))))) (wRaiseF "InvalidDocument" "place" (goodF "the document does not fit at place ") xd (wVar 1)) wNext)
  (wRet (wTup (wCons (wC (.str "number")) (wCons (wCB rdCints (wCons (wSl rdSl (wVar 0) (wPart (wVar 1)) (wPart (wVar 3))) wNil)) (wCons (wVar 3) wNil)))))))))
def W_read_variable (xd : Exn → Prop) : WS :=
  (wSeq (wSet 2 (wCall0 sp_end_of_name (wCons (wVar 0) (wCons (wOp rdAdd (wVar 1) (wC (.int 1))) wNil))))
  (wSeq (wSet 3 (wSl rdSl (wVar 0) (wPart (wOp rdAdd (wVar 1) (wC (.int 1)))) (wPart (wVar 2))))
  (wSeq (wIf (wNotT (wB (wCall0 sp_is_name (wCons (wVar 3) wNil)))) (wRaiseF "InvalidDocument" "place" (goodF "the document does not fit at place ") xd (wVar 1)) wNext)
  (wRet (wTup (wCons (wC (.str "variable")) (wCons (wVar 3) (wCons (wVar 2) wNil))))))))
def W_read_text (xd : Exn → Prop) : WS :=
  (wSeq (wSet 2 (wFind (wVar 0) (wC (.str "\"")) (wOp rdAdd (wVar 1) (wC (.int 1)))))
  (wSeq (wSet 3 (wSl rdSl (wVar 0) (wPart (wOp rdAdd (wVar 1) (wC (.int 1)))) (wPart (wVar 2))))
  (wSeq (wIf (wOrT (wB (wOp rdLt (wVar 2) (wC (.int 0)))) (wNotT (wB (wCall0 sp_fits (wCons (wC (.str "Text")) (wCons (wVar 3) wNil)))))) (wRaiseF "InvalidDocument" "place" (goodF "the document does not fit at place ") xd (wVar 1)) wNext)
  (wRet (wTup (wCons (wC (.str "text")) (wCons (wVar 3) (wCons (wOp rdAdd (wVar 2) (wC (.int 1))) wNil))))))))
def W_read_word (xd : Exn → Prop) : WS :=
  (wSeq (wSet 2 (wOp rdIx (wVar 0) (wVar 1)))
  (wSeq (wIf (wB (wOp (rdInS false) (wVar 2) (wC (.str "{}():=![]@")))) (wRet (wTup (wCons (wC (.str "sign")) (wCons (wVar 2) (wCons (wOp rdAdd (wVar 1) (wC (.int 1))) wNil))))) wNext)
  (wSeq (wIf (wB (wSt3 (wVar 0) (wC (.str "...")) (wVar 1))) (wRet (wTup (wCons (wC (.str "sign")) (wCons (wC (.str "...")) (wCons (wOp rdAdd (wVar 1) (wCB rdLen (wCons (wC (.str "...")) wNil))) wNil))))) wNext)
  (wSeq (wIf (wB (wOp rdEq (wVar 2) (wC (.str "\"")))) (wRet (wCall sp_read_text xd (wCons (wVar 0) (wCons (wVar 1) wNil)))) wNext)
  (wSeq (wIf (wB (wOp rdEq (wVar 2) (wC (.str "$")))) (wRet (wCall sp_read_variable xd (wCons (wVar 0) (wCons (wVar 1) wNil)))) wNext)
  (wSeq (wIf (wOrT (wB (wOp rdEq (wVar 2) (wC (.str "-")))) (wB (wCall0 sp_is_digit (wCons (wVar 2) wNil)))) (wRet (wCall sp_read_number xd (wCons (wVar 0) (wCons (wVar 1) wNil)))) wNext)
  (wRet (wCall sp_read_name xd (wCons (wVar 0) (wCons (wVar 1) wNil))))))))))
def W_split_words (xd : Exn → Prop) : WS :=
  (wSeq (wNewL 1)
  (wSeq (wSet 2 (wC (.int 0)))
  (wSeq (wWhile (wB (wOp rdLt (wVar 2) (wCB rdLen (wCons (wVar 0) wNil))))
  (wIf (wB (wOp (rdInS false) (wOp rdIx (wVar 0) (wVar 2)) (wC (.str " \n,")))) (wAug 2 (wC (.int 1))) (wSeq (wAsg (wCall sp_read_word xd (wCons (wVar 0) (wCons (wVar 2) wNil))) (wgTup 3 (wgCons (wgName 3) (wgCons (wgName 4) (wgCons (wgName 5) wgNil)))))
  (wSeq (wApp 1 (wTup (wCons (wVar 2) (wCons (wVar 3) (wCons (wVar 4) wNil)))))
  (wSet 2 (wVar 5))))))
  (wFrzL 1 (wRet (wVar 1))))))
def W_l_is_integer : WS :=
  (wRet (wAndV (wCB rdIsi (wCons (wVar 0) (wCons (wC (.ty "int")) wNil))) (wNotV (wCB rdIsi (wCons (wVar 0) (wCons (wC (.ty "bool")) wNil))))))
def W_l_refill : WS :=
  (wSeq (wSet 2 (wC (.int 0)))
  (wSeq (wIf (wTru (wVar 0)) (wSet 2 (wOp rdIx (wVar 0) (wOp (rdI (fun _ j => 0 < j) fun i j => .int (i % j)) (wVar 1) (wCB rdLen (wCons (wVar 0) wNil))))) wNext)
  (wSeq (wIf (wB (wOp rdLt (wVar 2) (wC (.int 0)))) (wSet 2 (wOp (rdI0 fun i j => .int (i - j)) (wC (.int 1)) (wOp (rdI CMul fun i j => .int (i * j)) (wC (.int 2)) (wVar 2)))) wNext)
  (wSeq (wIf (wAndT (wB (wOp rdGe (wVar 2) (wOp (rdI CPow fun i j => .int (i ^ j.toNat)) (wC (.int 10)) (wC (.int 18))))) (wB (wOp rdLt (wVar 1) (wCB rdLen (wCons (wVar 0) wNil))))) (wRet (wVar 2)) wNext)
  (wRet (wOp (rdI (fun _ j => 0 < j) fun i j => .int (i % j)) (wCB rdCint (wCons (wOp rdAdd (wOp (rdI CMul fun i j => .int (i * j)) (wCB rdCint (wCons (wOp rdAdd (wOp rdAdd (wOp (rdI CMul fun i j => .int (i * j)) (wVar 2) (wC (.int 48271))) (wOp (rdI CMul fun i j => .int (i * j)) (wVar 1) (wC (.int 69621)))) (wC (.int 12345))) wNil)) (wC (.int 40692))) (wC (.int 7))) wNil)) (wC (.int 2147483399))))))))
def W_l_draw : WS :=
  (wSeq (wIf (wB (wOp rdEq (wOp rdIx (wVar 0) (wC (.int 1))) (wC (.int 0)))) (wSeq (wStw (wCall0 sp_l_refill (wCons (wVar 1) (wCons (wOp rdIx (wVar 0) (wC (.int 0))) wNil))) (wVar 0) (wC (.int 1)))
  (wStw (wOp rdAdd (wOp rdIx (wVar 0) (wC (.int 0))) (wC (.int 1))) (wVar 0) (wC (.int 0)))) wNext)
  (wSeq (wSet 3 (wOp (rdI (fun _ j => 0 < j) fun i j => .int (i % j)) (wCB rdCint (wCons (wOp rdIx (wVar 0) (wC (.int 1))) wNil)) (wVar 2)))
  (wSeq (wStw (wOp (rdI CDivW fun i j => .int (i / j)) (wOp rdIx (wVar 0) (wC (.int 1))) (wVar 2)) (wVar 0) (wC (.int 1)))
  (wRet (wVar 3)))))
def W_l_run_b1 : WS :=
  (wIf (wAndT (wB (wOp rdEq (wVar 3) (wVar 4))) (wB (wOp (rdInS false) (wOp rdIx (wVar 0) (wVar 4)) (wVar 2)))) (wSet 3 (wOp rdAdd (wVar 4) (wC (.int 1)))) wNext)
def W_l_run : WS :=
  (wSeq (wSet 3 (wVar 1))
  (wSeq (wFor (wiR2 (wVar 1) (wCB rdLen (wCons (wVar 0) wNil))) (wgName 4)
  W_l_run_b1)
  (wRet (wVar 3))))
def W_l_named : WS :=
  (wSeq (wSet 3 (wC (.str "abcdefghijklmnopqrstuvwxyzABCDEFGHIJKLMNOPQRSTUVWXYZ")))
  (wSeq (wSet 4 (wCall0 sp_l_run (wCons (wVar 0) (wCons (wVar 1) (wCons (wOp rdAdd (wVar 3) (wC (.str "0123456789_"))) wNil)))))
  (wSeq (wSet 5 (wSl rdSl (wVar 0) (wPart (wVar 1)) (wPart (wVar 4))))
  (wSeq (wIf (wAndT (wB (wOp rdNe (wVar 5) (wC (.str "_type")))) (wOrT (wB (wOp rdEq (wVar 5) (wC (.str "")))) (wOrT (wB (wOp (rdInS true) (wOp rdIx (wVar 5) (wC (.int 0))) (wVar 3))) (wB (wOp rdGt (wCB rdLen (wCons (wVar 5) wNil)) (wC (.int 30))))))) (wRet (wTup (wCons (wC (.str "fault")) (wCons (wVar 2) wNil)))) wNext)
  (wRet (wTup (wCons (wC (.str "word")) (wCons (wVar 5) (wCons (wVar 4) wNil)))))))))
def W_l_word_at : WS :=
  (wSeq (wSet 2 (wOp rdIx (wVar 0) (wVar 1)))
  (wSeq (wIf (wB (wOp (rdInS false) (wVar 2) (wC (.str "{}():=![]@")))) (wRet (wTup (wCons (wC (.str "word")) (wCons (wTup (wCons (wC (.str "sign")) (wCons (wVar 2) wNil))) (wCons (wOp rdAdd (wVar 1) (wC (.int 1))) wNil))))) wNext)
  (wSeq (wIf (wB (wOp rdEq (wSl rdSl (wVar 0) (wPart (wVar 1)) (wPart (wOp rdAdd (wVar 1) (wC (.int 3))))) (wC (.str "...")))) (wRet (wTup (wCons (wC (.str "word")) (wCons (wTup (wCons (wC (.str "sign")) (wCons (wC (.str "...")) wNil))) (wCons (wOp rdAdd (wVar 1) (wC (.int 3))) wNil))))) wNext)
  (wSeq (wIf (wB (wOp rdEq (wVar 2) (wC (.str "\"")))) (wSeq (wSet 3 (wFind (wVar 0) (wC (.str "\"")) (wOp rdAdd (wVar 1) (wC (.int 1)))))
  (wSeq (wIf (wOrT (wB (wOp rdLt (wVar 3) (wC (.int 0)))) (wB (wOp (rdInS false) (wC (.str "\n")) (wSl rdSl (wVar 0) (wPart (wVar 1)) (wPart (wVar 3)))))) (wRet (wTup (wCons (wC (.str "fault")) (wCons (wVar 1) wNil)))) wNext)
  (wRet (wTup (wCons (wC (.str "word")) (wCons (wTup (wCons (wC (.str "text")) (wCons (wSl rdSl (wVar 0) (wPart (wOp rdAdd (wVar 1) (wC (.int 1)))) (wPart (wVar 3))) wNil))) (wCons (wOp rdAdd (wVar 3) (wC (.int 1))) wNil))))))) wNext)
  (wSeq (wIf (wB (wOp (rdInS false) (wVar 2) (wC (.str "-0123456789")))) (wSeq (wSet 4 (wOp rdAdd (wVar 1) (wCB rdCint (wCons (wOp rdEq (wVar 2) (wC (.str "-"))) wNil))))
  (wSeq (wSet 3 (wCall0 sp_l_run (wCons (wVar 0) (wCons (wVar 4) (wCons (wC (.str "0123456789")) wNil)))))
  (wSeq (wIf (wOrT (wB (wOp rdEq (wVar 3) (wVar 4))) (wB (wOp rdGt (wVar 3) (wOp rdAdd (wVar 4) (wC (.int 10)))))) (wRet (wTup (wCons (wC (.str "fault")) (wCons (wVar 1) wNil)))) wNext)
  (wSeq (wSet 5 (wCB rdCints (wCons (wSl rdSl (wVar 0) (wPart (wVar 4)) (wPart (wVar 3))) wNil)))
  (wRet (wTup (wCons (wC (.str "word")) (wCons (wTup (wCons (wC (.str "number")) (wCons (wOp (rdI0 fun i j => .int (i - j)) (wVar 5) (wOp (rdI CMul fun i j => .int (i * j)) (wOp (rdI CMul fun i j => .int (i * j)) (wC (.int 2)) (wVar 5)) (wCB rdCint (wCons (wOp rdEq (wVar 2) (wC (.str "-"))) wNil)))) wNil))) (wCons (wVar 3) wNil))))))))) wNext)
  (wSeq (wSet 4 (wOp rdAdd (wVar 1) (wCB rdCint (wCons (wOp rdEq (wVar 2) (wC (.str "$"))) wNil))))
  (wSeq (wSet 6 (wCall0 sp_l_named (wCons (wVar 0) (wCons (wVar 4) (wCons (wVar 1) wNil)))))
  (wSeq (wIf (wOrT (wB (wOp rdEq (wOp rdIx (wVar 6) (wC (.int 0))) (wC (.str "fault")))) (wAndT (wB (wOp rdEq (wVar 2) (wC (.str "$")))) (wB (wOp rdEq (wOp rdIx (wVar 6) (wC (.int 1))) (wC (.str "_type")))))) (wRet (wTup (wCons (wC (.str "fault")) (wCons (wVar 1) wNil)))) wNext)
  (wRet (wTup (wCons (wC (.str "word")) (wCons (wTup (wCons (wOp rdIx (wLst (wCons (wC (.str "name")) (wCons (wC (.str "variable")) wNil))) (wCB rdCint (wCons (wOp rdEq (wVar 2) (wC (.str "$"))) wNil))) (wCons (wOp rdIx (wVar 6) (wC (.int 1))) wNil))) (wCons (wOp rdIx (wVar 6) (wC (.int 2))) wNil)))))))))))))
def W_l_split_b1 : WS :=
  (wIf (wB (wOp rdLt (wVar 2) (wCB rdLen (wCons (wVar 0) wNil)))) (wSeq (wSet 4 (wCall0 sp_l_word_at (wCons (wVar 0) (wCons (wVar 2) wNil))))
  (wSeq (wIf (wB (wOp rdEq (wOp rdIx (wVar 4) (wC (.int 0))) (wC (.str "fault")))) (wRet (wTup (wCons (wC (.str "fault")) (wCons (wOp rdIx (wVar 4) (wC (.int 1))) wNil)))) wNext)
  (wSeq (wApp 1 (wOp rdAdd (wTup (wCons (wVar 2) wNil)) (wOp rdIx (wVar 4) (wC (.int 1)))))
  (wSet 2 (wCall0 sp_l_run (wCons (wVar 0) (wCons (wOp rdIx (wVar 4) (wC (.int 2))) (wCons (wC (.str " \n,")) wNil)))))))) wNext)
def W_l_split : WS :=
  (wSeq (wNewL 1)
  (wSeq (wSet 2 (wCall0 sp_l_run (wCons (wVar 0) (wCons (wC (.int 0)) (wCons (wC (.str " \n,")) wNil)))))
  (wSeq (wFor (wiR (wCB rdLen (wCons (wVar 0) wNil))) (wgName 3)
  W_l_split_b1)
  (wFrzL 1 (wRet (wTup (wCons (wC (.str "words")) (wCons (wVar 1) wNil))))))))
def W_l_piece : WS :=
  (wSeq (wSet 2 (wLst (wCons (wC (.str "query")) (wCons (wC (.str "a")) (wCons (wC (.str "A_1")) (wCons (wC (.str "_type")) (wCons (wC (.str "_")) (wCons (wC (.str "_types")) (wCons (wC (.str "...")) (wCons (wC (.str "..")) (wCons (wC (.str ".")) (wCons (wC (.str "$v")) (wCons (wC (.str "$")) (wCons (wC (.str "$_type")) (wCons (wC (.str "$9")) (wCons (wC (.str "{")) (wCons (wC (.str "}")) (wCons (wC (.str "(")) (wCons (wC (.str ")")) (wCons (wC (.str ":")) (wCons (wC (.str "=")) (wCons (wC (.str "!")) (wCons (wC (.str "[")) (wCons (wC (.str "]")) (wCons (wC (.str "@")) (wCons (wC (.str "@if")) (wCons (wC (.str "-")) (wCons (wC (.str "-7")) (wCons (wC (.str "0")) (wCons (wC (.str "007")) (wCons (wC (.str "1234567890")) (wCons (wC (.str "12345678901")) (wCons (wC (.str "-1234567890")) (wCons (wC (.str "9a")) (wCons (wC (.str "\"")) (wCons (wC (.str "\"x y\"")) (wCons (wC (.str "\"\"")) (wCons (wC (.str "\"{,\n\"")) (wCons (wOp rdRep (wC (.str "n")) (wC (.int 30))) (wCons (wOp rdRep (wC (.str "n")) (wC (.int 31))) (wCons (wC (.str "#")) (wCons (wC (.str "&")) (wCons (wC (.str "on")) (wCons (wC (.str "true")) (wCons (wC (.str "null")) (wCons (wC (.str "\"open")) (wCons (wC (.str "~")) wNil)))))))))))))))))))))))))))))))))))))))))))))))
  (wRet (wOp rdIx (wVar 2) (wCall0 sp_l_draw (wCons (wVar 0) (wCons (wVar 1) (wCons (wC (.int 45)) wNil)))))))
def W_law_b1 : WS :=
  (wSet 2 (wOp rdAdd (wOp rdAdd (wVar 2) (wCall0 sp_l_piece (wCons (wVar 1) (wCons (wVar 0) wNil)))) (wOp rdIx (wLst (wCons (wC (.str "")) (wCons (wC (.str " ")) (wCons (wC (.str ",")) (wCons (wC (.str "\n")) (wCons (wC (.str " , ")) (wCons (wC (.str " ")) wNil))))))) (wCall0 sp_l_draw (wCons (wVar 1) (wCons (wVar 0) (wCons (wC (.int 6)) wNil)))))))
def W_law_b2 : WS :=
  (wIf (wOrT (wB (wCB rdIsi (wCons (wVar 7) (wCons (wC (.ty "bool")) wNil)))) (wB (wOp rdNe (wCB rdIsi (wCons (wVar 7) (wCons (wC (.ty "int")) wNil))) (wOp rdEq (wVar 6) (wC (.str "number")))))) (wRet (wC (.bl false))) wNext)
def W_law_s6 : WS :=
  (wRet (wC (.bl true)))
def W_law_s5 : WS :=
  (wSeq (wFor (wiL (wOp rdIx (wVar 4) (wC (.int 1)))) (wgTup 3 (wgCons (wgName 5) (wgCons (wgName 6) (wgCons (wgName 7) wgNil))))
  W_law_b2)
  W_law_s6)
def W_law_s4 : WS :=
  (wSeq (wIf (wB (wOp rdEq (wOp rdIx (wVar 4) (wC (.int 0))) (wC (.str "fault")))) (wRet (wC (.bl true))) wNext)
  W_law_s5)
def W_law_s3 : WS :=
  (wSeq (wIf (wB (wOp rdNe (wVar 4) (wCall0 sp_l_split (wCons (wVar 2) wNil)))) (wRet (wC (.bl false))) wNext)
  W_law_s4)
def W_law_s2 : WS :=
  (wSeq (wSet 4 (wCall0 sp_l_told (wCons (wVar 2) wNil)))
  W_law_s3)
def W_law_s1 : WS :=
  (wSeq (wFor (wiR (wCall0 sp_l_draw (wCons (wVar 1) (wCons (wVar 0) (wCons (wC (.int 15)) wNil))))) (wgName 3)
  W_law_b1)
  W_law_s2)
def W_law : WS :=
  (wSeq (wSet 2 (wC (.str "")))
  W_law_s1)
end K5
set_option Elab.async false
set_option linter.all false
set_option maxRecDepth 100000
set_option maxHeartbeats 4000000
namespace K5
open PySem PySem.Spec PyProof.Rows L2 Dl
theorem uni_tab : ∀ c ∈ List.range 128, Unicode.isAlpha c = isLet c ∧ Unicode.isAlnum c = (isLet c || decide (48 ≤ c ∧ c ≤ 57)) := by decide +kernel
theorem uni_a {c : Nat} (h : c < 128) : Unicode.isAlpha c = isLet c := (uni_tab c (List.mem_range.mpr h)).1
theorem uni_n {c : Nat} (h : c < 128) : Unicode.isAlnum c = (isLet c || decide (48 ≤ c ∧ c ≤ 57)) := (uni_tab c (List.mem_range.mpr h)).2
theorem all_cs (s : Str) (p : Nat → Bool) : s.cps.all p = (cs s).all p := by rw [← Array.all_toList]
theorem repl_us : ∀ l : List Nat, PySem.StrLaws.replL [95] [48] l = l.map fun c => if c = 95 then 48 else c
  | [] => PySem.StrLaws.replL_nil
  | c :: r => by
    by_cases h : c = 95
    · subst h
      rw [PySem.StrLaws.replL_hit (by simp) (by simp)]
      simp [repl_us r]
    · rw [PySem.StrLaws.replL_miss (by simpa using h), repl_us r]
      simp [h]
theorem isLet_lt {c : Nat} (h : isLet c = true) : c < 128 := by
  unfold isLet at h
  simp only [Bool.or_eq_true, decide_eq_true_eq] at h
  omega
theorem isNam_lt {c : Nat} (h : isNam c = true) : c < 128 := by
  unfold isNam isLet at h
  simp only [Bool.or_eq_true, decide_eq_true_eq] at h
  omega
theorem isNam_rep {c : Nat} (h : c < 128) : Unicode.isAlnum (if c = 95 then 48 else c) = isNam c := by
  by_cases e : c = 95
  · subst e
    rw [if_pos rfl]
    decide +kernel
  · rw [if_neg e, uni_n h]
    unfold isNam
    simp [e]
theorem name_ascii {t : Str} (h : Txt.isascii t = false) : nameS t = false := by
  unfold nameS
  cases e : cs t with
  | nil => rfl
  | cons c r =>
    cases q : nameL (c :: r) with
    | false => rfl
    | true =>
      unfold nameL at q
      simp only [Bool.and_eq_true] at q
      have : Txt.isascii t = true := by
        unfold Txt.isascii
        rw [all_cs, e, List.all_eq_true]
        intro x hx
        have := isNam_lt (List.all_eq_true.mp q.2 x hx)
        simpa using this
      rw [this] at h
      cases h
theorem name_len {t : Str} (h : ¬ (1 ≤ t.length ∧ t.length ≤ 30)) : nameS t = false := by
  unfold nameS
  cases e : cs t with
  | nil => rfl
  | cons c r =>
    have hl := cs_len t
    rw [e, List.length_cons] at hl
    show (decide (r.length ≤ 29) && isLet c && (c :: r).all isNam) = false
    have : decide (r.length ≤ 29) = false := decide_eq_false (by omega)
    rw [this]
    rfl
theorem name_end {t : Str} (h : Txt.isascii t = true) (h1 : 1 ≤ t.length) (h2 : t.length ≤ 30) : nameEnd t = some (nameS t) := by
  unfold nameEnd nameS
  have hl := cs_len t
  cases e : cs t with
  | nil =>
    rw [e] at hl
    simp at hl
    omega
  | cons c r =>
    have e' : t.cps.toList = c :: r := e
    rw [e, List.length_cons] at hl
    simp only [e']
    rw [if_pos (by omega)]
    congr 1
    unfold Txt.isascii at h
    rw [all_cs, e, List.all_eq_true] at h
    have hc : c < 128 := by simpa using h c List.mem_cons_self
    have ha : Txt.isalpha ⟨#[c]⟩ = isLet c := by
      unfold Txt.isalpha
      rw [all_cs]
      simp [Str.length, uni_a hc]
    have hr : (cs (Txt.replace t "_" "0")) = (c :: r).map fun c => if c = 95 then 48 else c := by
      have := PySem.StrLaws.replace_list (x := t) (y := "_") (z := "0") (by decide)
      rw [show cs (Txt.replace t "_" "0") = (Txt.replace t "_" "0").cps.toList from rfl, this, e', ← repl_us]
      rfl
    have hn : Txt.isalnum (Txt.replace t "_" "0") = (c :: r).all isNam := by
      unfold Txt.isalnum
      rw [all_cs, hr, List.all_map]
      have hlen : (Txt.replace t "_" "0").length > 0 := by
        rw [← cs_len, hr]
        simp
      rw [decide_eq_true hlen, Bool.true_and]
      have key : ∀ l : List Nat, (∀ x ∈ l, x < 128) → l.all (Unicode.isAlnum ∘ fun c => if c = 95 then 48 else c) = l.all isNam := by
        intro l
        induction l with
        | nil => intro _; rfl
        | cons a l ih =>
          intro hx
          rw [List.all_cons, List.all_cons, ih fun x m => hx x (List.mem_cons_of_mem _ m)]
          congr 1
          exact isNam_rep (hx a List.mem_cons_self)
      exact key _ fun x hx => by simpa using h x hx
    rw [ha, hn]
    show _ = (decide (r.length ≤ 29) && isLet c && (c :: r).all isNam)
    rw [decide_eq_true (show r.length ≤ 29 by omega), Bool.true_and]
end K5
set_option Elab.async false
set_option linter.all false
set_option maxRecDepth 100000
set_option maxHeartbeats 4000000
namespace K5
open PySem L2 Dl
local macro_rules | `(tactic| walk_at "dw") => `(tactic| simp only [wSB, wSB1, wVar, wC, wOp, wB, wNotT, wAndT, wOrT, wAndV, wOrV, wNotV, wIfE, wChain, wNil, wCons, wTup, wLst, wNext, wSeq, wSet, wAsg, wDrop, wRet, wRetN, wBrk, wCont, wIf, wiL, wiT, wiR, wFor, wCall0, wCall, wCB, wM0, wM1, wNo, wPart, wSl, wYes, wLc, wipeD, wNeg, wTru, wFmt, wJoined, wJs, wRaise1, wStw, wiS, wAug, wiR2, wSt3, wFind, wApp, wNewL, wFrzL, Sl.OL, wRaiseF, rdCints, rdRep, wNameEnd, wgName, wgNil, wgCons, wgTup,
  Sl.V, D.I, D.B, D.S, D.L, D.T, D.K, D.len, D.tru, rdI, rdI0, rdLt, rdLe, rdGt, rdGe, rdEq, rdNe, eqS, rdIsN, rdNotN, rdAdd, rdIx, rdSl, rdInS, rdLen, rdOrd, rdAll, rdAny, rdIsi, rdFmt, rdJoin, rdCint, tyN, ρ0, List.map_cons, List.map_nil, List.length_cons, List.length_nil, List.replicate, List.append, List.cons_append, List.nil_append, List.getElem?_cons_zero, List.getElem?_cons_succ, List.set_cons_zero, List.set_cons_succ, Nat.add_sub_cancel, Nat.sub_self, Nat.zero_add, Nat.reduceAdd, Nat.reduceSub, if_true, if_false, true_and, and_true, decide_true, decide_false, true_or, or_true, ia_NoneType_bool, ia_NoneType_int, ia_NoneType_str, ia_NoneType_list, ia_NoneType_tuple, ia_NoneType_dict, ia_bool_bool, ia_bool_int, ia_bool_str, ia_bool_list, ia_bool_tuple, ia_bool_dict, ia_int_bool, ia_int_int, ia_int_str, ia_int_list, ia_int_tuple, ia_int_dict, ia_str_bool, ia_str_int, ia_str_str, ia_str_list, ia_str_tuple, ia_str_dict, ia_list_bool, ia_list_int, ia_list_str, ia_list_list, ia_list_tuple, ia_list_dict, ia_tuple_bool, ia_tuple_int, ia_tuple_str, ia_tuple_list, ia_tuple_tuple, ia_tuple_dict, ia_dict_bool, ia_dict_int, ia_dict_str, ia_dict_list, ia_dict_tuple, ia_dict_dict, inT_bool, inT_int, inT_str, inT_list, inT_tuple, inT_dict, Bool.not_eq_true, Bool.not_true, Bool.not_false, Bool.false_eq_true, ite_false, ite_true, reduceCtorEq])
theorem len_is_name {ds : List D} {Q : D → Prop} {E : Exn → Prop} (h : sp_is_name ds Q E) : ds.length = (["text"] : List Str).length := by
  obtain ⟨t, rfl, _⟩ := h
  rfl
theorem hw_is_name : ∀ ds Q E, sp_is_name ds Q E → W_is_name { nx := fun _ => Q .non, rt := Q } (ρ0 (["text"] : List Str).length ds) := by
  rintro ds Q E ⟨t, rfl, hl, h⟩
  unfold W_is_name
  walk_at "dw"
  cases ha : Txt.isascii t with
  | false =>
    rw [name_ascii ha] at h
    walk_at "dw"
    exact h
  | true =>
    walk_at "dw"
    rw [if_pos (show t.length ≤ 1000000 by omega)]
    walk_at "dw"
    by_cases h1 : (1 : Int) ≤ (t.length : Int)
    · rw [decide_eq_true h1]
      by_cases h2 : (t.length : Int) ≤ 30
      · rw [decide_eq_true h2]
        walk_at "dw"
        rw [name_end ha (by omega) (by omega)]
        exact h
      · rw [decide_eq_false h2]
        walk_at "dw"
        rw [name_len (by omega)] at h
        exact h
    · rw [decide_eq_false h1]
      walk_at "dw"
      rw [name_len (by omega)] at h
      exact h
theorem len_is_plain {ds : List D} {Q : D → Prop} {E : Exn → Prop} (h : sp_is_plain ds Q E) : ds.length = (["code"] : List Str).length := by
  obtain ⟨t, rfl, _⟩ := h
  rfl
theorem hw_is_plain : ∀ ds Q E, sp_is_plain ds Q E → W_is_plain { nx := fun _ => Q .non, rt := Q } (ρ0 (["code"] : List Str).length ds) := by
  rintro ds Q E ⟨i, rfl, h⟩
  unfold W_is_plain
  walk_at "dw"
  by_cases h1 : (32 : Int) ≤ i
  · rw [decide_eq_true h1]
    walk_at "dw"
    have e : decide (32 ≤ i ∧ i ≤ 126 ∧ i ≠ 37) = if decide (i ≤ 126) = true then !decide (i = 37) else false := by
      by_cases h2 : i ≤ 126 <;> by_cases h3 : i = 37 <;> simp [h1, h2, h3]
    rw [e] at h
    split <;> rename_i h2 <;> simp only [h2, if_true, if_false] at h <;> exact h
  · rw [decide_eq_false h1]
    have e : decide (32 ≤ i ∧ i ≤ 126 ∧ i ≠ 37) = false := decide_eq_false fun z => h1 z.1
    rw [e] at h
    walk_at "dw"
    exact h
theorem plain_cast (c : Nat) : decide ((32 : Int) ≤ (c : Int) ∧ (c : Int) ≤ 126 ∧ (c : Int) ≠ 37) = plain c := decide_eq_decide.mpr (by omega)
theorem sgn_map (s : Str) (f : D → D) (g : Nat → Bool) (h : ∀ c, f (.str ⟨#[c]⟩) = .bl (g c)) : (sgnD s).map f = ((cs s).map g).map .bl := by
  unfold sgnD
  rw [List.map_map, List.map_map]
  exact List.map_congr_left fun c _ => h c
theorem sgn_mem {s : Str} {x : D} (h : x ∈ sgnD s) : ∃ c, c ∈ cs s ∧ x = .str ⟨#[c]⟩ := by
  unfold sgnD at h
  obtain ⟨c, h1, h2⟩ := List.mem_map.mp h
  exact ⟨c, h1, h2.symm⟩
theorem sgn_len (s : Str) : (sgnD s).length = s.length := by
  unfold sgnD
  rw [List.length_map]
  exact cs_len s
def plD : D → D
  | .str z => .bl (plain (z.cps.getD 0 0))
  | d => d
theorem all_id (l : List Bool) : l.all id = l.all fun b => b := rfl
theorem len_fits {ds : List D} {Q : D → Prop} {E : Exn → Prop} (h : sp_fits ds Q E) : ds.length = (["scalar", "value"] : List Str).length := by
  obtain ⟨t, v, rfl, _⟩ := h
  rfl
theorem hw_fits : ∀ ds Q E, sp_fits ds Q E → W_fits { nx := fun _ => Q .non, rt := Q } (ρ0 (["scalar", "value", "sign"] : List Str).length ds) := by
  rintro ds Q E ⟨sc, v, rfl, ⟨ty, ht⟩, hs, h⟩
  unfold W_fits
  walk_at "dw"
  cases v with
  | bl b => walk_at "dw"; exact h
  | int i =>
    walk_at "dw"
    simp only [fitsD] at h
    by_cases e : sc = "Int"
    · rw [decide_eq_true e] at h ⊢
      walk_at "dw"
      by_cases h1 : -2147483648 ≤ i
      · rw [decide_eq_true h1]
        walk_at "dw"
        rw [show decide (-2147483648 ≤ i ∧ i ≤ 2147483647) = decide (i ≤ 2147483647) from decide_eq_decide.mpr ⟨fun z => z.2, fun z => ⟨h1, z⟩⟩] at h
        exact h
      · rw [decide_eq_false h1]
        walk_at "dw"
        rw [show decide (-2147483648 ≤ i ∧ i ≤ 2147483647) = false from decide_eq_false fun z => h1 z.1] at h
        exact h
    · rw [decide_eq_false e] at h ⊢
      walk_at "dw"
      exact h
  | str s =>
    have hl := hs s rfl
    walk_at "dw"
    simp only [fitsD] at h
    by_cases e : sc = "Text"
    · rw [decide_eq_true e] at h ⊢
      walk_at "dw"
      refine ⟨by omega, by rw [sgn_len]; omega, ?_⟩
      refine lcl_map plD _ _ _ (fun x hx K hk => ?_) ?_
      · obtain ⟨c, hc, rfl⟩ := sgn_mem hx
        walk_at "dw"
        refine ⟨rfl, (c : Int), rfl, ?_⟩
        rw [plain_cast]
        exact hk
      · rw [List.nil_append, sgn_map s plD plain fun c => rfl, blA_of]
        walk_at "dw"
        have e2 : ((cs s).map plain).all id = (cs s).all plain := by
          rw [List.all_map]
          rfl
        rw [e2]
        exact h
    · rw [decide_eq_false e] at h ⊢
      walk_at "dw"
      exact h
  | non => walk_at "dw"; exact h
  | lst xs => walk_at "dw"; exact h
  | tup xs => walk_at "dw"; exact h
  | dic xs => walk_at "dw"; exact h
  | ins _ _ => cases ht
  | drw => cases ht
  | scr _ => cases ht
  | ty _ => cases ht
  | rf _ => cases ht
  | exc _ _ _ => cases ht
theorem len_l_is_integer {ds : List D} {Q : D → Prop} {E : Exn → Prop} (h : sp_l_is_integer ds Q E) : ds.length = (["actual"] : List Str).length := by
  obtain ⟨v, rfl, _⟩ := h
  rfl
theorem hw_l_is_integer : ∀ ds Q E, sp_l_is_integer ds Q E → W_l_is_integer { nx := fun _ => Q .non, rt := Q } (ρ0 (["actual"] : List Str).length ds) := by
  rintro ds Q E ⟨v, rfl, ⟨ty, ht⟩, h⟩
  unfold W_l_is_integer
  walk_at "dw"
  cases v <;> first
    | (cases ht; done)
    | (walk_at "dw"; exact h)
theorem refill_fin {c k : Int} {l : Nat} {Q : D → Prop} (hc : 0 ≤ c) (h : ∀ v : Int, 0 ≤ v → Q (.int v)) : CPow 10 18 ∧
    if decide ((10 : Int) ^ Int.toNat 18 ≤ c) = true then
      if decide (k < (l : Int)) = true then Q (D.int c) else CMul c 48271 ∧ CMul k 69621 ∧ CMul (c * 48271 + k * 69621 + 12345) 40692 ∧ (0 : Int) < 2147483399 ∧ Q (D.int (((c * 48271 + k * 69621 + 12345) * 40692 + 7) % 2147483399))
    else CMul c 48271 ∧ CMul k 69621 ∧ CMul (c * 48271 + k * 69621 + 12345) 40692 ∧ (0 : Int) < 2147483399 ∧ Q (D.int (((c * 48271 + k * 69621 + 12345) * 40692 + 7) % 2147483399)) := by
  have e : CMul c 48271 ∧ CMul k 69621 ∧ CMul (c * 48271 + k * 69621 + 12345) 40692 ∧ (0 : Int) < 2147483399 ∧ Q (D.int (((c * 48271 + k * 69621 + 12345) * 40692 + 7) % 2147483399)) :=
    ⟨.inr ⟨by decide, by decide⟩, .inr ⟨by decide, by decide⟩, .inr ⟨by decide, by decide⟩, by decide, h _ (Int.emod_nonneg _ (by decide))⟩
  refine ⟨⟨by decide, by decide, by decide⟩, ?_⟩
  split
  · split
    · exact h c hc
    · exact e
  · exact e
theorem len_l_refill {ds : List D} {Q : D → Prop} {E : Exn → Prop} (h : sp_l_refill ds Q E) : ds.length = (["script", "k"] : List Str).length := by
  obtain ⟨t, v, rfl, _⟩ := h
  rfl
theorem hw_l_refill : ∀ ds Q E, sp_l_refill ds Q E → W_l_refill { nx := fun _ => Q .non, rt := Q } (ρ0 (["script", "k", "cell"] : List Str).length ds) := by
  rintro ds Q E ⟨ns, k, rfl, hk, h⟩
  unfold W_l_refill
  walk_at "dw"
  cases hn : ns with
  | nil => exact refill_fin (l := 0) (Int.le_refl _) h
  | cons n0 r =>
    rw [← hn]
    have hpos : 0 < ns.length := by rw [hn]; simp
    have he : ns.isEmpty = false := by rw [hn]; rfl
    rw [he]
    walk_at "dw"
    refine ⟨by omega, ?_⟩
    have h1 := Int.emod_nonneg k (show (ns.length : Int) ≠ 0 by omega)
    have h2 := Int.emod_lt_of_pos k (show (0 : Int) < ns.length by omega)
    obtain ⟨j, hj⟩ : ∃ j : Nat, k % (ns.length : Int) = (j : Int) := ⟨(k % (ns.length : Int)).toNat, by omega⟩
    have hlt : j < ns.length := by omega
    rw [hj, atI_nat (List.getElem?_eq_getElem hlt)]
    simp only
    generalize ns[j] = c
    by_cases hc : c < 0
    · rw [decide_eq_true hc]
      walk_at "dw"
      exact ⟨.inl ⟨by decide, by decide⟩, refill_fin (by omega) h⟩
    · rw [decide_eq_false hc]
      walk_at "dw"
      exact refill_fin (by omega) h
theorem divw {a n : Int} (h0 : 0 < n) (h1 : n < 2 ^ 60) : CDivW a n := wide_div h0 (b := 60) (by omega) (by decide) (by decide)
theorem len_l_draw {ds : List D} {Q : D → Prop} {E : Exn → Prop} (h : sp_l_draw ds Q E) : ds.length = (["state", "script", "size"] : List Str).length := by
  obtain ⟨t, v, rfl, _⟩ := h
  rfl
theorem hw_l_draw : ∀ ds Q E, sp_l_draw ds Q E → W_l_draw { nx := fun _ => Q .non, rt := Q } (ρ0 (["state", "script", "size", "digit"] : List Str).length ds) := by
  rintro ds Q E ⟨ns, n, rfl, h0, h1, h⟩
  unfold W_l_draw
  walk_at "dw"
  intro a ha
  have fin : ∀ x : Int, Q (D.int (x % n)) := fun x => h _ (Int.emod_nonneg _ (by omega)) (Int.emod_lt_of_pos _ h0)
  by_cases e : a = 0
  · rw [decide_eq_true e]
    walk_at "dw"
    intro b hb
    refine ⟨ns, b, rfl, hb, fun v hv => ?_⟩
    walk_at "dw"
    refine ⟨hv, fun c hc => ⟨by omega, fun d hd => ⟨h0, fun e he => ⟨divw h0 h1, Int.ediv_nonneg he (by omega), fin _⟩⟩⟩⟩
  · rw [decide_eq_false e]
    walk_at "dw"
    exact fun b hb => ⟨h0, fun c hc => ⟨divw h0 h1, Int.ediv_nonneg hc (by omega), fin _⟩⟩
theorem let_all : ∀ c ∈ cs "abcdefghijklmnopqrstuvwxyzABCDEFGHIJKLMNOPQRSTUVWXYZ", isLet c = true := by decide
theorem nam_all : ∀ c ∈ cs "0123456789_", isNam c = true := by decide
theorem let_nam {c : Nat} (h : isLet c = true) : isNam c = true := by
  unfold isNam
  rw [h]
  rfl
theorem let_mem (c : Nat) : decide (c ∈ cs "abcdefghijklmnopqrstuvwxyzABCDEFGHIJKLMNOPQRSTUVWXYZ") = isLet c := by
  by_cases h : c < 128
  · have key : ∀ c ∈ List.range 128, decide (c ∈ cs "abcdefghijklmnopqrstuvwxyzABCDEFGHIJKLMNOPQRSTUVWXYZ") = isLet c := by decide +kernel
    exact key c (List.mem_range.mpr h)
  · have h1 : isLet c = false := by
      cases q : isLet c with
      | false => rfl
      | true => exact absurd (isLet_lt q) h
    rw [h1]
    exact decide_eq_false fun z => h (isLet_lt (let_all c z))
theorem nam_mem (c : Nat) : decide (c ∈ cs ("abcdefghijklmnopqrstuvwxyzABCDEFGHIJKLMNOPQRSTUVWXYZ" ++ "0123456789_")) = isNam c := by
  by_cases h : c < 128
  · have key : ∀ c ∈ List.range 128, decide (c ∈ cs "abcdefghijklmnopqrstuvwxyzABCDEFGHIJKLMNOPQRSTUVWXYZ" ∨ c ∈ cs "0123456789_") = isNam c := by decide +kernel
    rw [← key c (List.mem_range.mpr h)]
    exact decide_eq_decide.mpr (by rw [cs_app, List.mem_append])
  · have h1 : isNam c = false := by
      cases q : isNam c with
      | false => rfl
      | true => exact absurd (isNam_lt q) h
    rw [h1]
    refine decide_eq_false fun z => h ?_
    rw [cs_app] at z
    rcases List.mem_append.mp z with z | z
    · exact isLet_lt (let_all c z)
    · exact isNam_lt (nam_all c z)
end K5
set_option Elab.async false
set_option linter.all false
set_option maxRecDepth 100000
set_option maxHeartbeats 4000000
namespace K5
open PySem L2 Dl
local macro_rules | `(tactic| walk_at "dw") => `(tactic| simp only [wSB, wSB1, wVar, wC, wOp, wB, wNotT, wAndT, wOrT, wAndV, wOrV, wNotV, wIfE, wChain, wNil, wCons, wTup, wLst, wNext, wSeq, wSet, wAsg, wDrop, wRet, wRetN, wBrk, wCont, wIf, wiL, wiT, wiR, wFor, wCall0, wCall, wCB, wM0, wM1, wNo, wPart, wSl, wYes, wLc, wipeD, wNeg, wTru, wFmt, wJoined, wJs, wRaise1, wStw, wiS, wAug, wiR2, wSt3, wFind, wApp, wNewL, wFrzL, Sl.OL, wRaiseF, rdCints, rdRep, wNameEnd, wgName, wgNil, wgCons, wgTup,
  Sl.V, D.I, D.B, D.S, D.L, D.T, D.K, D.len, D.tru, rdI, rdI0, rdLt, rdLe, rdGt, rdGe, rdEq, rdNe, eqS, rdIsN, rdNotN, rdAdd, rdIx, rdSl, rdInS, rdLen, rdOrd, rdAll, rdAny, rdIsi, rdFmt, rdJoin, rdCint, tyN, ρ0, List.map_cons, List.map_nil, List.length_cons, List.length_nil, List.replicate, List.append, List.cons_append, List.nil_append, List.getElem?_cons_zero, List.getElem?_cons_succ, List.set_cons_zero, List.set_cons_succ, Nat.add_sub_cancel, Nat.sub_self, Nat.zero_add, Nat.reduceAdd, Nat.reduceSub, if_true, if_false, true_and, and_true, decide_true, decide_false, true_or, or_true, ia_NoneType_bool, ia_NoneType_int, ia_NoneType_str, ia_NoneType_list, ia_NoneType_tuple, ia_NoneType_dict, ia_bool_bool, ia_bool_int, ia_bool_str, ia_bool_list, ia_bool_tuple, ia_bool_dict, ia_int_bool, ia_int_int, ia_int_str, ia_int_list, ia_int_tuple, ia_int_dict, ia_str_bool, ia_str_int, ia_str_str, ia_str_list, ia_str_tuple, ia_str_dict, ia_list_bool, ia_list_int, ia_list_str, ia_list_list, ia_list_tuple, ia_list_dict, ia_tuple_bool, ia_tuple_int, ia_tuple_str, ia_tuple_list, ia_tuple_tuple, ia_tuple_dict, ia_dict_bool, ia_dict_int, ia_dict_str, ia_dict_list, ia_dict_tuple, ia_dict_dict, inT_bool, inT_int, inT_str, inT_list, inT_tuple, inT_dict, Bool.not_eq_true, Bool.not_true, Bool.not_false, Bool.false_eq_true, ite_false, ite_true, reduceCtorEq])
theorem ascii_one (c : Nat) : Txt.isascii ⟨#[c]⟩ = decide (c < 128) := by
  unfold Txt.isascii
  rw [all_cs]
  simp
theorem alnum_one {c : Nat} (h : c < 128) : Txt.isalnum ⟨#[c]⟩ = (isLet c || decide (48 ≤ c ∧ c ≤ 57)) := by
  unfold Txt.isalnum
  rw [all_cs]
  simp [Str.length, uni_n h]
theorem uni_dtab : ∀ c ∈ List.range 128, Unicode.isDigit c = isDig c := by decide +kernel
theorem digit_one {c : Nat} (h : c < 128) : Txt.isdigit ⟨#[c]⟩ = isDig c := by
  unfold Txt.isdigit
  rw [all_cs]
  simp [Str.length, uni_dtab c (List.mem_range.mpr h)]
theorem isDig_lt {c : Nat} (h : isDig c = true) : c < 128 := by
  unfold isDig at h
  simp only [decide_eq_true_eq] at h
  omega
theorem len_may_follow {ds : List D} {Q : D → Prop} {E : Exn → Prop} (h : sp_may_follow ds Q E) : ds.length = (["sign"] : List Str).length := by
  obtain ⟨t, rfl, _⟩ := h
  rfl
theorem hw_may_follow : ∀ ds Q E, sp_may_follow ds Q E → W_may_follow { nx := fun _ => Q .non, rt := Q } (ρ0 (["sign"] : List Str).length ds) := by
  rintro ds Q E ⟨c, rfl, h⟩
  unfold W_may_follow
  walk_at "dw"
  rw [sg_eq c "_" 95 rfl, ascii_one]
  unfold isNam at h
  by_cases h1 : c = 95
  · rw [decide_eq_true h1] at h ⊢
    rw [Bool.or_true] at h
    exact h
  · rw [decide_eq_false h1] at h ⊢
    walk_at "dw"
    rw [Bool.or_false] at h
    by_cases h2 : c < 128
    · rw [decide_eq_true h2]
      walk_at "dw"
      rw [alnum_one h2]
      exact h
    · rw [decide_eq_false h2]
      walk_at "dw"
      have e : (isLet c || decide (48 ≤ c ∧ c ≤ 57)) = false := by
        unfold isLet
        rw [decide_eq_false (by omega), decide_eq_false (by omega), decide_eq_false (by omega)]
        rfl
      rw [e] at h
      exact h
theorem len_is_digit {ds : List D} {Q : D → Prop} {E : Exn → Prop} (h : sp_is_digit ds Q E) : ds.length = (["sign"] : List Str).length := by
  obtain ⟨t, rfl, _⟩ := h
  rfl
theorem hw_is_digit : ∀ ds Q E, sp_is_digit ds Q E → W_is_digit { nx := fun _ => Q .non, rt := Q } (ρ0 (["sign"] : List Str).length ds) := by
  rintro ds Q E ⟨c, rfl, h⟩
  unfold W_is_digit
  walk_at "dw"
  rw [ascii_one]
  by_cases h2 : c < 128
  · rw [decide_eq_true h2]
    walk_at "dw"
    rw [digit_one h2]
    exact h
  · rw [decide_eq_false h2]
    walk_at "dw"
    have e : isDig c = false := by
      cases q : isDig c with
      | false => rfl
      | true => exact absurd (isDig_lt q) h2
    rw [e] at h
    exact h
theorem len_end_of_name {ds : List D} {Q : D → Prop} {E : Exn → Prop} (h : sp_end_of_name ds Q E) : ds.length = (["text", "place"] : List Str).length := by
  obtain ⟨t, i, rfl, _⟩ := h
  rfl
/-- a place that is moved on while a sign holds -/
theorem run_step {t : Str} {p : Nat → Bool} {i c : Nat} {r : List Nat} (e1 : (cs t).drop i = c :: r) (e2 : (cs t).drop (i + 1) = r) (h : p c = true) : i + run p ((cs t).drop i) = (i + 1) + run p ((cs t).drop (i + 1)) := by
  rw [e1, e2, run_cons_t h]
  omega
theorem hw_end_of_name : ∀ ds Q E, sp_end_of_name ds Q E → W_end_of_name { nx := fun _ => Q .non, rt := Q } (ρ0 (["text", "place", "end"] : List Str).length ds) := by
  rintro ds Q E ⟨t, i0, rfl, hi0, hl, h⟩
  unfold W_end_of_name
  walk_at "dw"
  have key : ∀ (m i : Nat) (d : DEnds), t.length - i ≤ m → i ≤ t.length → d.nx [.val (.str t), .val (.int (i0 : Nat)), .val (.int ((i + run isNam ((cs t).drop i) : Nat) : Int))] →
      wWhN (wAndT (wB (wOp rdLt (wVar 2) (wCB rdLen (wCons (wVar 0) wNil)))) (wB (wCall0 sp_may_follow (wCons (wOp rdIx (wVar 0) (wVar 2)) wNil)))) (wAug 2 (wC (.int 1))) (m + 1) d [.val (.str t), .val (.int (i0 : Nat)), .val (.int (i : Nat))] := by
    intro m
    induction m with
    | zero =>
      intro i d h1 h2 hk
      unfold wWhN
      walk_at "dw"
      rw [if_pos (show t.length ≤ 1000000 by omega)]
      walk_at "dw"
      rw [decide_eq_false (by omega)]
      walk_at "dw"
      rw [drop_all (by omega)] at hk
      exact hk
    | succ m ih =>
      intro i d h1 h2 hk
      unfold wWhN
      walk_at "dw"
      rw [if_pos (show t.length ≤ 1000000 by omega)]
      walk_at "dw"
      by_cases hlt : i < t.length
      · rw [decide_eq_true (by omega)]
        walk_at "dw"
        obtain ⟨c, r, e1, e2, e3, _⟩ := at_drop hlt
        rw [e3]
        walk_at "dw"
        refine ⟨by omega, c, rfl, ?_⟩
        walk_at "dw"
        cases hc : isNam c with
        | true =>
          walk_at "dw"
          rw [run_step e1 e2 hc] at hk
          exact ih (i + 1) _ (by omega) (by omega) hk
        | false =>
          walk_at "dw"
          rw [e1, run_cons_f hc] at hk
          exact hk
      · rw [decide_eq_false (by omega)]
        walk_at "dw"
        rw [drop_all (by omega)] at hk
        exact hk
  exact ⟨_, key (t.length - i0) i0 _ (Nat.le_refl _) hi0 h⟩
end K5
set_option Elab.async false
set_option linter.all false
set_option maxRecDepth 100000
set_option maxHeartbeats 4000000
namespace K5
open PySem L2 Dl
local macro_rules | `(tactic| walk_at "dw") => `(tactic| simp only [wSB, wSB1, wVar, wC, wOp, wB, wNotT, wAndT, wOrT, wAndV, wOrV, wNotV, wIfE, wChain, wNil, wCons, wTup, wLst, wNext, wSeq, wSet, wAsg, wDrop, wRet, wRetN, wBrk, wCont, wIf, wiL, wiT, wiR, wFor, wCall0, wCall, wCB, wM0, wM1, wNo, wPart, wSl, wYes, wLc, wipeD, wNeg, wTru, wFmt, wJoined, wJs, wRaise1, wStw, wiS, wAug, wiR2, wSt3, wFind, wApp, wNewL, wFrzL, Sl.OL, wRaiseF, rdCints, rdRep, wNameEnd, wgName, wgNil, wgCons, wgTup,
  Sl.V, D.I, D.B, D.S, D.L, D.T, D.K, D.len, D.tru, rdI, rdI0, rdLt, rdLe, rdGt, rdGe, rdEq, rdNe, eqS, rdIsN, rdNotN, rdAdd, rdIx, rdSl, rdInS, rdLen, rdOrd, rdAll, rdAny, rdIsi, rdFmt, rdJoin, rdCint, tyN, ρ0, List.map_cons, List.map_nil, List.length_cons, List.length_nil, List.replicate, List.append, List.cons_append, List.nil_append, List.getElem?_cons_zero, List.getElem?_cons_succ, List.set_cons_zero, List.set_cons_succ, Nat.add_sub_cancel, Nat.sub_self, Nat.zero_add, Nat.reduceAdd, Nat.reduceSub, if_true, if_false, true_and, and_true, decide_true, decide_false, true_or, or_true, ia_NoneType_bool, ia_NoneType_int, ia_NoneType_str, ia_NoneType_list, ia_NoneType_tuple, ia_NoneType_dict, ia_bool_bool, ia_bool_int, ia_bool_str, ia_bool_list, ia_bool_tuple, ia_bool_dict, ia_int_bool, ia_int_int, ia_int_str, ia_int_list, ia_int_tuple, ia_int_dict, ia_str_bool, ia_str_int, ia_str_str, ia_str_list, ia_str_tuple, ia_str_dict, ia_list_bool, ia_list_int, ia_list_str, ia_list_list, ia_list_tuple, ia_list_dict, ia_tuple_bool, ia_tuple_int, ia_tuple_str, ia_tuple_list, ia_tuple_tuple, ia_tuple_dict, ia_dict_bool, ia_dict_int, ia_dict_str, ia_dict_list, ia_dict_tuple, ia_dict_dict, inT_bool, inT_int, inT_str, inT_list, inT_tuple, inT_dict, Bool.not_eq_true, Bool.not_true, Bool.not_false, Bool.false_eq_true, ite_false, ite_true, reduceCtorEq])
theorem sp_rd_len {w : List Nat → WR} {ds : List D} {Q : D → Prop} {E : Exn → Prop} (h : sp_rd w ds Q E) : ds.length = (["text", "place"] : List Str).length := by
  obtain ⟨t, i, rfl, _⟩ := h
  rfl
theorem len_read_name {ds : List D} {Q : D → Prop} {E : Exn → Prop} (h : sp_read_name ds Q E) : ds.length = (["text", "place"] : List Str).length := sp_rd_len h
theorem len_read_number {ds : List D} {Q : D → Prop} {E : Exn → Prop} (h : sp_read_number ds Q E) : ds.length = (["text", "place"] : List Str).length := sp_rd_len h
theorem len_read_variable {ds : List D} {Q : D → Prop} {E : Exn → Prop} (h : sp_read_variable ds Q E) : ds.length = (["text", "place"] : List Str).length := sp_rd_len h
theorem len_read_text {ds : List D} {Q : D → Prop} {E : Exn → Prop} (h : sp_read_text ds Q E) : ds.length = (["text", "place"] : List Str).length := sp_rd_len h
theorem len_read_word {ds : List D} {Q : D → Prop} {E : Exn → Prop} (h : sp_read_word ds Q E) : ds.length = (["text", "place"] : List Str).length := sp_rd_len h
theorem mk_eq (l : List Nat) (s : Str) : decide (mk l = s) = decide (l = cs s) := decide_eq_decide.mpr ⟨fun h => by rw [← h, cs_mk], fun h => by rw [h, mk_cs]⟩
theorem nameS_mk (l : List Nat) : nameS (mk l) = nameL l := rfl
theorem run_len (p : Nat → Bool) (t : Str) (i : Nat) : run p ((cs t).drop i) ≤ t.length - i := by
  have := run_le p ((cs t).drop i)
  rw [List.length_drop, cs_len] at this
  exact this
theorem hw_read_name : ∀ ds Q E, sp_read_name ds Q E → W_read_name E { nx := fun _ => Q .non, rt := Q } (ρ0 (["text", "place", "end", "word"] : List Str).length ds) := by
  rintro ds Q E ⟨t, i, rfl, hi, hl, h⟩
  have hr := run_len isNam t i
  unfold W_read_name
  walk_at "dw"
  refine ⟨t, i, rfl, by omega, hl, ?_⟩
  walk_at "dw"
  rw [cut_run]
  refine ⟨by omega, ?_⟩
  rw [mk_eq]
  unfold outW nameW at h
  by_cases h1 : ((cs t).drop i).takeWhile isNam = cs "_type"
  · rw [if_pos (.inl h1)] at h
    rw [decide_eq_true h1]
    walk_at "dw"
    exact ⟨by decide, h⟩
  · rw [decide_eq_false h1]
    walk_at "dw"
    refine ⟨_, rfl, by rw [mk_len, tw_len]; omega, ?_⟩
    rw [nameS_mk]
    cases h2 : nameL (((cs t).drop i).takeWhile isNam) with
    | true =>
      rw [if_pos (.inr h2)] at h
      walk_at "dw"
      exact ⟨by decide, h⟩
    | false =>
      rw [if_neg (fun z => by rcases z with z | z; exact h1 z; rw [h2] at z; exact Bool.false_ne_true z)] at h
      walk_at "dw"
      exact ⟨goodF_nat (by omega), h⟩
theorem hw_read_variable : ∀ ds Q E, sp_read_variable ds Q E → W_read_variable E { nx := fun _ => Q .non, rt := Q } (ρ0 (["text", "place", "end", "word"] : List Str).length ds) := by
  rintro ds Q E ⟨t, i, rfl, hi, hl, h⟩
  have hr := run_len isNam t (i + 1)
  have e1 : ((i : Int) + 1) = ((i + 1 : Nat) : Int) := by omega
  unfold W_read_variable
  walk_at "dw"
  rw [e1]
  refine ⟨t, i + 1, rfl, by omega, hl, ?_⟩
  walk_at "dw"
  rw [cut_run]
  refine ⟨by omega, ?_⟩
  refine ⟨_, rfl, by rw [mk_len, tw_len]; omega, ?_⟩
  rw [nameS_mk]
  unfold outW varW at h
  rw [List.drop_drop] at h
  cases h2 : nameL (((cs t).drop (i + 1)).takeWhile isNam) with
  | true =>
    rw [if_pos h2] at h
    walk_at "dw"
    refine ⟨by decide, ?_⟩
    rw [show i + 1 + run isNam ((cs t).drop (i + 1)) = i + (1 + run isNam ((cs t).drop (i + 1))) by omega]
    exact h
  | false =>
    rw [if_neg (by rw [h2]; exact Bool.false_ne_true)] at h
    walk_at "dw"
    exact ⟨goodF_nat (by omega), h⟩
theorem noQ_eq : (fun x => !decide (x = 34)) = noQ := rfl
theorem hw_read_text : ∀ ds Q E, sp_read_text ds Q E → W_read_text E { nx := fun _ => Q .non, rt := Q } (ρ0 (["text", "place", "end", "word"] : List Str).length ds) := by
  rintro ds Q E ⟨t, i, rfl, hi, hl, h⟩
  have hr := run_len noQ t (i + 1)
  have e1 : ((i : Int) + 1) = ((i + 1 : Nat) : Int) := by omega
  unfold W_read_text
  walk_at "dw"
  rw [e1, show Txt.find3 t "\"" ((i + 1 : Nat) : Int) = _ from find3_one (t := t) (c := 34) (i := i + 1) (by omega), noQ_eq]
  unfold outW txtW at h
  rw [List.drop_drop] at h
  by_cases hq : 34 ∈ (cs t).drop (i + 1)
  · rw [if_pos hq, cut_run]
    refine ⟨by omega, ?_⟩
    rw [decide_eq_false (by omega)]
    walk_at "dw"
    refine ⟨"Text", _, rfl, ⟨_, rfl⟩, fun s e => by injection e with e; subst e; rw [mk_len, tw_len]; omega, ?_⟩
    have e2 : fitsD "Text" (.str (mk (((cs t).drop (i + 1)).takeWhile noQ))) = (((cs t).drop (i + 1)).takeWhile noQ).all plain := by
      show (decide (("Text" : Str) = "Text") && (((cs t).drop (i + 1)).takeWhile noQ).all plain) = _
      rw [decide_eq_true rfl, Bool.true_and]
    rw [e2]
    cases h2 : (((cs t).drop (i + 1)).takeWhile noQ).all plain with
    | true =>
      rw [if_pos ⟨hq, h2⟩] at h
      walk_at "dw"
      refine ⟨by decide, ?_⟩
      rw [show ((i + 1 + run noQ ((cs t).drop (i + 1)) : Nat) : Int) + 1 = ((i + (1 + run noQ ((cs t).drop (i + 1)) + 1) : Nat) : Int) by omega]
      exact h
    | false =>
      rw [if_neg (fun z => by rw [h2] at z; exact Bool.false_ne_true z.2)] at h
      walk_at "dw"
      exact ⟨goodF_nat (by omega), h⟩
  · rw [if_neg hq]
    rw [if_neg (fun z => hq z.1)] at h
    refine ⟨by omega, ?_⟩
    rw [decide_eq_true (by decide)]
    walk_at "dw"
    exact ⟨goodF_nat (by omega), h⟩
theorem num_loop {t : Str} {a b : Sl} (hl : t.length ≤ 1000) : ∀ (m i : Nat) (d : DEnds), t.length - i ≤ m → i ≤ t.length → d.nx [.val (.str t), a, b, .val (.int ((i + run isDig ((cs t).drop i) : Nat) : Int))] →
    wWhN (wAndT (wB (wOp rdLt (wVar 3) (wCB rdLen (wCons (wVar 0) wNil)))) (wB (wCall0 sp_is_digit (wCons (wOp rdIx (wVar 0) (wVar 3)) wNil)))) (wAug 3 (wC (.int 1))) (m + 1) d [.val (.str t), a, b, .val (.int (i : Nat))] := by
  intro m
  induction m with
  | zero =>
    intro i d h1 h2 hk
    unfold wWhN
    walk_at "dw"
    rw [if_pos (show t.length ≤ 1000000 by omega)]
    walk_at "dw"
    rw [decide_eq_false (by omega)]
    walk_at "dw"
    rw [drop_all (by omega)] at hk
    exact hk
  | succ m ih =>
    intro i d h1 h2 hk
    unfold wWhN
    walk_at "dw"
    rw [if_pos (show t.length ≤ 1000000 by omega)]
    walk_at "dw"
    by_cases hlt : i < t.length
    · rw [decide_eq_true (by omega)]
      walk_at "dw"
      obtain ⟨c, r, e1, e2, e3, _⟩ := at_drop hlt
      rw [e3]
      walk_at "dw"
      refine ⟨by omega, c, rfl, ?_⟩
      walk_at "dw"
      cases hc : isDig c with
      | true =>
        walk_at "dw"
        rw [run_step e1 e2 hc] at hk
        exact ih (i + 1) _ (by omega) (by omega) hk
      | false =>
        walk_at "dw"
        rw [e1, run_cons_f hc] at hk
        exact hk
    · rw [decide_eq_false (by omega)]
      walk_at "dw"
      rw [drop_all (by omega)] at hk
      exact hk
theorem hw_read_number : ∀ ds Q E, sp_read_number ds Q E → W_read_number E { nx := fun _ => Q .non, rt := Q } (ρ0 (["text", "place", "start", "end"] : List Str).length ds) := by
  rintro ds Q E ⟨t, i, rfl, hi, hl, h⟩
  obtain ⟨c, r, e1, e2, e3, _⟩ := at_drop hi
  have ei : ((i : Int) + 1) = ((i + 1 : Nat) : Int) := by omega
  unfold W_read_number
  walk_at "dw"
  rw [e3]
  walk_at "dw"
  rw [sg_eq c "-" 45 rfl]
  unfold outW numW at h
  rw [e1] at h
  by_cases hc : c = 45
  · rw [if_pos (by rw [hc]; rfl), List.drop_succ_cons, List.drop_zero, ← e2] at h
    have hr := run_len isDig t (i + 1)
    rw [decide_eq_true hc]
    walk_at "dw"
    rw [ei]
    refine ⟨by omega, _, num_loop hl (t.length - (i + 1)) (i + 1) _ (Nat.le_refl _) (by omega) ?_⟩
    walk_at "dw"
    rw [show ((i + 1 + run isDig ((cs t).drop (i + 1)) : Nat) : Int) - ((i + 1 : Nat) : Int) = (run isDig ((cs t).drop (i + 1)) : Nat) by omega]
    by_cases h1 : 1 ≤ run isDig ((cs t).drop (i + 1)) ∧ run isDig ((cs t).drop (i + 1)) ≤ 10
    · rw [if_pos h1] at h
      rw [decide_eq_true (by omega)]
      walk_at "dw"
      rw [decide_eq_true (by omega)]
      walk_at "dw"
      have ec : cutS t (some (i : Int)) (some ((i + 1 + run isDig ((cs t).drop (i + 1)) : Nat) : Int)) = mk (45 :: ((cs t).drop (i + 1)).takeWhile isDig) := by
        apply cs_inj
        rw [cut_nat, cs_mk, e1, show i + 1 + run isDig ((cs t).drop (i + 1)) - i = run isDig ((cs t).drop (i + 1)) + 1 by omega, List.take_succ_cons, hc, ← e2, take_run]
      rw [ec]
      refine ⟨by omega, by rw [mk_len, List.length_cons, tw_len]; omega, _, int_neg (takeWhile_all isDig _) (by rw [tw_len]; omega) (by rw [tw_len]; omega), by decide, ?_⟩
      rw [show i + 1 + run isDig ((cs t).drop (i + 1)) = i + (1 + run isDig ((cs t).drop (i + 1))) by omega]
      exact h
    · rw [if_neg h1] at h
      by_cases h2 : 1 ≤ run isDig ((cs t).drop (i + 1))
      · rw [decide_eq_true (by omega)]
        walk_at "dw"
        rw [decide_eq_false (by omega)]
        walk_at "dw"
        exact ⟨goodF_nat (by omega), h⟩
      · rw [decide_eq_false (by omega)]
        walk_at "dw"
        exact ⟨goodF_nat (by omega), h⟩
  · rw [if_neg (by intro z; exact hc (Option.some.inj z)), ← e1] at h
    have hr := run_len isDig t i
    rw [decide_eq_false hc]
    walk_at "dw"
    refine ⟨by omega, _, num_loop hl (t.length - i) i _ (Nat.le_refl _) (by omega) ?_⟩
    walk_at "dw"
    rw [show ((i + run isDig ((cs t).drop i) : Nat) : Int) - ((i : Nat) : Int) = (run isDig ((cs t).drop i) : Nat) by omega]
    by_cases h1 : 1 ≤ run isDig ((cs t).drop i) ∧ run isDig ((cs t).drop i) ≤ 10
    · rw [if_pos h1] at h
      rw [decide_eq_true (by omega)]
      walk_at "dw"
      rw [decide_eq_true (by omega)]
      walk_at "dw"
      rw [cut_run]
      refine ⟨by omega, by rw [mk_len, tw_len]; omega, _, int_dig (takeWhile_all isDig _) (by rw [tw_len]; omega) (by rw [tw_len]; omega), by decide, ?_⟩
      exact h
    · rw [if_neg h1] at h
      by_cases h2 : 1 ≤ run isDig ((cs t).drop i)
      · rw [decide_eq_true (by omega)]
        walk_at "dw"
        rw [decide_eq_false (by omega)]
        walk_at "dw"
        exact ⟨goodF_nat (by omega), h⟩
      · rw [decide_eq_false (by omega)]
        walk_at "dw"
        exact ⟨goodF_nat (by omega), h⟩
end K5
set_option Elab.async false
set_option linter.all false
set_option maxRecDepth 100000
set_option maxHeartbeats 4000000
namespace K5
open PySem L2 Dl
local macro_rules | `(tactic| walk_at "dw") => `(tactic| simp only [wSB, wSB1, wVar, wC, wOp, wB, wNotT, wAndT, wOrT, wAndV, wOrV, wNotV, wIfE, wChain, wNil, wCons, wTup, wLst, wNext, wSeq, wSet, wAsg, wDrop, wRet, wRetN, wBrk, wCont, wIf, wiL, wiT, wiR, wFor, wCall0, wCall, wCB, wM0, wM1, wNo, wPart, wSl, wYes, wLc, wipeD, wNeg, wTru, wFmt, wJoined, wJs, wRaise1, wStw, wiS, wAug, wiR2, wSt3, wFind, wApp, wNewL, wFrzL, Sl.OL, wRaiseF, rdCints, rdRep, wNameEnd, wgName, wgNil, wgCons, wgTup,
  Sl.V, D.I, D.B, D.S, D.L, D.T, D.K, D.len, D.tru, rdI, rdI0, rdLt, rdLe, rdGt, rdGe, rdEq, rdNe, eqS, rdIsN, rdNotN, rdAdd, rdIx, rdSl, rdInS, rdLen, rdOrd, rdAll, rdAny, rdIsi, rdFmt, rdJoin, rdCint, tyN, ρ0, List.map_cons, List.map_nil, List.length_cons, List.length_nil, List.replicate, List.append, List.cons_append, List.nil_append, List.getElem?_cons_zero, List.getElem?_cons_succ, List.set_cons_zero, List.set_cons_succ, Nat.add_sub_cancel, Nat.sub_self, Nat.zero_add, Nat.reduceAdd, Nat.reduceSub, if_true, if_false, true_and, and_true, decide_true, decide_false, true_or, or_true, ia_NoneType_bool, ia_NoneType_int, ia_NoneType_str, ia_NoneType_list, ia_NoneType_tuple, ia_NoneType_dict, ia_bool_bool, ia_bool_int, ia_bool_str, ia_bool_list, ia_bool_tuple, ia_bool_dict, ia_int_bool, ia_int_int, ia_int_str, ia_int_list, ia_int_tuple, ia_int_dict, ia_str_bool, ia_str_int, ia_str_str, ia_str_list, ia_str_tuple, ia_str_dict, ia_list_bool, ia_list_int, ia_list_str, ia_list_list, ia_list_tuple, ia_list_dict, ia_tuple_bool, ia_tuple_int, ia_tuple_str, ia_tuple_list, ia_tuple_tuple, ia_tuple_dict, ia_dict_bool, ia_dict_int, ia_dict_str, ia_dict_list, ia_dict_tuple, ia_dict_dict, inT_bool, inT_int, inT_str, inT_list, inT_tuple, inT_dict, Bool.false_xor, Bool.true_xor, Bool.not_eq_true, Bool.not_true, Bool.not_false, Bool.false_eq_true, ite_false, ite_true, reduceCtorEq])
theorem sg_is (c : Nat) : decide ((⟨#[c]⟩ : Str).cps.getD 0 0 ∈ ("{}():=![]@" : Str).cps.toList) = isSg c := rfl
theorem len_one (c : Nat) : (⟨#[c]⟩ : Str).length = 1 := rfl
theorem hw_read_word : ∀ ds Q E, sp_read_word ds Q E → W_read_word E { nx := fun _ => Q .non, rt := Q } (ρ0 (["text", "place", "sign"] : List Str).length ds) := by
  rintro ds Q E ⟨t, i, rfl, hi, hl, h⟩
  obtain ⟨c, r, e1, e2, e3, _⟩ := at_drop hi
  unfold W_read_word
  walk_at "dw"
  rw [e3]
  walk_at "dw"
  rw [sg_is]
  refine ⟨by omega, len_one c, ?_⟩
  have hw := e1 ▸ h
  unfold wordL at hw
  simp only at hw
  cases h1 : isSg c with
  | true =>
    rw [if_pos h1] at hw
    walk_at "dw"
    exact ⟨by decide, hw⟩
  | false =>
    rw [if_neg (by rw [h1]; exact Bool.false_ne_true)] at hw
    walk_at "dw"
    rw [st3_dots, e1]
    by_cases h2 : (c :: r).take 3 = [46, 46, 46]
    · rw [if_pos h2] at hw
      rw [decide_eq_true h2]
      walk_at "dw"
      rw [if_pos (by decide)]
      walk_at "dw"
      exact ⟨by decide, hw⟩
    · rw [if_neg h2] at hw
      rw [decide_eq_false h2]
      walk_at "dw"
      rw [sg_eq c "\"" 34 rfl]
      by_cases h3 : c = 34
      · rw [if_pos h3] at hw
        rw [decide_eq_true h3]
        walk_at "dw"
        refine ⟨t, i, rfl, hi, hl, ?_⟩
        rw [e1]
        exact hw
      · rw [if_neg h3] at hw
        rw [decide_eq_false h3]
        walk_at "dw"
        rw [sg_eq c "$" 36 rfl]
        by_cases h4 : c = 36
        · rw [if_pos h4] at hw
          rw [decide_eq_true h4]
          walk_at "dw"
          refine ⟨t, i, rfl, hi, hl, ?_⟩
          rw [e1]
          exact hw
        · rw [if_neg h4] at hw
          rw [decide_eq_false h4]
          walk_at "dw"
          rw [sg_eq c "-" 45 rfl]
          by_cases h5 : c = 45
          · rw [if_pos (.inl h5)] at hw
            rw [decide_eq_true h5]
            walk_at "dw"
            refine ⟨t, i, rfl, hi, hl, ?_⟩
            rw [e1]
            exact hw
          · rw [decide_eq_false h5]
            walk_at "dw"
            refine ⟨c, rfl, ?_⟩
            walk_at "dw"
            cases h6 : isDig c with
            | true =>
              rw [if_pos (.inr h6)] at hw
              walk_at "dw"
              refine ⟨t, i, rfl, hi, hl, ?_⟩
              rw [e1]
              exact hw
            | false =>
              rw [if_neg (fun z => by rcases z with z | z; exact h5 z; rw [h6] at z; exact Bool.false_ne_true z)] at hw
              walk_at "dw"
              refine ⟨t, i, rfl, hi, hl, ?_⟩
              rw [e1]
              exact hw
theorem len_split_words {ds : List D} {Q : D → Prop} {E : Exn → Prop} (h : sp_split_words ds Q E) : ds.length = (["text"] : List Str).length := by
  obtain ⟨t, rfl, _⟩ := h
  rfl
theorem blk_is (c : Nat) : decide ((⟨#[c]⟩ : Str).cps.getD 0 0 ∈ (" \n," : Str).cps.toList) = isBlk c := rfl
theorem hw_split_words : ∀ ds Q E, sp_split_words ds Q E → W_split_words E { nx := fun _ => Q .non, rt := Q } (ρ0 (["text", "words", "place", "kind", "word", "end"] : List Str).length ds) := by
  rintro ds Q E ⟨t, rfl, hl, h⟩
  unfold W_split_words
  walk_at "dw"
  refine wh_rule (fun m ρ => ∃ (i : Nat) (acc : List D) (a b c : Sl), ρ = [.val (.str t), .ol acc, .val (.int (i : Nat)), a, b, c] ∧ m = t.length - i ∧ i ≤ t.length ∧ acc.length ≤ i ∧ (match spl i ((cs t).drop i) with
      | .inl j => E (flt j)
      | .inr ws => Q (.lst (acc ++ ws)))) ?_ (m := t.length) ⟨0, [], _, _, _, rfl, by omega, by omega, Nat.le_refl _, by rw [List.drop_zero]; exact h⟩
  rintro m ρ N ⟨i, acc, a, b, c', rfl, rfl, h2, h3, hk⟩ ih
  walk_at "dw"
  rw [if_pos (show t.length ≤ 1000000 by omega)]
  walk_at "dw"
  by_cases hlt : i < t.length
  · rw [decide_eq_true (by omega)]
    walk_at "dw"
    obtain ⟨c, r, e1, e2, e3, _⟩ := at_drop hlt
    rw [e3]
    walk_at "dw"
    rw [blk_is]
    refine ⟨by omega, len_one c, ?_⟩
    cases hb : isBlk c with
    | true =>
      walk_at "dw"
      rw [e1, spl_blk hb, ← e2] at hk
      exact ih _ _ (by omega) ⟨i + 1, acc, a, b, c', rfl, rfl, by omega, by omega, hk⟩
    | false =>
      walk_at "dw"
      refine ⟨t, i, rfl, hlt, hl, ?_⟩
      rw [e1, spl_word hb] at hk
      rw [e1]
      unfold outW
      cases hw : wordL (c :: r) with
      | none =>
        rw [hw] at hk
        exact hk
      | some x =>
        obtain ⟨kk, d, n⟩ := x
        rw [hw] at hk
        obtain ⟨n1, n2, _⟩ := wordL_ok hw
        have hlen : (c :: r).length = t.length - i := by rw [← e1, List.length_drop, cs_len]
        simp only at hk
        rw [← e1, List.drop_drop] at hk
        walk_at "dw"
        refine ⟨by decide, by omega, ?_⟩
        refine ih (t.length - (i + n)) _ (by omega) ⟨i + n, acc ++ [.tup [.int (i : Nat), .str kk, d]], _, _, _, rfl, rfl, by omega, by rw [List.length_append]; simp only [List.length_cons, List.length_nil]; omega, ?_⟩
        cases hs : spl (i + n) ((cs t).drop (i + n)) with
        | inl j =>
          rw [hs] at hk
          exact hk
        | inr ws =>
          rw [hs] at hk
          simp only at hk ⊢
          rw [List.append_assoc]
          exact hk
  · rw [decide_eq_false (by omega)]
    walk_at "dw"
    rw [drop_all (by omega), spl_nil] at hk
    simp only [List.append_nil] at hk
    exact hk
end K5
set_option Elab.async false
set_option linter.all false
set_option maxRecDepth 100000
set_option maxHeartbeats 4000000
namespace K5
open PySem L2 Dl
local macro_rules | `(tactic| walk_at "dw") => `(tactic| simp only [wSB, wSB1, wVar, wC, wOp, wB, wNotT, wAndT, wOrT, wAndV, wOrV, wNotV, wIfE, wChain, wNil, wCons, wTup, wLst, wNext, wSeq, wSet, wAsg, wDrop, wRet, wRetN, wBrk, wCont, wIf, wiL, wiT, wiR, wFor, wCall0, wCall, wCB, wM0, wM1, wNo, wPart, wSl, wYes, wLc, wipeD, wNeg, wTru, wFmt, wJoined, wJs, wRaise1, wStw, wiS, wAug, wiR2, wSt3, wFind, wApp, wNewL, wFrzL, Sl.OL, wRaiseF, rdCints, rdRep, wNameEnd, wgName, wgNil, wgCons, wgTup,
  Sl.V, D.I, D.B, D.S, D.L, D.T, D.K, D.len, D.tru, rdI, rdI0, rdLt, rdLe, rdGt, rdGe, rdEq, rdNe, eqS, rdIsN, rdNotN, rdAdd, rdIx, rdSl, rdInS, rdLen, rdOrd, rdAll, rdAny, rdIsi, rdFmt, rdJoin, rdCint, tyN, ρ0, List.map_cons, List.map_nil, List.length_cons, List.length_nil, List.replicate, List.append, List.cons_append, List.nil_append, List.getElem?_cons_zero, List.getElem?_cons_succ, List.set_cons_zero, List.set_cons_succ, Nat.add_sub_cancel, Nat.sub_self, Nat.zero_add, Nat.reduceAdd, Nat.reduceSub, if_true, if_false, true_and, and_true, decide_true, decide_false, true_or, or_true, ia_NoneType_bool, ia_NoneType_int, ia_NoneType_str, ia_NoneType_list, ia_NoneType_tuple, ia_NoneType_dict, ia_bool_bool, ia_bool_int, ia_bool_str, ia_bool_list, ia_bool_tuple, ia_bool_dict, ia_int_bool, ia_int_int, ia_int_str, ia_int_list, ia_int_tuple, ia_int_dict, ia_str_bool, ia_str_int, ia_str_str, ia_str_list, ia_str_tuple, ia_str_dict, ia_list_bool, ia_list_int, ia_list_str, ia_list_list, ia_list_tuple, ia_list_dict, ia_tuple_bool, ia_tuple_int, ia_tuple_str, ia_tuple_list, ia_tuple_tuple, ia_tuple_dict, ia_dict_bool, ia_dict_int, ia_dict_str, ia_dict_list, ia_dict_tuple, ia_dict_dict, inT_bool, inT_int, inT_str, inT_list, inT_tuple, inT_dict, Bool.false_xor, Bool.true_xor, Bool.not_eq_true, Bool.not_true, Bool.not_false, Bool.false_eq_true, ite_false, ite_true, reduceCtorEq])
theorem len_l_run {ds : List D} {Q : D → Prop} {E : Exn → Prop} (h : sp_l_run ds Q E) : ds.length = (["text", "at", "signs"] : List Str).length := by
  obtain ⟨t, z, i, rfl, _⟩ := h
  rfl
theorem rng_nat (i n : Nat) (h : i ≤ n) : rngL (i : Nat) (n : Nat) = (List.range' i (n - i)).map fun j => .int (j : Nat) := by
  unfold rngL
  rw [show ((n : Int) - (i : Int)).toNat = n - i by omega, List.range'_eq_map_range, List.map_map]
  refine List.map_congr_left fun a _ => ?_
  show D.int ((i : Int) + (a : Int)) = D.int ((i + a : Nat) : Int)
  congr 1
theorem hw_l_run : ∀ ds Q E, sp_l_run ds Q E → W_l_run { nx := fun _ => Q .non, rt := Q } (ρ0 (["text", "at", "signs", "end", "k"] : List Str).length ds) := by
  rintro ds Q E ⟨t, z, i, rfl, hi, hl, h⟩
  unfold W_l_run
  walk_at "dw"
  rw [if_pos (show t.length ≤ 1000000 by omega)]
  walk_at "dw"
  refine ⟨by omega, ?_⟩
  rw [rng_nat i t.length hi]
  generalize hp : (fun c => decide (c ∈ cs z)) = p at h
  refine for_rule (fun xs ρ => ∃ (k e : Nat) (a : Sl), xs = ((List.range' k (t.length - k)).map fun j => D.int (j : Nat)) ∧ k ≤ t.length ∧ ρ = [.val (.str t), .val (.int (i : Nat)), .val (.str z), .val (.int (e : Nat)), a] ∧ e ≤ k ∧ (e = k → k + run p ((cs t).drop k) = i + run p ((cs t).drop i)) ∧ (e < k → e = i + run p ((cs t).drop i))) ?_ ?_ _ _ ⟨i, i, _, rfl, hi, rfl, Nat.le_refl _, fun _ => rfl, fun z => by omega⟩
  · rintro x xs ρ N ⟨k, e, a, hx, hk, rfl, h1, h2, h3⟩ ih
    have hlt : k < t.length := by
      have := congrArg List.length hx
      simp only [List.length_cons, List.length_map, List.length_range'] at this
      omega
    rw [show t.length - k = (t.length - (k + 1)) + 1 by omega, List.range'_succ, List.map_cons, List.cons.injEq] at hx
    obtain ⟨rfl, rfl⟩ := hx
    obtain ⟨c, r, e1, e2, e3, _⟩ := at_drop hlt
    unfold W_l_run_b1
    walk_at "dw"
    by_cases he : e = k
    · rw [decide_eq_true (by omega)]
      walk_at "dw"
      rw [e3]
      walk_at "dw"
      have ep : decide ((⟨#[c]⟩ : Str).cps.getD 0 0 ∈ z.cps.toList) = p c := by rw [← hp]; rfl
      rw [ep]
      refine ⟨by omega, rfl, ?_⟩
      have hR := h2 he
      cases hc : p c with
      | true =>
        walk_at "dw"
        rw [run_step e1 e2 hc] at hR
        exact ih _ ⟨k + 1, k + 1, _, rfl, by omega, rfl, Nat.le_refl _, fun _ => hR, fun z => by omega⟩
      | false =>
        walk_at "dw"
        rw [e1, run_cons_f hc] at hR
        exact ih _ ⟨k + 1, e, _, rfl, by omega, rfl, by omega, fun z => by omega, fun _ => by omega⟩
    · rw [decide_eq_false (by omega)]
      walk_at "dw"
      exact ih _ ⟨k + 1, e, _, rfl, by omega, rfl, by omega, fun z => by omega, fun _ => h3 (by omega)⟩
  · rintro ρ ⟨k, e, a, hx, hk, rfl, h1, h2, h3⟩
    have hlt : k = t.length := by
      have := congrArg List.length hx
      simp only [List.length_nil, List.length_map, List.length_range'] at this
      omega
    walk_at "dw"
    have : e = i + run p ((cs t).drop i) := by
      by_cases he : e = k
      · have := h2 he
        rw [hlt, drop_all (Nat.le_refl _)] at this
        have e0 : run p [] = 0 := rfl
        omega
      · exact h3 (by omega)
    rw [this]
    exact h
theorem len_l_named {ds : List D} {Q : D → Prop} {E : Exn → Prop} (h : sp_l_named ds Q E) : ds.length = (["text", "at", "place"] : List Str).length := by
  obtain ⟨t, i, j, rfl, _⟩ := h
  rfl
theorem ty_no : nameL (cs "_type") = false := by decide
theorem hw_l_named : ∀ ds Q E, sp_l_named ds Q E → W_l_named { nx := fun _ => Q .non, rt := Q } (ρ0 (["text", "at", "place", "letters", "end", "name"] : List Str).length ds) := by
  rintro ds Q E ⟨t, i, j, rfl, hi, hl, h⟩
  have hr := run_len isNam t i
  unfold W_l_named
  walk_at "dw"
  refine ⟨by decide, t, _, i, rfl, hi, hl, ?_⟩
  rw [run_congr nam_mem]
  walk_at "dw"
  rw [cut_run, mk_eq, mk_eq]
  refine ⟨by omega, ?_⟩
  unfold nameW at h
  have hall := takeWhile_all isNam ((cs t).drop i)
  have hlw : (((cs t).drop i).takeWhile isNam).length = run isNam ((cs t).drop i) := rfl
  generalize hw : ((cs t).drop i).takeWhile isNam = w at *
  by_cases h1 : w = cs "_type"
  · rw [if_pos (.inl h1)] at h
    rw [decide_eq_true h1]
    walk_at "dw"
    exact ⟨by decide, h⟩
  · rw [decide_eq_false h1]
    walk_at "dw"
    cases w with
    | nil =>
      rw [if_neg (fun z => by rcases z with z | z; exact h1 z; cases z)] at h
      rw [decide_eq_true (show ([] : List Nat) = cs "" from rfl)]
      walk_at "dw"
      exact ⟨by decide, h⟩
    | cons c r =>
      rw [decide_eq_false (by intro z; cases z)]
      walk_at "dw"
      have e3 : atI (mk (c :: r)).cps.toList 0 = some c := atI_nat (j := 0) rfl
      rw [e3]
      walk_at "dw"
      have em : decide ((⟨#[c]⟩ : Str).cps.getD 0 0 ∈ ("abcdefghijklmnopqrstuvwxyzABCDEFGHIJKLMNOPQRSTUVWXYZ" : Str).cps.toList) = isLet c := let_mem c
      rw [em, mk_len]
      simp only [List.length_cons] at hlw ⊢
      refine ⟨by omega, rfl, ?_⟩
      have en : nameL (c :: r) = (decide (r.length ≤ 29) && isLet c) := by
        show (decide (r.length ≤ 29) && isLet c && (c :: r).all isNam) = _
        rw [List.all_eq_true.mpr hall, Bool.and_true]
      cases hlc : isLet c with
      | false =>
        rw [if_neg (fun z => by rcases z with z | z; exact h1 z; rw [en, hlc, Bool.and_false] at z; cases z)] at h
        walk_at "dw"
        exact ⟨by decide, h⟩
      | true =>
        walk_at "dw"
        rw [if_pos (show r.length + 1 ≤ 1000000 by omega)]
        walk_at "dw"
        by_cases h30 : r.length ≤ 29
        · rw [if_pos (.inr (by rw [en, hlc, decide_eq_true h30]; rfl))] at h
          rw [decide_eq_false (by omega)]
          walk_at "dw"
          exact ⟨by decide, h⟩
        · rw [if_neg (fun z => by rcases z with z | z; exact h1 z; rw [en, decide_eq_false h30, Bool.false_and] at z; cases z)] at h
          rw [decide_eq_true (by omega)]
          walk_at "dw"
          exact ⟨by decide, h⟩
end K5
set_option Elab.async false
set_option linter.all false
set_option maxRecDepth 100000
set_option maxHeartbeats 4000000
namespace K5
open PySem L2 Dl
local macro_rules | `(tactic| walk_at "dw") => `(tactic| simp only [wSB, wSB1, wVar, wC, wOp, wB, wNotT, wAndT, wOrT, wAndV, wOrV, wNotV, wIfE, wChain, wNil, wCons, wTup, wLst, wNext, wSeq, wSet, wAsg, wDrop, wRet, wRetN, wBrk, wCont, wIf, wiL, wiT, wiR, wFor, wCall0, wCall, wCB, wM0, wM1, wNo, wPart, wSl, wYes, wLc, wipeD, wNeg, wTru, wFmt, wJoined, wJs, wRaise1, wStw, wiS, wAug, wiR2, wSt3, wFind, wApp, wNewL, wFrzL, Sl.OL, wRaiseF, rdCints, rdRep, wNameEnd, wgName, wgNil, wgCons, wgTup,
  Sl.V, D.I, D.B, D.S, D.L, D.T, D.K, D.len, D.tru, rdI, rdI0, rdLt, rdLe, rdGt, rdGe, rdEq, rdNe, eqS, rdIsN, rdNotN, rdAdd, rdIx, rdSl, rdInS, rdLen, rdOrd, rdAll, rdAny, rdIsi, rdFmt, rdJoin, rdCint, tyN, ρ0, List.map_cons, List.map_nil, List.length_cons, List.length_nil, List.replicate, List.append, List.cons_append, List.nil_append, List.getElem?_cons_zero, List.getElem?_cons_succ, List.set_cons_zero, List.set_cons_succ, Nat.add_sub_cancel, Nat.sub_self, Nat.zero_add, Nat.reduceAdd, Nat.reduceSub, if_true, if_false, true_and, and_true, decide_true, decide_false, true_or, or_true, ia_NoneType_bool, ia_NoneType_int, ia_NoneType_str, ia_NoneType_list, ia_NoneType_tuple, ia_NoneType_dict, ia_bool_bool, ia_bool_int, ia_bool_str, ia_bool_list, ia_bool_tuple, ia_bool_dict, ia_int_bool, ia_int_int, ia_int_str, ia_int_list, ia_int_tuple, ia_int_dict, ia_str_bool, ia_str_int, ia_str_str, ia_str_list, ia_str_tuple, ia_str_dict, ia_list_bool, ia_list_int, ia_list_str, ia_list_list, ia_list_tuple, ia_list_dict, ia_tuple_bool, ia_tuple_int, ia_tuple_str, ia_tuple_list, ia_tuple_tuple, ia_tuple_dict, ia_dict_bool, ia_dict_int, ia_dict_str, ia_dict_list, ia_dict_tuple, ia_dict_dict, inT_bool, inT_int, inT_str, inT_list, inT_tuple, inT_dict, Bool.false_xor, Bool.true_xor, Bool.not_eq_true, Bool.not_true, Bool.not_false, Bool.false_eq_true, ite_false, ite_true, reduceCtorEq])
theorem len_l_word_at {ds : List D} {Q : D → Prop} {E : Exn → Prop} (h : sp_l_word_at ds Q E) : ds.length = (["text", "at"] : List Str).length := by
  obtain ⟨t, i, rfl, _⟩ := h
  rfl
theorem num_is (c : Nat) : decide ((⟨#[c]⟩ : Str).cps.getD 0 0 ∈ ("-0123456789" : Str).cps.toList) = (decide (c = 45) || isDig c) := by
  show decide (c ∈ cs "-0123456789") = _
  by_cases h : c < 128
  · have key : ∀ c ∈ List.range 128, decide (c ∈ cs "-0123456789") = (decide (c = 45) || isDig c) := by decide +kernel
    exact key c (List.mem_range.mpr h)
  · have h1 : isDig c = false := by
      cases q : isDig c with
      | false => rfl
      | true => exact absurd (isDig_lt q) h
    rw [h1, decide_eq_false (show ¬ c = 45 by omega)]
    have h2 : ∀ x ∈ cs "-0123456789", x < 128 := by decide
    exact decide_eq_false fun z => h (h2 c z)
theorem dig_mem (c : Nat) : decide (c ∈ cs "0123456789") = isDig c := by
  by_cases h : c < 128
  · have key : ∀ c ∈ List.range 128, decide (c ∈ cs "0123456789") = isDig c := by decide +kernel
    exact key c (List.mem_range.mpr h)
  · have h1 : isDig c = false := by
      cases q : isDig c with
      | false => rfl
      | true => exact absurd (isDig_lt q) h
    rw [h1]
    have h2 : ∀ x ∈ cs "0123456789", x < 128 := by decide
    exact decide_eq_false fun z => h (h2 c z)
theorem cut_dots (t : Str) (i : Nat) : decide (cutS t (some (i : Int)) (some ((i : Int) + 3)) = "...") = decide (((cs t).drop i).take 3 = [46, 46, 46]) := by
  refine decide_eq_decide.mpr ?_
  have e : cs (cutS t (some (i : Int)) (some ((i : Int) + 3))) = ((cs t).drop i).take 3 := by
    rw [show ((i : Int) + 3) = ((i + 3 : Nat) : Int) by omega, cut_nat, show i + 3 - i = 3 by omega]
  constructor
  · intro h
    rw [← e, h]
    rfl
  · intro h
    apply cs_inj
    rw [e, h]
    rfl
theorem gd_plain {l : List Nat} (h : ∀ c ∈ l, gd c = true) : l.all plain = !decide (10 ∈ l) := by
  by_cases h1 : 10 ∈ l
  · rw [decide_eq_true h1]
    cases q : l.all plain with
    | false => rfl
    | true => exact absurd (List.all_eq_true.mp q 10 h1) (by decide)
  · rw [decide_eq_false h1]
    refine List.all_eq_true.mpr fun c hc => ?_
    have := h c hc
    unfold gd at this
    rcases Bool.or_eq_true_iff.mp this with q | q
    · exact q
    · exact absurd (of_decide_eq_true q ▸ hc) h1
theorem at3_0 (a b c : D) : atI [a, b, c] 0 = some a := rfl
theorem at3_1 (a b c : D) : atI [a, b, c] 1 = some b := rfl
theorem at3_2 (a b c : D) : atI [a, b, c] 2 = some c := rfl
theorem at2_0 (a b : D) : atI [a, b] 0 = some a := rfl
theorem at2_1 (a b : D) : atI [a, b] 1 = some b := rfl
theorem wd_ft : ¬ ("word" : Str) = "fault" := by decide
theorem nameW_ty {l : List Nat} (h : l.takeWhile isNam = cs "_type") : nameW l = some (("name" : Str), D.str (mk (cs "_type")), run isNam l) := by
  unfold nameW
  rw [if_pos (.inl h), h]
theorem hw_l_word_at : ∀ ds Q E, sp_l_word_at ds Q E → W_l_word_at { nx := fun _ => Q .non, rt := Q } (ρ0 (["text", "at", "sign", "end", "begin", "number", "found"] : List Str).length ds) := by
  rintro ds Q E ⟨t, i, rfl, hi, hl, hg, h⟩
  obtain ⟨c, r, e1, e2, e3, hcm⟩ := at_drop hi
  have ei : ((i : Int) + 1) = ((i + 1 : Nat) : Int) := by omega
  unfold W_l_word_at
  walk_at "dw"
  rw [e3]
  walk_at "dw"
  rw [sg_is]
  refine ⟨by omega, len_one c, ?_⟩
  have hw := e1 ▸ h
  unfold wordL at hw
  simp only at hw
  cases h1 : isSg c with
  | true =>
    rw [if_pos h1] at hw
    walk_at "dw"
    exact ⟨by decide, by decide, hw⟩
  | false =>
    rw [if_neg (by rw [h1]; exact Bool.false_ne_true)] at hw
    walk_at "dw"
    refine ⟨by omega, ?_⟩
    rw [cut_dots, e1]
    by_cases h2 : (c :: r).take 3 = [46, 46, 46]
    · rw [if_pos h2] at hw
      rw [decide_eq_true h2]
      walk_at "dw"
      exact ⟨by decide, by decide, hw⟩
    · rw [if_neg h2] at hw
      rw [decide_eq_false h2]
      walk_at "dw"
      rw [sg_eq c "\"" 34 rfl]
      by_cases h3 : c = 34
      · rw [if_pos h3] at hw
        rw [decide_eq_true h3]
        walk_at "dw"
        have hr := run_len noQ t (i + 1)
        rw [ei, show Txt.find3 t "\"" ((i + 1 : Nat) : Int) = _ from find3_one (t := t) (c := 34) (i := i + 1) (by omega), noQ_eq]
        unfold outL txtW at hw
        rw [List.drop_succ_cons, List.drop_zero, ← e2] at hw
        by_cases hq : 34 ∈ (cs t).drop (i + 1)
        · rw [if_pos hq]
          rw [decide_eq_false (by omega)]
          walk_at "dw"
          have ec : cs (cutS t (some (i : Int)) (some ((i + 1 + run noQ ((cs t).drop (i + 1)) : Nat) : Int))) = 34 :: ((cs t).drop (i + 1)).takeWhile noQ := by
            rw [cut_nat, e1, show i + 1 + run noQ ((cs t).drop (i + 1)) - i = run noQ ((cs t).drop (i + 1)) + 1 by omega, List.take_succ_cons, h3, ← e2, take_run]
          have em : decide (("\n" : Str).cps.getD 0 0 ∈ (cutS t (some (i : Int)) (some ((i + 1 + run noQ ((cs t).drop (i + 1)) : Nat) : Int))).cps.toList) = !(((cs t).drop (i + 1)).takeWhile noQ).all plain := by
            rw [gd_plain fun x hx => hg x (List.mem_of_mem_drop (mem_tw hx)), Bool.not_not]
            refine decide_eq_decide.mpr ?_
            show 10 ∈ cs _ ↔ _
            rw [ec, List.mem_cons]
            constructor
            · intro z
              rcases z with z | z
              · omega
              · exact z
            · exact .inr
          rw [em]
          refine ⟨by omega, by decide, ?_⟩
          cases h4 : (((cs t).drop (i + 1)).takeWhile noQ).all plain with
          | true =>
            rw [if_pos ⟨hq, h4⟩] at hw
            walk_at "dw"
            rw [cut_run]
            refine ⟨by omega, by decide, by decide, ?_⟩
            rw [show ((i + 1 + run noQ ((cs t).drop (i + 1)) : Nat) : Int) + 1 = ((i + (1 + run noQ ((cs t).drop (i + 1)) + 1) : Nat) : Int) by omega]
            exact hw
          | false =>
            rw [if_neg (fun z => by rw [h4] at z; exact Bool.false_ne_true z.2)] at hw
            walk_at "dw"
            exact ⟨by decide, hw⟩
        · rw [if_neg hq]
          rw [if_neg (fun z => hq z.1)] at hw
          rw [decide_eq_true (by decide)]
          walk_at "dw"
          exact ⟨by decide, hw⟩
      · rw [if_neg h3] at hw
        rw [decide_eq_false h3]
        walk_at "dw"
        rw [num_is, sg_eq c "-" 45 rfl, sg_eq c "$" 36 rfl]
        refine ⟨len_one c, ?_⟩
        by_cases h5 : c = 45 ∨ isDig c = true
        · have hc36 : c ≠ 36 := by
            rcases h5 with h5 | h5
            · omega
            · unfold isDig at h5
              have := of_decide_eq_true h5
              omega
          rw [if_neg hc36, if_pos h5] at hw
          have eb : (decide (c = 45) || isDig c) = true := by
            rcases h5 with h5 | h5
            · rw [decide_eq_true h5]; rfl
            · rw [h5, Bool.or_true]
          rw [eb]
          walk_at "dw"
          unfold outL numW at hw
          by_cases h6 : c = 45
          · rw [if_pos (by rw [h6]; rfl), List.drop_succ_cons, List.drop_zero, ← e2] at hw
            have hr := run_len isDig t (i + 1)
            rw [decide_eq_true h6]
            walk_at "dw"
            rw [ei]
            refine ⟨t, _, i + 1, rfl, by omega, hl, ?_⟩
            rw [run_congr dig_mem]
            walk_at "dw"
            by_cases h7 : 1 ≤ run isDig ((cs t).drop (i + 1)) ∧ run isDig ((cs t).drop (i + 1)) ≤ 10
            · rw [if_pos h7] at hw
              rw [decide_eq_false (by omega), decide_eq_false (by omega)]
              walk_at "dw"
              rw [cut_run]
              refine ⟨by omega, by rw [mk_len, tw_len]; omega, _, int_dig (takeWhile_all isDig _) (by rw [tw_len]; omega) (by rw [tw_len]; omega), .inl ⟨by decide, by decide⟩, .inr ⟨by decide, by decide⟩, by decide, by decide, ?_⟩
              rw [show numV (((cs t).drop (i + 1)).takeWhile isDig) - 2 * numV (((cs t).drop (i + 1)).takeWhile isDig) * 1 = - numV (((cs t).drop (i + 1)).takeWhile isDig) by omega, show i + 1 + run isDig ((cs t).drop (i + 1)) = i + (1 + run isDig ((cs t).drop (i + 1))) by omega]
              exact hw
            · rw [if_neg h7] at hw
              by_cases h8 : run isDig ((cs t).drop (i + 1)) = 0
              · rw [decide_eq_true (by omega)]
                walk_at "dw"
                exact ⟨by decide, hw⟩
              · rw [decide_eq_false (by omega), decide_eq_true (by omega)]
                walk_at "dw"
                exact ⟨by decide, hw⟩
          · rw [if_neg (by intro z; exact h6 (Option.some.inj z)), ← e1] at hw
            have hr := run_len isDig t i
            rw [decide_eq_false h6]
            walk_at "dw"
            rw [Int.add_zero]
            refine ⟨t, _, i, rfl, by omega, hl, ?_⟩
            rw [run_congr dig_mem]
            walk_at "dw"
            by_cases h7 : 1 ≤ run isDig ((cs t).drop i) ∧ run isDig ((cs t).drop i) ≤ 10
            · rw [if_pos h7] at hw
              rw [decide_eq_false (by omega), decide_eq_false (by omega)]
              walk_at "dw"
              rw [cut_run]
              refine ⟨by omega, by rw [mk_len, tw_len]; omega, _, int_dig (takeWhile_all isDig _) (by rw [tw_len]; omega) (by rw [tw_len]; omega), .inl ⟨by decide, by decide⟩, .inr ⟨by decide, by decide⟩, by decide, by decide, ?_⟩
              rw [show numV (((cs t).drop i).takeWhile isDig) - 2 * numV (((cs t).drop i).takeWhile isDig) * 0 = numV (((cs t).drop i).takeWhile isDig) by omega]
              exact hw
            · rw [if_neg h7] at hw
              by_cases h8 : run isDig ((cs t).drop i) = 0
              · rw [decide_eq_true (by omega)]
                walk_at "dw"
                exact ⟨by decide, hw⟩
              · rw [decide_eq_false (by omega), decide_eq_true (by omega)]
                walk_at "dw"
                exact ⟨by decide, hw⟩
        · have eb : (decide (c = 45) || isDig c) = false := by
            cases q : (decide (c = 45) || isDig c) with
            | false => rfl
            | true => exact absurd (by rcases Bool.or_eq_true_iff.mp q with q | q; exact .inl (of_decide_eq_true q); exact .inr q) h5
          rw [eb]
          walk_at "dw"
          by_cases h4 : c = 36
          · rw [if_pos h4] at hw
            rw [decide_eq_true h4]
            walk_at "dw"
            rw [ei]
            refine ⟨t, i + 1, i, rfl, by omega, hl, ?_⟩
            unfold outL varW at hw
            rw [List.drop_succ_cons, List.drop_zero, ← e2] at hw
            by_cases h7 : ((cs t).drop (i + 1)).takeWhile isNam = cs "_type"
            · rw [h7, ty_no, if_neg Bool.false_ne_true] at hw
              rw [nameW_ty h7]
              walk_at "dw"
              rw [at3_0, at3_1, mk_cs]
              walk_at "dw"
              rw [decide_eq_false wd_ft]
              walk_at "dw"
              exact ⟨by decide, hw⟩
            · unfold nameW
              cases h8 : nameL (((cs t).drop (i + 1)).takeWhile isNam) with
              | true =>
                rw [if_pos h8] at hw
                rw [if_pos (.inr rfl)]
                walk_at "dw"
                rw [at3_0, at3_1, at3_2]
                walk_at "dw"
                rw [decide_eq_false wd_ft, mk_eq, decide_eq_false h7]
                walk_at "dw"
                rw [at2_1]
                walk_at "dw"
                refine ⟨by decide, by decide, by decide, ?_⟩
                rw [show i + 1 + run isNam ((cs t).drop (i + 1)) = i + (1 + run isNam ((cs t).drop (i + 1))) by omega]
                exact hw
              | false =>
                rw [if_neg (by rw [h8]; exact Bool.false_ne_true)] at hw
                rw [if_neg (fun z => by rcases z with z | z; exact h7 z; cases z)]
                walk_at "dw"
                rw [at2_0]
                walk_at "dw"
                exact ⟨by decide, hw⟩
          · rw [if_neg h4, if_neg h5, ← e1] at hw
            rw [decide_eq_false h4]
            walk_at "dw"
            rw [Int.add_zero]
            refine ⟨t, i, i, rfl, by omega, hl, ?_⟩
            unfold outL at hw
            by_cases h7 : ((cs t).drop i).takeWhile isNam = cs "_type" ∨ nameL (((cs t).drop i).takeWhile isNam) = true
            · unfold nameW at hw ⊢
              rw [if_pos h7] at hw ⊢
              walk_at "dw"
              rw [at3_0, at3_1, at3_2]
              walk_at "dw"
              rw [decide_eq_false wd_ft]
              walk_at "dw"
              rw [at2_0]
              walk_at "dw"
              exact ⟨by decide, by decide, by decide, hw⟩
            · unfold nameW at hw ⊢
              rw [if_neg h7] at hw ⊢
              walk_at "dw"
              rw [at2_0]
              walk_at "dw"
              exact ⟨by decide, hw⟩
end K5
set_option Elab.async false
set_option linter.all false
set_option maxRecDepth 100000
set_option maxHeartbeats 4000000
namespace K5
open PySem L2 Dl
local macro_rules | `(tactic| walk_at "dw") => `(tactic| simp only [wSB, wSB1, wVar, wC, wOp, wB, wNotT, wAndT, wOrT, wAndV, wOrV, wNotV, wIfE, wChain, wNil, wCons, wTup, wLst, wNext, wSeq, wSet, wAsg, wDrop, wRet, wRetN, wBrk, wCont, wIf, wiL, wiT, wiR, wFor, wCall0, wCall, wCB, wM0, wM1, wNo, wPart, wSl, wYes, wLc, wipeD, wNeg, wTru, wFmt, wJoined, wJs, wRaise1, wStw, wiS, wAug, wiR2, wSt3, wFind, wApp, wNewL, wFrzL, Sl.OL, wRaiseF, rdCints, rdRep, wNameEnd, wgName, wgNil, wgCons, wgTup,
  Sl.V, D.I, D.B, D.S, D.L, D.T, D.K, D.len, D.tru, rdI, rdI0, rdLt, rdLe, rdGt, rdGe, rdEq, rdNe, eqS, rdIsN, rdNotN, rdAdd, rdIx, rdSl, rdInS, rdLen, rdOrd, rdAll, rdAny, rdIsi, rdFmt, rdJoin, rdCint, tyN, ρ0, List.map_cons, List.map_nil, List.length_cons, List.length_nil, List.replicate, List.append, List.cons_append, List.nil_append, List.getElem?_cons_zero, List.getElem?_cons_succ, List.set_cons_zero, List.set_cons_succ, Nat.add_sub_cancel, Nat.sub_self, Nat.zero_add, Nat.reduceAdd, Nat.reduceSub, if_true, if_false, true_and, and_true, decide_true, decide_false, true_or, or_true, ia_NoneType_bool, ia_NoneType_int, ia_NoneType_str, ia_NoneType_list, ia_NoneType_tuple, ia_NoneType_dict, ia_bool_bool, ia_bool_int, ia_bool_str, ia_bool_list, ia_bool_tuple, ia_bool_dict, ia_int_bool, ia_int_int, ia_int_str, ia_int_list, ia_int_tuple, ia_int_dict, ia_str_bool, ia_str_int, ia_str_str, ia_str_list, ia_str_tuple, ia_str_dict, ia_list_bool, ia_list_int, ia_list_str, ia_list_list, ia_list_tuple, ia_list_dict, ia_tuple_bool, ia_tuple_int, ia_tuple_str, ia_tuple_list, ia_tuple_tuple, ia_tuple_dict, ia_dict_bool, ia_dict_int, ia_dict_str, ia_dict_list, ia_dict_tuple, ia_dict_dict, inT_bool, inT_int, inT_str, inT_list, inT_tuple, inT_dict, Bool.false_xor, Bool.true_xor, Bool.not_eq_true, Bool.not_true, Bool.not_false, Bool.false_eq_true, ite_false, ite_true, reduceCtorEq])
local macro_rules | `(tactic| walk_at "dv") => `(tactic| simp only [wSB, wSB1, wVar, wC, wOp, wB, wNotT, wAndT, wOrT, wAndV, wOrV, wNotV, wIfE, wChain, wNil, wCons, wTup, wLst, wNext, wSeq, wSet, wAsg, wDrop, wRet, wRetN, wBrk, wCont, wIf, wiL, wiT, wiR, wFor, wCall0, wCall, wCB, wM0, wM1, wNo, wPart, wSl, wYes, wLc, wipeD, wNeg, wTru, wFmt, wJoined, wJs, wRaise1, wStw, wiS, wAug, wiR2, wSt3, wFind, wApp, wNewL, wFrzL, Sl.OL, wRaiseF, rdCints, rdRep, wNameEnd, wgName, wgNil, wgCons, wgTup,
  Sl.V, D.I, D.B, D.S, D.L, D.T, D.K, D.len, D.tru, rdI, rdI0, rdLt, rdLe, rdGt, rdGe, rdIsN, rdNotN, rdAdd, rdIx, rdSl, rdInS, rdLen, rdOrd, rdAll, rdAny, rdIsi, rdFmt, rdJoin, rdCint, tyN, ρ0, List.map_cons, List.map_nil, List.length_cons, List.length_nil, List.replicate, List.append, List.cons_append, List.nil_append, List.getElem?_cons_zero, List.getElem?_cons_succ, List.set_cons_zero, List.set_cons_succ, Nat.add_sub_cancel, Nat.sub_self, Nat.zero_add, Nat.reduceAdd, Nat.reduceSub, if_true, if_false, true_and, and_true, decide_true, decide_false, true_or, or_true, ia_NoneType_bool, ia_NoneType_int, ia_NoneType_str, ia_NoneType_list, ia_NoneType_tuple, ia_NoneType_dict, ia_bool_bool, ia_bool_int, ia_bool_str, ia_bool_list, ia_bool_tuple, ia_bool_dict, ia_int_bool, ia_int_int, ia_int_str, ia_int_list, ia_int_tuple, ia_int_dict, ia_str_bool, ia_str_int, ia_str_str, ia_str_list, ia_str_tuple, ia_str_dict, ia_list_bool, ia_list_int, ia_list_str, ia_list_list, ia_list_tuple, ia_list_dict, ia_tuple_bool, ia_tuple_int, ia_tuple_str, ia_tuple_list, ia_tuple_tuple, ia_tuple_dict, ia_dict_bool, ia_dict_int, ia_dict_str, ia_dict_list, ia_dict_tuple, ia_dict_dict, inT_bool, inT_int, inT_str, inT_list, inT_tuple, inT_dict, Bool.false_xor, Bool.true_xor, Bool.not_eq_true, Bool.not_true, Bool.not_false, Bool.false_eq_true, ite_false, ite_true, reduceCtorEq])
theorem len_l_split {ds : List D} {Q : D → Prop} {E : Exn → Prop} (h : sp_l_split ds Q E) : ds.length = (["text"] : List Str).length := by
  obtain ⟨t, rfl, _⟩ := h
  rfl
theorem blk_run (l : List Nat) : run (fun c => decide (c ∈ cs " \n,")) l = run isBlk l := rfl
theorem hw_l_split : ∀ ds Q E, sp_l_split ds Q E → W_l_split { nx := fun _ => Q .non, rt := Q } (ρ0 (["text", "words", "at", "k", "found"] : List Str).length ds) := by
  rintro ds Q E ⟨t, rfl, hl, hg, h⟩
  have hr0 := run_len isBlk t 0
  unfold W_l_split
  walk_at "dw"
  refine ⟨t, _, 0, rfl, Nat.zero_le _, hl, ?_⟩
  rw [blk_run]
  walk_at "dw"
  rw [if_pos (show t.length ≤ 1000000 by omega)]
  walk_at "dw"
  refine ⟨by omega, ?_⟩
  refine for_rule (fun xs ρ => ∃ (i : Nat) (acc : List D) (a b : Sl), ρ = [.val (.str t), .ol acc, .val (.int (i : Nat)), a, b] ∧ i ≤ t.length ∧ t.length - i ≤ xs.length ∧ acc.length ≤ i ∧ (∀ c r, (cs t).drop i = c :: r → isBlk c = false) ∧ (match spl i ((cs t).drop i) with
      | .inl j => Q (.tup [.str "fault", .int (j : Nat)])
      | .inr ws => Q (.tup [.str "words", .lst (acc ++ ws)]))) ?_ ?_ _ _ ⟨run isBlk ((cs t).drop 0), [], _, _, rfl, by omega, ?_, Nat.zero_le _, ?_, ?_⟩
  · rintro x xs ρ N ⟨i, acc, a, b, rfl, h1, h2, h3, hb, hk⟩ ih
    unfold W_l_split_b1
    walk_at "dw"
    rw [if_pos (show t.length ≤ 1000000 by omega)]
    walk_at "dw"
    simp only [List.length_cons] at h2
    by_cases hlt : i < t.length
    · rw [decide_eq_true (by omega)]
      walk_at "dw"
      obtain ⟨c, r, e1, e2, e3, _⟩ := at_drop hlt
      refine ⟨t, i, rfl, hlt, hl, hg, ?_⟩
      rw [e1, spl_word (hb c r e1)] at hk
      rw [e1]
      unfold outL
      cases hw : wordL (c :: r) with
      | none =>
        rw [hw] at hk
        walk_at "dw"
        rw [at2_0, at2_1]
        walk_at "dw"
        exact ⟨by decide, hk⟩
      | some y =>
        obtain ⟨kk, d, n⟩ := y
        rw [hw] at hk
        obtain ⟨n1, n2, _⟩ := wordL_ok hw
        have hlen : (c :: r).length = t.length - i := by rw [← e1, List.length_drop, cs_len]
        simp only at hk
        rw [← e1, List.drop_drop] at hk
        walk_at "dw"
        rw [at3_0, at3_1, at3_2]
        walk_at "dw"
        rw [decide_eq_false wd_ft]
        walk_at "dw"
        have hr := run_len isBlk t (i + n)
        refine ⟨by decide, ⟨by simp, by decide⟩, by omega, t, _, i + n, rfl, by omega, hl, ?_⟩
        rw [blk_run]
        rw [spl_skip, List.drop_drop] at hk
        refine ih _ ⟨i + n + run isBlk ((cs t).drop (i + n)), acc ++ [.tup [.int (i : Nat), .str kk, d]], _, _, rfl, by omega, by omega, by rw [List.length_append]; simp only [List.length_cons, List.length_nil]; omega, ?_, ?_⟩
        · intro c' r' e
          rw [← List.drop_drop] at e
          exact run_rest isBlk _ c' r' e
        · cases hs : spl (i + n + run isBlk ((cs t).drop (i + n))) ((cs t).drop (i + n + run isBlk ((cs t).drop (i + n)))) with
          | inl j =>
            rw [hs] at hk
            exact hk
          | inr ws =>
            rw [hs] at hk
            simp only at hk ⊢
            rw [List.append_assoc]
            exact hk
    · rw [decide_eq_false (by omega)]
      walk_at "dw"
      exact ih _ ⟨i, acc, _, _, rfl, h1, by omega, h3, hb, hk⟩
  · rintro ρ ⟨i, acc, a, b, rfl, h1, h2, h3, hb, hk⟩
    simp only [List.length_nil] at h2
    rw [drop_all (by omega), spl_nil] at hk
    simp only [List.append_nil] at hk
    walk_at "dw"
    exact ⟨by decide, hk⟩
  · have : (rngD (t.length : Nat)).length = t.length := by
      unfold rngD
      rw [List.length_map, List.length_range]
      omega
    omega
  · intro c r e
    rw [show run isBlk ((cs t).drop 0) = run isBlk (cs t) by rw [List.drop_zero]] at e
    exact run_rest isBlk _ c r e
  · have e : spl 0 (cs t) = spl (run isBlk ((cs t).drop 0)) ((cs t).drop (run isBlk ((cs t).drop 0))) := by
      have := spl_skip (cs t) 0
      rw [Nat.zero_add] at this
      rw [List.drop_zero]
      exact this
    rw [← e]
    unfold encS at h
    cases hs : spl 0 (cs t) with
    | inl j => rw [hs] at h; exact h
    | inr ws => rw [hs] at h; exact h
theorem len_l_piece {ds : List D} {Q : D → Prop} {E : Exn → Prop} (h : sp_l_piece ds Q E) : ds.length = (["state", "script"] : List Str).length := by
  obtain ⟨ns, rfl, _⟩ := h
  rfl
def pcs : List Str := [("query" : Str), ("a" : Str), ("A_1" : Str), ("_type" : Str), ("_" : Str), ("_types" : Str), ("..." : Str), (".." : Str), ("." : Str), ("$v" : Str), ("$" : Str), ("$_type" : Str), ("$9" : Str), ("{" : Str), ("}" : Str), ("(" : Str), (")" : Str), (":" : Str), ("=" : Str), ("!" : Str), ("[" : Str), ("]" : Str), ("@" : Str), ("@if" : Str), ("-" : Str), ("-7" : Str), ("0" : Str), ("007" : Str), ("1234567890" : Str), ("12345678901" : Str), ("-1234567890" : Str), ("9a" : Str), ("\"" : Str), ("\"x y\"" : Str), ("\"\"" : Str), ("\"{,\n\"" : Str), Txt.mul ("n" : Str) 30, Txt.mul ("n" : Str) 31, ("#" : Str), ("&" : Str), ("on" : Str), ("true" : Str), ("null" : Str), ("\"open" : Str), ("~" : Str)]
theorem pcs_ok : ∀ s ∈ pcs, s.length ≤ 31 ∧ ∀ c ∈ cs s, gd c = true := by decide +kernel
theorem hw_l_piece : ∀ ds Q E, sp_l_piece ds Q E → W_l_piece { nx := fun _ => Q .non, rt := Q } (ρ0 (["state", "script", "pieces"] : List Str).length ds) := by
  rintro ds Q E ⟨ns, rfl, h⟩
  unfold W_l_piece
  walk_at "dw"
  refine ⟨⟨by decide, by decide, by decide⟩, ⟨by decide, by decide, by decide⟩, by decide, ns, 45, rfl, by decide, by decide, fun d hd0 hd1 => ?_⟩
  walk_at "dw"
  show match atI (pcs.map .str) d with
    | some d => Q d
    | none => False
  obtain ⟨j, rfl⟩ : ∃ j : Nat, d = (j : Int) := ⟨d.toNat, by omega⟩
  have hj : j < pcs.length := by
    show j < 45
    omega
  rw [atI_nat (v := .str pcs[j]) (by rw [List.getElem?_map, List.getElem?_eq_getElem hj]; rfl)]
  have := pcs_ok _ (List.getElem_mem hj)
  exact h _ this.1 this.2
end K5
set_option Elab.async false
set_option linter.all false
set_option maxRecDepth 100000
set_option maxHeartbeats 4000000
namespace K5
open PySem L2 Dl
local macro_rules | `(tactic| walk_at "dw") => `(tactic| simp only [wSB, wSB1, wVar, wC, wOp, wB, wNotT, wAndT, wOrT, wAndV, wOrV, wNotV, wIfE, wChain, wNil, wCons, wTup, wLst, wNext, wSeq, wSet, wAsg, wDrop, wRet, wRetN, wBrk, wCont, wIf, wiL, wiT, wiR, wFor, wCall0, wCall, wCB, wM0, wM1, wNo, wPart, wSl, wYes, wLc, wipeD, wNeg, wTru, wFmt, wJoined, wJs, wRaise1, wStw, wiS, wAug, wiR2, wSt3, wFind, wApp, wNewL, wFrzL, Sl.OL, wRaiseF, rdCints, rdRep, wNameEnd, wgName, wgNil, wgCons, wgTup,
  Sl.V, D.I, D.B, D.S, D.L, D.T, D.K, D.len, D.tru, rdI, rdI0, rdLt, rdLe, rdGt, rdGe, rdEq, rdNe, eqS, rdIsN, rdNotN, rdAdd, rdIx, rdSl, rdInS, rdLen, rdOrd, rdAll, rdAny, rdIsi, rdFmt, rdJoin, rdCint, tyN, ρ0, List.map_cons, List.map_nil, List.length_cons, List.length_nil, List.replicate, List.append, List.cons_append, List.nil_append, List.getElem?_cons_zero, List.getElem?_cons_succ, List.set_cons_zero, List.set_cons_succ, Nat.add_sub_cancel, Nat.sub_self, Nat.zero_add, Nat.reduceAdd, Nat.reduceSub, if_true, if_false, true_and, and_true, decide_true, decide_false, true_or, or_true, ia_NoneType_bool, ia_NoneType_int, ia_NoneType_str, ia_NoneType_list, ia_NoneType_tuple, ia_NoneType_dict, ia_bool_bool, ia_bool_int, ia_bool_str, ia_bool_list, ia_bool_tuple, ia_bool_dict, ia_int_bool, ia_int_int, ia_int_str, ia_int_list, ia_int_tuple, ia_int_dict, ia_str_bool, ia_str_int, ia_str_str, ia_str_list, ia_str_tuple, ia_str_dict, ia_list_bool, ia_list_int, ia_list_str, ia_list_list, ia_list_tuple, ia_list_dict, ia_tuple_bool, ia_tuple_int, ia_tuple_str, ia_tuple_list, ia_tuple_tuple, ia_tuple_dict, ia_dict_bool, ia_dict_int, ia_dict_str, ia_dict_list, ia_dict_tuple, ia_dict_dict, inT_bool, inT_int, inT_str, inT_list, inT_tuple, inT_dict, Bool.false_xor, Bool.true_xor, Bool.not_eq_true, Bool.not_true, Bool.not_false, Bool.false_eq_true, ite_false, ite_true, reduceCtorEq])
local macro_rules | `(tactic| walk_at "dv") => `(tactic| simp only [wSB, wSB1, wVar, wC, wOp, wB, wNotT, wAndT, wOrT, wAndV, wOrV, wNotV, wIfE, wChain, wNil, wCons, wTup, wLst, wNext, wSeq, wSet, wAsg, wDrop, wRet, wRetN, wBrk, wCont, wIf, wiL, wiT, wiR, wFor, wCall0, wCall, wCB, wM0, wM1, wNo, wPart, wSl, wYes, wLc, wipeD, wNeg, wTru, wFmt, wJoined, wJs, wRaise1, wStw, wiS, wAug, wiR2, wSt3, wFind, wApp, wNewL, wFrzL, Sl.OL, wRaiseF, rdCints, rdRep, wNameEnd, wgName, wgNil, wgCons, wgTup,
  Sl.V, D.I, D.B, D.S, D.L, D.T, D.K, D.len, D.tru, rdI, rdI0, rdLt, rdLe, rdGt, rdGe, rdIsN, rdNotN, rdAdd, rdIx, rdSl, rdInS, rdLen, rdOrd, rdAll, rdAny, rdIsi, rdFmt, rdJoin, rdCint, tyN, ρ0, List.map_cons, List.map_nil, List.length_cons, List.length_nil, List.replicate, List.append, List.cons_append, List.nil_append, List.getElem?_cons_zero, List.getElem?_cons_succ, List.set_cons_zero, List.set_cons_succ, Nat.add_sub_cancel, Nat.sub_self, Nat.zero_add, Nat.reduceAdd, Nat.reduceSub, if_true, if_false, true_and, and_true, decide_true, decide_false, true_or, or_true, ia_NoneType_bool, ia_NoneType_int, ia_NoneType_str, ia_NoneType_list, ia_NoneType_tuple, ia_NoneType_dict, ia_bool_bool, ia_bool_int, ia_bool_str, ia_bool_list, ia_bool_tuple, ia_bool_dict, ia_int_bool, ia_int_int, ia_int_str, ia_int_list, ia_int_tuple, ia_int_dict, ia_str_bool, ia_str_int, ia_str_str, ia_str_list, ia_str_tuple, ia_str_dict, ia_list_bool, ia_list_int, ia_list_str, ia_list_list, ia_list_tuple, ia_list_dict, ia_tuple_bool, ia_tuple_int, ia_tuple_str, ia_tuple_list, ia_tuple_tuple, ia_tuple_dict, ia_dict_bool, ia_dict_int, ia_dict_str, ia_dict_list, ia_dict_tuple, ia_dict_dict, inT_bool, inT_int, inT_str, inT_list, inT_tuple, inT_dict, Bool.false_xor, Bool.true_xor, Bool.not_eq_true, Bool.not_true, Bool.not_false, Bool.false_eq_true, ite_false, ite_true, reduceCtorEq])
abbrev dL : DEnds := { nx := fun _ => False, rt := fun d => d = .bl true }
def seps : List Str := [("" : Str), (" " : Str), ("," : Str), ("\n" : Str), (" , " : Str), (" " : Str)]
theorem seps_ok : ∀ s ∈ seps, s.length ≤ 3 ∧ ∀ c ∈ cs s, gd c = true := by decide +kernel
theorem ws_ft : ¬ ("words" : Str) = "fault" := by decide
theorem law_5 {ns : List Int} {t : Str} {ws : List D} {a b c e : Sl} (hw : ∀ d ∈ ws, wOk d) : W_law_s5 dL [.val (.scr ns), .val .drw, .val (.str t), a, .val (encS (.inr ws)), b, c, e] := by
  unfold W_law_s5 encS
  walk_at "dw"
  rw [at2_1]
  walk_at "dw"
  refine for_rule (fun xs ρ => ∃ (b c e : Sl), ρ = [.val (.scr ns), .val .drw, .val (.str t), a, .val (encS (.inr ws)), b, c, e] ∧ ∀ d ∈ xs, wOk d) ?_ ?_ _ _ ⟨b, c, e, rfl, hw⟩
  · rintro x xs ρ N ⟨b, c, e, rfl, hx⟩ ih
    obtain ⟨i, k, v, rfl, hk, _, _, _⟩ := hx x List.mem_cons_self
    unfold W_law_b2
    walk_at "dw"
    have go : ∀ ρ', (∃ (b c e : Sl), ρ' = [.val (.scr ns), .val .drw, .val (.str t), a, .val (encS (.inr ws)), b, c, e] ∧ ∀ d ∈ xs, wOk d) → N ρ' := ih
    have hx' : ∀ d ∈ xs, wOk d := fun d h => hx d (List.mem_cons_of_mem _ h)
    rcases hk with ⟨rfl, j, rfl⟩ | ⟨hk, s, rfl⟩
    · walk_at "dw"
      exact ih _ ⟨_, _, _, rfl, hx'⟩
    · walk_at "dw"
      rw [decide_eq_false hk]
      walk_at "dw"
      exact ih _ ⟨_, _, _, rfl, hx'⟩
  · rintro ρ ⟨b, c, e, rfl, _⟩
    unfold W_law_s6
    walk_at "dw"
theorem law_2 {ns : List Int} {t : Str} {a b c d e : Sl} (hl : t.length ≤ 1000) (hg : ∀ c ∈ cs t, gd c = true) : W_law_s2 dL [.val (.scr ns), .val .drw, .val (.str t), a, b, c, d, e] := by
  unfold W_law_s2 W_law_s3
  walk_at "dv"
  refine ⟨t, rfl, hl, ?_⟩
  walk_at "dv"
  refine ⟨t, rfl, hl, hg, ?_⟩
  refine ne_same (encS_ok hg) ?_
  walk_at "dv"
  unfold W_law_s4
  cases hs : spl 0 (cs t) with
  | inl j =>
    unfold encS
    walk_at "dw"
    rw [at2_0]
    walk_at "dw"
  | inr ws =>
    have hw := (spl_ok _ (cs t) 0 ws (Nat.le_refl _) hg hs).1
    have l5 := law_5 (ns := ns) (t := t) (ws := ws) (a := a) (b := c) (c := d) (e := e) hw
    unfold encS at l5 ⊢
    walk_at "dw"
    rw [at2_0]
    walk_at "dw"
    rw [decide_eq_false ws_ft]
    walk_at "dw"
    exact l5
theorem hw_law (ns : List Int) (h : ns.length ≤ 63) : W_law { nx := fun _ => False, rt := fun d => d = .bl true } (.val (.scr ns) :: .val .drw :: List.replicate ((["script", "state", "text", "k", "told", "place", "kind", "word"] : List Str).length - 2) .un) := by
  unfold W_law W_law_s1
  walk_at "dw"
  refine ⟨ns, 15, rfl, by decide, by decide, fun n hn0 hn1 => ?_⟩
  walk_at "dw"
  refine ⟨by omega, ?_⟩
  have hlen : (rngD n).length ≤ 14 := by
    unfold rngD
    rw [List.length_map, List.length_range]
    omega
  refine for_rule (fun xs ρ => ∃ (t : Str) (a : Sl), ρ = [.val (.scr ns), .val .drw, .val (.str t), a, .un, .un, .un, .un] ∧ t.length + 34 * xs.length ≤ 476 ∧ ∀ c ∈ cs t, gd c = true) ?_ ?_ _ _ ⟨"", _, rfl, by have : ("" : Str).length = 0 := rfl; omega, fun c hc => by cases hc⟩
  · rintro x xs ρ N ⟨t, a, rfl, h1, h2⟩ ih
    unfold W_law_b1
    simp only [List.length_cons] at h1
    walk_at "dw"
    refine ⟨ns, rfl, fun s hs1 hs2 => ?_⟩
    walk_at "dw"
    refine ⟨by omega, by decide, ns, 6, rfl, by decide, by decide, fun d hd0 hd1 => ?_⟩
    walk_at "dw"
    obtain ⟨j, rfl⟩ : ∃ j : Nat, d = (j : Int) := ⟨d.toNat, by omega⟩
    have hj : j < seps.length := by
      show j < 6
      omega
    have e : atI [D.str "", D.str " ", D.str ",", D.str "\n", D.str " , ", D.str " "] (j : Int) = some (.str seps[j]) := atI_nat (xs := seps.map D.str) (v := D.str seps[j]) (by rw [List.getElem?_map, List.getElem?_eq_getElem hj]; rfl)
    rw [e]
    walk_at "dw"
    obtain ⟨o1, o2⟩ := seps_ok _ (List.getElem_mem hj)
    refine ⟨by rw [len_app]; omega, ih _ ⟨_, _, rfl, by rw [len_app, len_app]; omega, fun c hc => ?_⟩⟩
    rw [cs_app, cs_app] at hc
    rcases List.mem_append.mp hc with hc | hc
    · rcases List.mem_append.mp hc with hc | hc
      · exact h2 c hc
      · exact hs2 c hc
    · exact o2 c hc
  · rintro ρ ⟨t, a, rfl, h1, h2⟩
    simp only [List.length_nil] at h1
    exact law_2 (by omega) h2
end K5
set_option Elab.async false
set_option linter.all false
set_option maxRecDepth 100000
set_option maxHeartbeats 2000000
namespace Dl
open PySem PySem.Spec PyProof.Rows L2
/-! ### an object that is read on: its list of words, and how far it has been read -/
structure RdC where
  x : Addr
  dx : Addr
  a : Addr
structure Kr where
  s : Addr
  xd : Exn → Prop
  xk : XK
  C : Addr
  R : RdC
  ws : List D
abbrev Kr.cc (k : Kr) : Cc := ⟨k.s, k.xd, k.xk⟩
def rdo (C : Addr) (R : RdC) (n : Nat) : HO := .ins C R.dx [("words", .ref R.a), ("at", .int (n : Nat))]
abbrev rr (r : Rt) (C : Addr) (R : RdC) (n : Nat) : Rt := ⟨r.Z0, upd r.H0 R.x (rdo C R n), r.Zl⟩
structure RS (X : Cx) (k : Kr) (r : Rt) : Prop where
  z0 : r.Z0 k.R.x = none
  xs : k.R.x ≠ k.s
  wsz : ∃ us, r.Zl k.R.a = some (.lst us) ∧ RpA (wc X k.s) r.Zl us k.ws
  lk : ∀ (n : Nat) (Z H : Hp) (ex : Exn) (cls : Value) (od : Option Addr), Stp k.s r.Z0 (upd r.H0 k.R.x (rdo k.C k.R n)) Z H → ExR (wc X k.s) Z H ex cls od → k.xd ex → k.xk cls od H
abbrev OkR (X : Cx) (k : Kr) (r : Rt) (Z H : Hp) (σ : L2.St) (ρ : En) (n : Nat) : Prop := Ok (wc X k.s) k.cc (rr r k.C k.R n) Z H σ ρ
section
variable {X : Cx} {k : Kr} {r : Rt} {Z H Z' H' : Hp} {σ : L2.St} {ρ : En} {n n' : Nat}
theorem OkR.obj (O : OkR X k r Z H σ ρ n) (S : RS X k r) : H k.R.x = some (rdo k.C k.R n) := O.en.hh _ _ upd_same S.xs
theorem OkR.zx (O : OkR X k r Z H σ ρ n) (S : RS X k r) : Z k.R.x = none := by
  cases z : Z k.R.x with
  | none => rfl
  | some o =>
    rcases O.en.nw _ _ z with e | e
    · rw [show (rr r k.C k.R n).Z0 k.R.x = r.Z0 k.R.x from rfl, S.z0] at e
      cases e
    · rw [show (rr r k.C k.R n).H0 k.R.x = some _ from upd_same] at e
      cases e
theorem OkR.words (O : OkR X k r Z H σ ρ n) (S : RS X k r) : ∃ us, Z k.R.a = some (.lst us) ∧ RpA (wc X k.s) Z us k.ws := by
  obtain ⟨us, h1, h2⟩ := S.wsz
  exact ⟨us, O.lb _ _ h1, h2.mono O.lb⟩
theorem stok_upd {s x : Addr} {o : HO} {G : Hp} (h : StOk s G) (n : x ≠ s) : StOk s (upd G x o) := by
  obtain ⟨i, j, h1, h2, h3⟩ := h
  exact ⟨i, j, by rw [upd_ne n.symm]; exact h1, h2, h3⟩
theorem stok_back {s x : Addr} {o : HO} {G : Hp} (h : StOk s (upd G x o)) (n : x ≠ s) : StOk s G := by
  obtain ⟨i, j, h1, h2, h3⟩ := h
  exact ⟨i, j, by rw [upd_ne n.symm] at h1; exact h1, h2, h3⟩
theorem OkR.jump (O : OkR X k r Z H σ ρ n) (S : RS X k r) (n' : Nat) : OkR X k r Z (upd H k.R.x (rdo k.C k.R n')) σ ρ n' := by
  have zx := O.zx S
  have ox := O.obj S
  have nx : ∀ a, upd r.H0 k.R.x (rdo k.C k.R n) a = none → a ≠ k.R.x := fun a e z => by
    rw [z, upd_same] at e
    cases e
  refine ⟨⟨O.en.zz, ⟨fun a o e => ?_, stok_upd O.en.bs.st S.xs, O.en.bs.zs⟩, fun a o e => ?_, fun a o e ns => ?_⟩, stok_upd (stok_back O.s0 S.xs) S.xs, O.lb, fun i t ht => ?_, fun i t a ht ho ha => ?_, O.ds, S.lk n'⟩
  · have : a ≠ k.R.x := fun z => by rw [z, zx] at e; cases e
    rw [upd_ne this]
    exact O.en.bs.zh a o e
  · rcases O.en.nw a o e with z | z
    · exact .inl z
    · right
      have h1 := nx a z
      show upd r.H0 k.R.x _ a = none
      rw [upd_ne h1]
      rw [show (rr r k.C k.R n).H0 a = r.H0 a from upd_ne h1] at z
      exact z
  · by_cases z : a = k.R.x
    · rw [z] at e ⊢
      rw [show (rr r k.C k.R n').H0 k.R.x = some _ from upd_same] at e
      rw [upd_same]
      exact e
    · rw [show (rr r k.C k.R n').H0 a = r.H0 a from upd_ne z] at e
      rw [upd_ne z]
      exact O.en.hh a o (by rw [show (rr r k.C k.R n).H0 a = r.H0 a from upd_ne z]; exact e) ns
  · obtain ⟨o, h1, h2⟩ := O.sl i t ht
    refine ⟨o, h1, ?_⟩
    cases t with
    | un => trivial
    | val d => exact h2
    | ol ds =>
      obtain ⟨a, vs, e, h3, h4⟩ := h2
      have := (O.ow i _ a ht rfl (by rw [h1, e])).2.1
      exact ⟨a, vs, e, by rw [upd_ne (nx a this)]; exact h3, h4⟩
    | od ds =>
      obtain ⟨a, vs, e, h3, h4⟩ := h2
      have := (O.ow i _ a ht rfl (by rw [h1, e])).2.1
      exact ⟨a, vs, e, by rw [upd_ne (nx a this)]; exact h3, h4⟩
  · obtain ⟨q1, q2, q3⟩ := O.ow i t a ht ho ha
    refine ⟨q1, ?_, q3⟩
    have h1 := nx a q2
    show upd r.H0 k.R.x _ a = none
    rw [upd_ne h1]
    rw [show (rr r k.C k.R n).H0 a = r.H0 a from upd_ne h1] at q2
    exact q2
theorem OkR.step (O : OkR X k r Z H σ ρ n) (S : RS X k r) (st : Stp k.s Z (upd H k.R.x (rdo k.C k.R n')) Z' H') : OkR X k r Z' H' σ ρ n' := (O.jump S n').stp st
end
/-! ### judgements that follow how far it has been read -/
abbrev WEx := En → Nat → (D → Nat → Prop) → Prop
abbrev WAx := En → Nat → (List D → Nat → Prop) → Prop
abbrev WTx := En → Nat → (Bool → Nat → Prop) → Prop
structure EndsX where
  nx : En → Nat → Prop
  rt : D → Nat → Prop
  bk : En → Nat → Prop := fun _ _ => False
  ct : En → Nat → Prop := fun _ _ => False
abbrev WSx := EndsX → En → Nat → Prop
def DEx (X : Cx) (k : Kr) (e : Expr) (w : WEx) : Prop := ∃ t, PE X e t ∧ ∀ (r : Rt), RS X k r → ∀ (Z H : Hp) (σ : L2.St) (ρ : En) (n : Nat) (Qd : D → Nat → Prop) (Q : VK), OkR X k r Z H σ ρ n → w ρ n Qd →
  (∀ d v Z' H' n', OkR X k r Z' H' σ ρ n' → Same Z Z' → Rp (wc X k.s) Z' v d → Qd d n' → Q v H') → t σ H Q
def DAx (X : Cx) (k : Kr) (es : List Expr) (w : WAx) : Prop := ∃ t, PA X es t ∧ ∀ (r : Rt), RS X k r → ∀ (Z H : Hp) (σ : L2.St) (ρ : En) (n : Nat) (Qd : List D → Nat → Prop) (Q : List V → Hp → Prop), OkR X k r Z H σ ρ n → w ρ n Qd →
  (∀ d v Z' H' n', OkR X k r Z' H' σ ρ n' → Same Z Z' → RpA (wc X k.s) Z' v d → Qd d n' → Q v H') → t σ H Q
def DTx (X : Cx) (k : Kr) (e : Expr) (w : WTx) : Prop := ∃ t, PT X e t ∧ ∀ (r : Rt), RS X k r → ∀ (Z H : Hp) (σ : L2.St) (ρ : En) (n : Nat) (Qd : Bool → Nat → Prop) (Q : Bool → Hp → Prop), OkR X k r Z H σ ρ n → w ρ n Qd →
  (∀ b Z' H' n', OkR X k r Z' H' σ ρ n' → Same Z Z' → Qd b n' → Q b H') → t σ H Q
def DWx (X : Cx) (k : Kr) (e : Expr) (w : WTx) : Prop := ∃ t, PW X e t ∧ ∀ (r : Rt), RS X k r → ∀ (Z H : Hp) (σ : L2.St) (ρ : En) (n : Nat) (Qd : Bool → Nat → Prop) (Q : Bool → Hp → Prop), OkR X k r Z H σ ρ n → w ρ n Qd →
  (∀ b Z' H' n', OkR X k r Z' H' σ ρ n' → Same Z Z' → Qd b n' → Q b H') → t σ H Q
structure LkX (X : Cx) (k : Kr) (r : Rt) (d : EndsX) (E : Ends) : Prop where
  nx : ∀ Z H σ ρ n, OkR X k r Z H σ ρ n → d.nx ρ n → E.nx σ H
  rt : ∀ Z H v x n, Stp k.s r.Z0 (upd r.H0 k.R.x (rdo k.C k.R n)) Z H → Same r.Zl Z → Rp (wc X k.s) Z v x → d.rt x n → E.rt v H
  bk : ∀ Z H σ ρ n, OkR X k r Z H σ ρ n → d.bk ρ n → E.bk σ H
  ct : ∀ Z H σ ρ n, OkR X k r Z H σ ρ n → d.ct ρ n → E.ct σ H
def DSx (X : Cx) (k : Kr) (st : Stmt) (w : WSx) : Prop := ∃ t, PS X st t ∧ ∀ (r : Rt), RS X k r → ∀ (Z H : Hp) (σ : L2.St) (ρ : En) (n : Nat) (d : EndsX) (E : Ends), OkR X k r Z H σ ρ n → LkX X k r d E → w d ρ n → t E σ H
def DBx (X : Cx) (k : Kr) (sts : List Stmt) (w : WSx) : Prop := ∃ t, PSs X sts t ∧ ∀ (r : Rt), RS X k r → ∀ (Z H : Hp) (σ : L2.St) (ρ : En) (n : Nat) (d : EndsX) (E : Ends), OkR X k r Z H σ ρ n → LkX X k r d E → w d ρ n → t E σ H
abbrev EndsX.at (d : EndsX) (n : Nat) : DEnds := ⟨fun ρ => d.nx ρ n, fun v => d.rt v n, fun ρ => d.bk ρ n, fun ρ => d.ct ρ n⟩
section
variable {X : Cx} {k : Kr} {a b e : Expr} {es : List Expr} {pos p p1 p2 : Pos} {st : Stmt} {rest : List Stmt}
theorem LkX.at {r : Rt} {d : EndsX} {E : Ends} (L : LkX X k r d E) (n : Nat) : Lk (wc X k.s) k.cc (rr r k.C k.R n) (d.at n) E :=
  ⟨fun Z H σ ρ O h => L.nx Z H σ ρ n O h, fun Z H v x st lb rv h => L.rt Z H v x n st lb rv h, fun Z H σ ρ O h => L.bk Z H σ ρ n O h, fun Z H σ ρ O h => L.ct Z H σ ρ n O h⟩
/-! #### what does not read on -/
def wPE (w : WE) : WEx := fun ρ n Q => w ρ fun d => Q d n
theorem dex_pure {w : WE} (h : DE X k.cc e w) : DEx X k e (wPE w) := by
  obtain ⟨t, p, f⟩ := h
  exact ⟨t, p, fun r S Z H σ ρ n Qd Q O h q => f _ Z H σ ρ _ _ O h fun d v Z' H' s1 rv hd => q d v Z' H' n (O.stp s1) s1.zz rv hd⟩
def wPT (w : WT) : WTx := fun ρ n Q => w ρ fun d => Q d n
theorem dtx_pure {w : WT} (h : DT X k.cc e w) : DTx X k e (wPT w) := by
  obtain ⟨t, p, f⟩ := h
  exact ⟨t, p, fun r S Z H σ ρ n Qd Q O h q => f _ Z H σ ρ _ _ O h fun d Z' H' s1 hd => q d Z' H' n (O.stp s1) s1.zz hd⟩
def wPS (u : WS) : WSx := fun d ρ n => u (d.at n) ρ
theorem dsx_pure {u : WS} (h : DS X k.cc st u) : DSx X k st (wPS u) := by
  obtain ⟨t, p, f⟩ := h
  exact ⟨t, p, fun r S Z H σ ρ n d E O L h => f _ Z H σ ρ _ E O (L.at n) h⟩
theorem dbx_pure {u : WS} (h : DB X k.cc rest u) : DBx X k rest (wPS u) := by
  obtain ⟨t, p, f⟩ := h
  exact ⟨t, p, fun r S Z H σ ρ n d E O L h => f _ Z H σ ρ _ E O (L.at n) h⟩
/-! #### the object's two fields -/
def wRat (i : Nat) (x : Addr) : WEx := fun ρ n Q => Sl.V ρ[i]? fun d => d = .rf x ∧ Q (.int (n : Nat)) n
theorem rf_var {c : Wc} {kk : Cc} {r : Rt} {Z H : Hp} {σ : L2.St} {ρ : En} {i : Nat} {x : Addr} (O : Ok c kk r Z H σ ρ) (h : ρ[i]? = some (.val (.rf x))) : σ[i]? = some (some (.ref x)) := by
  obtain ⟨o, h1, v, rfl, h2⟩ := O.sl i _ h
  cases h2
  exact h1
theorem dex_at {i : Nat} {y : Str} (cl : Cls X.K k.C) (hn : NoAttr X.K k.C "at") (hi : X.N[i]? = some y := by rfl) (hv : Vis X.env.scope y := by first | exact Or.inl rfl | exact Or.inr (Or.inl rfl) | exact Or.inr (Or.inr rfl)) (hd : (y == ("__debug__" : Str)) = false := by decide) (hcd : (y == ("__classdict__" : Str)) = false := by decide)
    (hb : attributeBase (.Name y p) "at" X.env (eval (.Name y p) X.env) = eval (.Name y p) X.env := by rfl) : DEx X k (.Attribute (.Name y p) "at" pos) (wRat i k.R.x) := by
  refine ⟨_, pe_fld (pe_var hi hv hd hcd) hb, fun r S Z H σ ρ n Qd Q O h q => ?_⟩
  obtain ⟨d, e1, rfl, h⟩ := Sl.V_ex h
  exact ⟨_, rf_var O e1, k.R.x, _, _, _, .int (n : Nat), rfl, O.obj S, cl, hn, rfl, q _ _ Z H n O (Same.refl _) (.int _) h⟩
def wRws (i : Nat) (x : Addr) (ws : List D) : WEx := fun ρ n Q => Sl.V ρ[i]? fun d => d = .rf x ∧ Q (.lst ws) n
theorem dex_ws {i : Nat} {y : Str} (cl : Cls X.K k.C) (hn : NoAttr X.K k.C "words") (hi : X.N[i]? = some y := by rfl) (hv : Vis X.env.scope y := by first | exact Or.inl rfl | exact Or.inr (Or.inl rfl) | exact Or.inr (Or.inr rfl)) (hd : (y == ("__debug__" : Str)) = false := by decide) (hcd : (y == ("__classdict__" : Str)) = false := by decide)
    (hb : attributeBase (.Name y p) "words" X.env (eval (.Name y p) X.env) = eval (.Name y p) X.env := by rfl) : DEx X k (.Attribute (.Name y p) "words" pos) (wRws i k.R.x k.ws) := by
  refine ⟨_, pe_fld (pe_var hi hv hd hcd) hb, fun r S Z H σ ρ n Qd Q O h q => ?_⟩
  obtain ⟨d, e1, rfl, h⟩ := Sl.V_ex h
  obtain ⟨us, z1, z2⟩ := O.words S
  exact ⟨_, rf_var O e1, k.R.x, _, _, _, .ref k.R.a, rfl, O.obj S, cl, hn, rfl, q _ _ Z H n O (Same.refl _) (.lst z1 z2) h⟩
/-- self.at += 1 -/
def wRinc (i : Nat) (x : Addr) : WSx := fun d ρ n => Sl.V ρ[i]? fun v => v = .rf x ∧ d.nx ρ (n + 1)
theorem dsx_inc {i : Nat} {y : Str} {j : Nat} {tpos : Pos} (cl : Cls X.K k.C) (hn : NoAttr X.K k.C "at") (hi : X.N[i]? = some y := by rfl) (hv : Vis X.env.scope y := by first | exact Or.inl rfl | exact Or.inr (Or.inl rfl) | exact Or.inr (Or.inr rfl)) (hd : (y == ("__debug__" : Str)) = false := by decide) (hcd : (y == ("__classdict__" : Str)) = false := by decide) :
    DSx X k (.AugAssign (.Attribute (.Name y p) "at" tpos) .Add (.Constant (.int 1) j p1) pos) (wRinc i k.R.x) := by
  refine ⟨_, ps_fldaug (pe_var hi hv hd hcd) pe_int iop_add, fun r S Z H σ ρ n d E O L h => ?_⟩
  obtain ⟨v, e1, rfl, h⟩ := Sl.V_ex h
  refine ⟨_, rf_var O e1, k.R.x, _, _, _, .int (n : Nat), rfl, O.obj S, cl, hn, rfl, _, _, rfl, rfl, _, _, O.obj S, by simp, ?_⟩
  have e : (HO.ins k.C k.R.dx (putF "at" (V.int ((n : Int) + 1)) [("words", .ref k.R.a), ("at", .int (n : Nat))])) = rdo k.C k.R (n + 1) := rfl
  rw [e]
  exact L.nx Z _ σ ρ (n + 1) (O.jump S (n + 1)) h
/-! #### several values, operators -/
def wNilX : WAx := fun _ n Q => Q [] n
def wConsX (w : WEx) (u : WAx) : WAx := fun ρ n Q => w ρ n fun x n1 => u ρ n1 fun xs n2 => Q (x :: xs) n2
theorem dax_nil : DAx X k [] wNilX := ⟨_, pa_nil, fun r S Z H σ ρ n Qd Q O h q => q [] [] Z H n O (Same.refl _) .nil h⟩
theorem dax_cons {w : WEx} {u : WAx} (h : DEx X k e w) (h2 : DAx X k es u) (hs : starEach (e :: es) X.env = (false, eval e X.env) :: starEach es X.env := by rfl) : DAx X k (e :: es) (wConsX w u) := by
  obtain ⟨t, p, f⟩ := h
  obtain ⟨t2, p2, f2⟩ := h2
  refine ⟨_, pa_cons p p2 hs, fun r S Z H σ ρ n Qd Q O h q => ?_⟩
  refine f r S Z H σ ρ n _ _ O h fun d v Z1 H1 n1 O1 s1 r1 h1 => ?_
  exact f2 r S Z1 H1 σ ρ n1 _ _ O1 h1 fun ds vs Z2 H2 n2 O2 s2 r2 h2 => q _ _ Z2 H2 n2 O2 (s1.trans s2) (.cons (r1.mono s2) r2) h2
def wTupX (u : WAx) : WEx := fun ρ n Q => u ρ n fun xs n1 => xs.length ≤ 100000 ∧ Q (.tup xs) n1
theorem dex_tup {u : WAx} {x1 : Nat} (h : DAx X k es u) : DEx X k (.Tuple es x1 pos) (wTupX u) := by
  obtain ⟨t, p, f⟩ := h
  refine ⟨_, pe_tup p, fun r S Z H σ ρ n Qd Q O h q => ?_⟩
  refine f r S Z H σ ρ n _ _ O h fun ds vs Z1 H1 n1 O1 s1 r1 h1 => ?_
  refine ⟨by rw [r1.length]; exact sz h1.1, fun p hp => ?_⟩
  have a := Stp.add (o := .tup vs) O1.bs hp
  exact q _ _ _ _ n1 (O1.stp a) (s1.trans a.zz) (rp_tup r1 O1.bs hp) h1.2
def wOpX (rd : R2D) (wa wb : WEx) : WEx := fun ρ n Q => wa ρ n fun x n1 => wb ρ n1 fun y n2 => rd x y fun d => Q d n2
theorem opx_core {r : R2} {rd : R2D} {ta tb : TE} {wa wb : WEx} (o : Op2 X k.cc r rd)
    (f1 : ∀ (r : Rt), RS X k r → ∀ (Z H : Hp) (σ : L2.St) (ρ : En) (n : Nat) (Qd : D → Nat → Prop) (Q : VK), OkR X k r Z H σ ρ n → wa ρ n Qd → (∀ d v Z' H' n', OkR X k r Z' H' σ ρ n' → Same Z Z' → Rp (wc X k.s) Z' v d → Qd d n' → Q v H') → ta σ H Q)
    (f2 : ∀ (r : Rt), RS X k r → ∀ (Z H : Hp) (σ : L2.St) (ρ : En) (n : Nat) (Qd : D → Nat → Prop) (Q : VK), OkR X k r Z H σ ρ n → wb ρ n Qd → (∀ d v Z' H' n', OkR X k r Z' H' σ ρ n' → Same Z Z' → Rp (wc X k.s) Z' v d → Qd d n' → Q v H') → tb σ H Q) :
    ∀ (r0 : Rt), RS X k r0 → ∀ (Z H : Hp) (σ : L2.St) (ρ : En) (n : Nat) (Qd : D → Nat → Prop) (Q : VK), OkR X k r0 Z H σ ρ n → wOpX rd wa wb ρ n Qd → (∀ d v Z' H' n', OkR X k r0 Z' H' σ ρ n' → Same Z Z' → Rp (wc X k.s) Z' v d → Qd d n' → Q v H') → tOp r ta tb σ H Q := by
  intro r0 S Z H σ ρ n Qd Q O h q
  refine f1 r0 S Z H σ ρ n _ _ O h fun x v Z1 H1 n1 O1 s1 r1 h1 => ?_
  refine f2 r0 S Z1 H1 σ ρ n1 _ _ O1 h1 fun y u Z2 H2 n2 O2 s2 r2 h2 => ?_
  exact o Z2 H2 v u x y _ _ O2.bs (r1.mono s2) r2 h2 fun d w Z3 H3 s3 r3 h3 => q d w Z3 H3 n2 (O2.stp s3) ((s1.trans s2).trans s3.zz) r3 h3
theorem dex_op {op : Operator} {r : R2} {rd : R2D} {wa wb : WEx} (ho : OpR X (binaryOp op) r) (o : Op2 X k.cc r rd) (ha : DEx X k a wa) (hb : DEx X k b wb) : DEx X k (.BinOp a op b pos) (wOpX rd wa wb) := by
  obtain ⟨t, p, f⟩ := ha
  obtain ⟨t2, p2, f2⟩ := hb
  exact ⟨_, pe_op ho p p2, opx_core o f f2⟩
theorem dex_cmp {op : CmpOp} {r : R2} {rd : R2D} {wa wb : WEx} (ho : OpR X (compareOp op) r) (o : Op2 X k.cc r rd) (ha : DEx X k a wa) (hb : DEx X k b wb) (hm : behindInMarks op b = false := by first | exact nobehind _ (by decide) (by decide) | rfl) : DEx X k (.Compare a [op] [b] pos) (wOpX rd wa wb) := by
  obtain ⟨t, p, f⟩ := ha
  obtain ⟨t2, p2, f2⟩ := hb
  exact ⟨_, pe_cmpR ho p p2 hm, opx_core o f f2⟩
theorem dex_ix {r : R2} {rd : R2D} {wa wb : WEx} (hi : IxR X r) (o : Op2 X k.cc r rd) (ha : DEx X k a wa) (hb : DEx X k b wb) (hs : PlainIx b := by intro _ _; rfl) : DEx X k (.Subscript a b pos) (wOpX rd wa wb) := by
  obtain ⟨t, p, f⟩ := ha
  obtain ⟨t2, p2, f2⟩ := hb
  exact ⟨_, pe_ix hi p p2 hs, opx_core o f f2⟩
/-! #### tests -/
def wBX (w : WEx) : WTx := fun ρ n Q => w ρ n fun d n1 => d.B fun b => Q b n1
theorem dtx_val {w : WEx} (h : DEx X k e w) (he : ∀ whole, isTrue e X.env whole = (do let v ← whole; standAt e.pos; holding [v] (truthy v)) := by intro _; rfl) : DTx X k e (wBX w) := by
  obtain ⟨t, p, f⟩ := h
  refine ⟨_, pt_val p he, fun r S Z H σ ρ n Qd Q O h q => ?_⟩
  refine f r S Z H σ ρ n _ _ O h fun d v Z1 H1 n1 O1 s1 r1 h1 => ?_
  obtain ⟨c, rfl, h1⟩ := D.B_ex h1
  cases r1
  exact ⟨c, rfl, q c Z1 H1 n1 O1 s1 h1⟩
/-- a comparison as a test -/
theorem dtx_cmp {op : CmpOp} {r : R2} {rd : R2D} {wa wb : WEx} (ho : OpR X (compareOp op) r) (o : Op2 X k.cc r rd) (ha : DEx X k a wa) (hb : DEx X k b wb) (hm : behindInMarks op b = false := by first | exact nobehind _ (by decide) (by decide) | rfl) : DTx X k (.Compare a [op] [b] pos) (wBX (wOpX rd wa wb)) := by
  obtain ⟨t, p, f⟩ := ha
  obtain ⟨t2, p2, f2⟩ := hb
  refine ⟨_, pt_cmpR ho p p2 hm, fun r S Z H σ ρ n Qd Q O h q => ?_⟩
  refine opx_core o f f2 r S Z H σ ρ n _ _ O h fun d v Z1 H1 n1 O1 s1 r1 h1 => ?_
  obtain ⟨c, rfl, h1⟩ := D.B_ex h1
  cases r1
  exact ⟨c, rfl, q c Z1 H1 n1 O1 s1 h1⟩
def wNotX (w : WTx) : WTx := fun ρ n Q => w ρ n fun b n1 => Q (!b) n1
theorem dtx_not {w : WTx} (h : DTx X k e w) : DTx X k (.UnaryOp .Not e pos) (wNotX w) := by
  obtain ⟨t, p, f⟩ := h
  exact ⟨_, pt_not p, fun r S Z H σ ρ n Qd Q O h q => f r S Z H σ ρ n _ _ O h fun b Z1 H1 n1 O1 s1 h1 => q _ Z1 H1 n1 O1 s1 h1⟩
def wAndX (w u : WTx) : WTx := fun ρ n Q => w ρ n fun b n1 => if b = true then u ρ n1 Q else Q false n1
def wOrX (w u : WTx) : WTx := fun ρ n Q => w ρ n fun b n1 => if b = true then Q true n1 else u ρ n1 Q
theorem dwx_and1 {w : WTx} (h : DTx X k a w) : DWx X k (.BoolOp .And [a] pos) w := by
  obtain ⟨t, p, f⟩ := h
  exact ⟨_, pw_and1 p, f⟩
theorem dwx_or1 {w : WTx} (h : DTx X k a w) : DWx X k (.BoolOp .Or [a] pos) w := by
  obtain ⟨t, p, f⟩ := h
  exact ⟨_, pw_or1 p, f⟩
theorem dwx_and {w u : WTx} (h : DTx X k a w) (h2 : DWx X k (.BoolOp .And (b :: es) pos) u) : DWx X k (.BoolOp .And (a :: b :: es) pos) (wAndX w u) := by
  obtain ⟨t, p, f⟩ := h
  obtain ⟨t2, p2, f2⟩ := h2
  refine ⟨_, pw_and p p2, fun r S Z H σ ρ n Qd Q O h q => ?_⟩
  refine f r S Z H σ ρ n _ _ O h fun b Z1 H1 n1 O1 s1 h1 => ?_
  cases b with
  | true => exact iteT (f2 r S Z1 H1 σ ρ n1 Qd Q O1 (by simpa using h1) fun c Z2 H2 n2 O2 s2 h2 => q c Z2 H2 n2 O2 (s1.trans s2) h2)
  | false => exact iteF (q false Z1 H1 n1 O1 s1 (by simpa using h1))
theorem dwx_or {w u : WTx} (h : DTx X k a w) (h2 : DWx X k (.BoolOp .Or (b :: es) pos) u) : DWx X k (.BoolOp .Or (a :: b :: es) pos) (wOrX w u) := by
  obtain ⟨t, p, f⟩ := h
  obtain ⟨t2, p2, f2⟩ := h2
  refine ⟨_, pw_or p p2, fun r S Z H σ ρ n Qd Q O h q => ?_⟩
  refine f r S Z H σ ρ n _ _ O h fun b Z1 H1 n1 O1 s1 h1 => ?_
  cases b with
  | false => exact iteF (f2 r S Z1 H1 σ ρ n1 Qd Q O1 (by simpa using h1) fun c Z2 H2 n2 O2 s2 h2 => q c Z2 H2 n2 O2 (s1.trans s2) h2)
  | true => exact iteT (q true Z1 H1 n1 O1 s1 (by simpa using h1))
theorem dtx_w {w : WTx} (h : DWx X k e w) : DTx X k e w := by
  obtain ⟨t, p, f⟩ := h
  exact ⟨t, p.pt, f⟩
/-! #### statements -/
def wNextX : WSx := fun d ρ n => d.nx ρ n
theorem dbx_nil : DBx X k [] wNextX := ⟨_, pss_nil, fun r S Z H σ ρ n d E O L h => L.nx Z H σ ρ n O h⟩
def wSeqX (u v : WSx) : WSx := fun d ρ n => u { d with nx := v d } ρ n
theorem dbx_cons {u v : WSx} (h : DSx X k st u) (h2 : DBx X k rest v) : DBx X k (st :: rest) (wSeqX u v) := by
  obtain ⟨t, p, f⟩ := h
  obtain ⟨t2, p2, f2⟩ := h2
  refine ⟨_, pss_cons p p2, fun r S Z H σ ρ n d E O L h => ?_⟩
  exact f r S Z H σ ρ n { d with nx := v d } { E with nx := t2 E } O ⟨fun Z' H' σ' ρ' n' O' h' => f2 r S Z' H' σ' ρ' n' d E O' L h', L.rt, L.bk, L.ct⟩ h
theorem dbx_one {u : WSx} (h : DSx X k st u) : DBx X k [st] u := by
  obtain ⟨t, p, f⟩ := h
  exact ⟨_, pss_one p, f⟩
def wSetX (i : Nat) (w : WEx) : WSx := fun d ρ n => w ρ n fun x n1 => d.nx (ρ.set i (.val x)) n1
theorem dsx_set {i : Nat} {x : Str} {pos' : Pos} {w : WEx} (hN : X.N.Nodup) (h : DEx X k e w) (hi : X.N[i]? = some x := by rfl) (hx : Loc X.env.scope x := by first | exact Or.inl rfl | exact Or.inr rfl) (hs : swapsWith e (some (.Name x pos')) pos.line X.env = pure false := by rfl)
    (hf : X.fn x = true ∨ X.env.scope.names.lookup x = some .local := by first | exact .inl rfl | exact .inr rfl | assumption) : DSx X k (.Assign [.Name x pos'] e pos) (wSetX i w) := by
  obtain ⟨t, p, f⟩ := h
  refine ⟨_, ps_set hN hi hx p hs hf, fun r S Z H σ ρ n d E O L h => ?_⟩
  exact f r S Z H σ ρ n _ _ O h fun x v Z1 H1 n1 O1 s1 r1 h1 => L.nx Z1 H1 _ _ n1 (O1.set r1) h1
def wAsgX (w : WEx) (g : WG) : WSx := fun d ρ n => w ρ n fun x n1 => g x ρ fun ρ' => d.nx ρ' n1
theorem dsx_asg {tg : Expr} {g : WG} {us : List Nat} {w : WEx} (h : DEx X k e w) (hg : DG X k.cc tg us g) (hs : swapsWithSole [tg] e pos.line X.env = pure false := by rfl) (hw : swappedStores [tg] e X.env = pure none := by rfl) (h1 : (assignEach [tg] X.env).map (·.2) = [assign tg X.env] := by rfl) : DSx X k (.Assign [tg] e pos) (wAsgX w g) := by
  obtain ⟨t, p, f⟩ := h
  obtain ⟨g', p', f'⟩ := hg
  refine ⟨_, ps_asg p p' hs hw h1, fun r S Z H σ ρ n d E O L h => ?_⟩
  exact f r S Z H σ ρ n _ _ O h fun x v Z1 H1 n1 O1 s1 r1 h1 => f' _ Z1 H1 σ ρ v x _ _ O1 r1 h1 fun σ' ρ' O' _ h' => L.nx Z1 H1 σ' ρ' n1 O' h'
def wDropX (w : WEx) : WSx := fun d ρ n => w ρ n fun _ n1 => d.nx ρ n1
theorem dsx_expr {w : WEx} (h : DEx X k e w) (hs : swapsWith e none pos.line X.env = pure false := by rfl) : DSx X k (.Expr e pos) (wDropX w) := by
  obtain ⟨t, p, f⟩ := h
  refine ⟨_, ps_expr p hs, fun r S Z H σ ρ n d E O L h => ?_⟩
  exact f r S Z H σ ρ n _ _ O h fun x v Z1 H1 n1 O1 s1 r1 h1 => L.nx Z1 H1 _ _ n1 O1 h1
def wRetX (w : WEx) : WSx := fun d ρ n => w ρ n d.rt
theorem dsx_ret {w : WEx} (h : DEx X k e w) : DSx X k (.Return (some e) pos) (wRetX w) := by
  obtain ⟨t, p, f⟩ := h
  refine ⟨_, ps_ret p, fun r S Z H σ ρ n d E O L h => ?_⟩
  exact f r S Z H σ ρ n _ _ O h fun x v Z1 H1 n1 O1 s1 r1 h1 => L.rt Z1 H1 v x n1 O1.en O1.lb r1 h1
def wIfX (w : WTx) (u v : WSx) : WSx := fun d ρ n => w ρ n fun b n1 => if b = true then u d ρ n1 else v d ρ n1
theorem dsx_if {w : WTx} {p q : List Stmt} {u v : WSx} (h : DTx X k e w) (hu : DBx X k p u) (hv : DBx X k q v) : DSx X k (.If e p q pos) (wIfX w u v) := by
  obtain ⟨t, p, f⟩ := h
  obtain ⟨t1, p1, f1⟩ := hu
  obtain ⟨t2, p2, f2⟩ := hv
  refine ⟨_, ps_if p p1 p2, fun r S Z H σ ρ n d E O L h => ?_⟩
  refine f r S Z H σ ρ n _ _ O h fun b Z1 H1 n1 O1 s1 h1 => ?_
  cases b with
  | true => exact iteT (f1 r S Z1 H1 σ ρ n1 d E O1 L (by simpa using h1))
  | false => exact iteF (f2 r S Z1 H1 σ ρ n1 d E O1 L (by simpa using h1))
def wWhNX (w : WTx) (u : WSx) : Nat → WSx
  | 0 => fun _ _ _ => False
  | m + 1 => fun d ρ n => w ρ n fun b n1 => if b = true then u { nx := wWhNX w u m d, rt := d.rt, bk := d.nx, ct := wWhNX w u m d } ρ n1 else d.nx ρ n1
def wWhileX (w : WTx) (u : WSx) : WSx := fun d ρ n => ∃ m, wWhNX w u m d ρ n
theorem dsx_while {w : WTx} {body : List Stmt} {u : WSx} (hp : PassesOwn (model X.prog X.w) X.A X.env X.xe) (h : DTx X k e w) (hb : DBx X k body u) : DSx X k (.While e body [] pos) (wWhileX w u) := by
  obtain ⟨t, p, f⟩ := h
  obtain ⟨tb, pb, fb⟩ := hb
  refine ⟨_, ps_while hp p pb, fun r S Z H σ ρ n d E O L h => ?_⟩
  obtain ⟨m, h⟩ := h
  refine ⟨fun m σ' H' => ∃ Z' ρ' n', OkR X k r Z' H' σ' ρ' n' ∧ wWhNX w u m d ρ' n', ⟨m, Z, ρ, n, O, h⟩, ?_⟩
  rintro m σ' H' ⟨Z', ρ', n', O', h'⟩
  cases m with
  | zero => exact h'.elim
  | succ m =>
    refine f r S Z' H' σ' ρ' n' _ _ O' h' fun b Z1 H1 n1 O1 s1 h1 => ?_
    cases b with
    | true =>
      refine iteT ⟨fun σ2 H2 => ∃ Z2 ρ2 n2, OkR X k r Z2 H2 σ2 ρ2 n2 ∧ wWhNX w u m d ρ2 n2, fun σ2 H2 ⟨Z2, ρ2, n2, O2, h2⟩ => ⟨m, Nat.lt_succ_self _, Z2, ρ2, n2, O2, h2⟩, ?_⟩
      refine fb r S Z1 H1 σ' ρ' n1 { nx := wWhNX w u m d, rt := d.rt, bk := d.nx, ct := wWhNX w u m d } _ O1 ⟨?_, L.rt, L.nx, ?_⟩ (by simpa using h1)
      · exact fun Z5 H5 σ5 ρ5 n5 O5 h5 => ⟨Z5, ρ5, n5, O5, h5⟩
      · exact fun Z5 H5 σ5 ρ5 n5 O5 h5 => ⟨Z5, ρ5, n5, O5, h5⟩
    | false => exact iteF (L.nx Z1 H1 σ' ρ' n1 O1 (by simpa using h1))
theorem whx_rule {w : WTx} {u : WSx} {d : EndsX} (P : Nat → En → Nat → Prop)
    (step : ∀ (m : Nat) (ρ : En) (n : Nat) (N : En → Nat → Prop), P m ρ n → (∀ m' ρ' n', m' < m → P m' ρ' n' → N ρ' n') → w ρ n fun b n1 => if b = true then u { nx := N, rt := d.rt, bk := d.nx, ct := N } ρ n1 else d.nx ρ n1) {m : Nat} {ρ : En} {n : Nat} (h : P m ρ n) : wWhileX w u d ρ n := by
  have key : ∀ (l m : Nat) (ρ : En) (n : Nat), m < l → P m ρ n → wWhNX w u l d ρ n := by
    intro l
    induction l with
    | zero => intro m ρ n h; omega
    | succ l ih => exact fun m ρ n hm hp => step m ρ n (wWhNX w u l d) hp fun m' ρ' n' h1 h2 => ih m' ρ' n' (by omega) h2
  exact ⟨m + 1, key (m + 1) m ρ n (Nat.lt_succ_self m) h⟩
/-- x = [e], a list of the def's own -/
def wNewL1 (i : Nat) (w : WEx) : WSx := fun d ρ n => w ρ n fun y n1 => d.nx (ρ.set i (.ol [y])) n1
theorem dsx_newl1 {i : Nat} {x : Str} {pos' : Pos} {w : WEx} (hN : X.N.Nodup) (h : DEx X k e w) (hi : X.N[i]? = some x := by rfl) (hx : Loc X.env.scope x := by first | exact Or.inl rfl | exact Or.inr rfl) (hs : swapsWith (.List [e] p) (some (.Name x pos')) pos.line X.env = pure false := by rfl)
    (h1 : starEach [e] X.env = (false, eval e X.env) :: starEach [] X.env := by rfl)
    (hf : X.fn x = true ∨ X.env.scope.names.lookup x = some .local := by first | exact .inl rfl | exact .inr rfl | assumption) : DSx X k (.Assign [.Name x pos'] (.List [e] p) pos) (wNewL1 i w) := by
  obtain ⟨t, pe, f⟩ := h
  refine ⟨_, ps_set hN hi hx (pe_lst (pa_cons pe pa_nil h1)) hs hf, fun r S Z H σ ρ n d E O L h => ?_⟩
  refine f r S Z H σ ρ n _ _ O h fun y v Z1 H1 n1 O1 s1 r1 h1 => ?_
  exact ⟨by show 1 ≤ _; decide, fun q hq => L.nx _ _ _ _ n1 (O1.newO (t' := .ol [y]) hq rfl ⟨q, [v], rfl, upd_same, .cons r1 .nil⟩) h1⟩
def wAppX (i : Nat) (w : WEx) : WSx := fun d ρ n => Sl.OL ρ[i]? fun ds => w ρ n fun y n1 => ds.length ≤ 100000 ∧ d.nx (ρ.set i (.ol (ds ++ [y]))) n1
theorem dsx_app {i : Nat} {x : Str} {apos npos : Pos} {w : WEx} (h : DEx X k e w) (hi : X.N[i]? = some x := by rfl) (hv : Vis X.env.scope x := by first | exact Or.inl rfl | exact Or.inr (Or.inl rfl) | exact Or.inr (Or.inr rfl)) (hd : (x == ("__debug__" : Str)) = false := by decide) (hcd : (x == ("__classdict__" : Str)) = false := by decide)
    (h1 : starEach [e] X.env = (false, eval e X.env) :: starEach [] X.env := by rfl)
    (pb : ∀ {tx : TE} {ta : TA}, PE X (.Name x npos) tx → PA X [e] ta → PE X (.Call (.Attribute (.Name x npos) "append" apos) [e] [] p) (tBM X.K "list" rAppend tx ta) := by intro _ _ h1 h2; exact pe_bm PySem.F.plainAttrs_list PySem.F.slot_list_append PySem.F.type_list_append mt_append h1 h2)
    (hs : swapsWith (.Call (.Attribute (.Name x npos) "append" apos) [e] [] p) none pos.line X.env = pure false := by rfl) : DSx X k (.Expr (.Call (.Attribute (.Name x npos) "append" apos) [e] [] p) pos) (wAppX i w) := by
  obtain ⟨t, pe, f⟩ := h
  refine ⟨_, ps_expr (pb (pe_var hi hv hd hcd) (pa_cons pe pa_nil h1)) hs, fun r S Z H σ ρ n d E O L h => ?_⟩
  obtain ⟨ds, e1, h⟩ := Sl.OL_ex h
  obtain ⟨o, h2, a, vs, rfl, h3, h4⟩ := O.sl i _ e1
  refine ⟨_, h2, .inl ⟨rfl, _, SqL.of h3⟩, f r S Z H σ ρ n _ _ O h fun y v Z1 H1 n1 O1 s1 r1 h1 => ?_⟩
  obtain ⟨o', h2', a', vs', e', h3', h4'⟩ := O1.sl i _ e1
  have ea : a' = a := by
    rw [h2'] at h2
    rw [e'] at h2
    cases h2
    rfl
  subst ea
  refine ⟨a', vs', v, rfl, rfl, h3', ?_, L.nx Z1 _ σ _ n1 (O1.chg e1 rfl h2 (t' := .ol (ds ++ [y])) rfl ⟨a', _, rfl, upd_same, h4'.append (.cons r1 .nil)⟩) h1.2⟩
  rw [h4'.length]
  exact Nat.lt_of_le_of_lt h1.1 (by decide)
def wFrzX (i : Nat) (u : WSx) : WSx := fun d ρ n => Sl.OL ρ[i]? fun ds => u d (ρ.set i (.val (.lst ds))) n
theorem dbx_frz {i : Nat} {u : WSx} (h : DBx X k rest u) : DBx X k rest (wFrzX i u) := by
  obtain ⟨t, p, f⟩ := h
  refine ⟨t, p, fun r S Z H σ ρ n d E O L h => ?_⟩
  obtain ⟨ds, e1, h1⟩ := Sl.OL_ex h
  obtain ⟨o, h2, a, vs, rfl, h3, h4⟩ := O.sl i _ e1
  obtain ⟨z1, _, _⟩ := O.ow i _ a e1 rfl h2
  exact f r S _ H σ _ n d E (O.frzO e1 rfl h2 h3 (.lst upd_same (h4.mono fun b u q => by rw [upd_ne (ne_of_none q z1)]; exact q))) L h1
end
/-! ### promises of what reads on -/
abbrev SpecX := List D → List D → Nat → (D → Nat → Prop) → (Exn → Prop) → Prop
structure RdIn (K : PySem.W.Frag) (mg : Str → Option Value) (s C : Addr) (R : RdC) (ws : List D) (Z H : Hp) (n : Nat) : Prop where
  b : Bs s Z H
  o : H R.x = some (rdo C R n)
  z : Z R.x = none
  xs : R.x ≠ s
  w : ∃ us, Z R.a = some (.lst us) ∧ RpA ⟨K, mg, s⟩ Z us ws
def spX (K : PySem.W.Frag) (mg : Str → Option Value) (C : Addr) (spec : SpecX) : Sp := fun vs H Q E => ∃ (s : Addr) (Z : Hp) (R : RdC) (ws : List D) (us : List V) (ds : List D) (n : Nat) (Qd : D → Nat → Prop) (Ed : Exn → Prop), vs = .ref R.x :: us ∧ RdIn K mg s C R ws Z H n ∧ RpA ⟨K, mg, s⟩ Z us ds ∧ spec ws ds n Qd Ed ∧
  (∀ d v Z' H' n', Stp s Z (upd H R.x (rdo C R n')) Z' H' → Rp ⟨K, mg, s⟩ Z' v d → Qd d n' → Q v H') ∧ (∀ ex cls od Z' H' n', Stp s Z (upd H R.x (rdo C R n')) Z' H' → ExR ⟨K, mg, s⟩ Z' H' ex cls od → Ed ex → E cls od H')
theorem upd_self {H : Hp} {x : Addr} {o : HO} (h : H x = some o) : upd H x o = H := by
  funext a
  by_cases z : a = x
  · rw [z, upd_same, h]
  · rw [upd_ne z]
theorem fn_x {P : Program} {w : World} {K : PySem.W.Frag} {mg : Str → Option Value} {base : Heap} {x qual : Str} {st : Stmt} {f C : Addr} {fd : FuncData} {N ps : List Str} {lev : Nat} {spec : SpecX} (F : Fun K x qual st f fd) (S : FnScope N ps (defScope st))
    (hl : ∀ ws ds n Q E, spec ws ds n Q E → ds.length + 1 = ps.length) (hn : ps.length ≤ N.length) (W : Addr → List D → (Exn → Prop) → WSx)
    (hb : ∀ (cdv : Value) (A : Around) (outer : List Env) (s : Shared) (H : Hp) (s' : Addr) (Ed : Exn → Prop) (E : XK) (R : RdC) (ws : List D), Room lev (A.deeper (envOfC qual (defScope st) s.heap.objs.size f cdv)) →
      DBx (cxOf (L2N.CX P w) P w K mg base N qual (defScope st) f cdv A outer s H E) ⟨s', Ed, E, C, R, ws⟩ (defBody st) (W R.x ws Ed))
    (hW : ∀ x ws ds n Q E, spec ws ds n Q E → W x ws E { nx := fun _ n => Q .non n, rt := Q } (ρ0 N.length (.rf x :: ds)) n) : FnOk P w K mg base (L2N.CX P w) (lev + 1) f fd ps (spX K mg C spec) := by
  obtain ⟨oc, od, kV, doc, pm, an, cdv, ct, osl, rfl, lk, hcd⟩ := F.ex
  refine fn_of lk hcd S (fun vs H Q E h => ?_) (fun A outer s H vs Q E hr h => ?_)
  · obtain ⟨s, Z, R, ws, us, ds, n, Qd, Ed, rfl, _, h1, h2, _⟩ := h
    rw [List.length_cons, h1.length]
    exact hl _ _ _ _ _ h2
  · obtain ⟨s', Z, R, ws, us, ds, n, Qd, Ed, rfl, b, h1, h2, h3, h4⟩ := h
    obtain ⟨t, p, q⟩ := hb cdv A outer s H s' Ed E R ws hr
    have eH := upd_self b.o
    refine ⟨t, p, q ⟨Z, H, Z⟩ ⟨b.z, b.xs, b.w, fun n' Z' H' ex cls od st er hd => h4 ex cls od Z' H' n' st er hd⟩ Z H (L2.start N (.ref R.x :: us)) (ρ0 N.length (.rf R.x :: ds)) n _ _ ?_ ⟨?_, ?_, ?_, ?_⟩ (hW R.x ws ds n Qd Ed h2)⟩
    · have O := start_ok (c := ⟨K, mg, s'⟩) (k := ⟨s', Ed, E⟩) (N := N) b.b (.cons (.rf R.x) h1) (by rw [List.length_cons, hl _ _ _ _ _ h2]; exact hn) (fun Z' H' ex cls od st er hd => h4 ex cls od Z' H' n (by rw [eH]; exact st) er hd)
      show Ok ⟨K, mg, s'⟩ ⟨s', Ed, E⟩ ⟨Z, upd H R.x (rdo C R n), Z⟩ Z H _ _
      rw [eH]
      exact O
    · exact fun Z' H' σ ρ n' O hq => h3 .non .non Z' H' n' O.en .non hq
    · exact fun Z' H' v x n' st _ rx hq => h3 x v Z' H' n' st rx hq
    · exact fun _ _ _ _ _ _ z => z.elim
    · exact fun _ _ _ _ _ _ z => z.elim
section
variable {X : Cx} {k : Kr} {a b e : Expr} {es : List Expr} {pos p p1 p2 : Pos}
def wCallX (i : Nat) (x : Addr) (ws : List D) (xd : Exn → Prop) (spec : SpecX) (u : WA) : WEx := fun ρ n Q => Sl.V ρ[i]? fun d => d = .rf x ∧ u ρ fun ds => spec ws ds n Q xd
theorem spx_core {r : Rt} {Z H Z1 H1 : Hp} {σ : L2.St} {ρ : En} {n : Nat} {Qd : D → Nat → Prop} {Q : VK} {spec : SpecX} {vs : List V} {ds : List D} (S : RS X k r) (O : OkR X k r Z H σ ρ n) (s1 : Stp k.s Z H Z1 H1) (r1 : RpA (wc X k.s) Z1 vs ds) (h1 : spec k.ws ds n Qd k.xd)
    (q : ∀ d v Z' H' n', OkR X k r Z' H' σ ρ n' → Same Z Z' → Rp (wc X k.s) Z' v d → Qd d n' → Q v H') : spX X.K X.mg k.C spec (.ref k.R.x :: vs) H1 Q k.xk := by
  have O1 : OkR X k r Z1 H1 σ ρ n := O.stp s1
  refine ⟨k.s, Z1, k.R, k.ws, vs, ds, n, Qd, k.xd, rfl, ⟨O1.bs, O1.obj S, O1.zx S, S.xs, O1.words S⟩, r1, h1, fun d v Z' H' n' st rv hd => q d v Z' H' n' (O1.step S st) (s1.zz.trans st.zz) rv hd, fun ex cls od Z' H' n' st er hd => ?_⟩
  exact S.lk n' Z' H' ex cls od (O1.step S st).en er hd
theorem dex_call {i : Nat} {y f : Str} {fa : Addr} {fd : FuncData} {ps : List Str} {spec : SpecX} {u : WA} {j : Nat} {CX : CXT}
    (F : FnOk X.prog X.w X.K X.mg X.base CX j fa fd ps (spX X.K X.mg k.C spec)) (hr : Room j X.A) (hm : X.mg f = some (.ref fa)) (hk : PySem.W.keepIn X.K (.ref fa) = true) (hb : Binds X.K fd ps []) (hx : Passes CX X k.xk)
    (ha : DA X k.cc es u) (hi : X.N[i]? = some y := by rfl) (hv : Vis X.env.scope y := by first | exact Or.inl rfl | exact Or.inr (Or.inl rfl) | exact Or.inr (Or.inr rfl)) (hd : (y == ("__debug__" : Str)) = false := by decide) (hcd : (y == ("__classdict__" : Str)) = false := by decide)
    (hg : Gl X f := by rfl) (hdb : (f == ("__debug__" : Str)) = false := by decide) (he : starEach (.Name y p1 :: es) X.env = (false, eval (.Name y p1) X.env) :: starEach es X.env := by rfl) (hpl : (backTo pos (starEach es X.env)).any (·.1) = false := by rfl) :
    DEx X k (.Call (.Name f p) (.Name y p1 :: es) [] pos) (wCallX i k.R.x k.ws k.xd spec u) := by
  obtain ⟨t, pa, g⟩ := ha
  refine ⟨_, pe_call F hr hg hm hk hb .nil hx (pa_cons (pe_var hi hv hd hcd) pa he) hdb he hpl, fun r S Z H σ ρ n Qd Q O h q => ?_⟩
  obtain ⟨d, e1, rfl, h⟩ := Sl.V_ex h
  refine ⟨_, rf_var O e1, g _ Z H σ ρ _ _ O h fun ds vs Z1 H1 s1 r1 h1 => ?_⟩
  dsimp only
  rw [List.append_nil]
  exact spx_core S O s1 r1 h1 q
theorem dex_meth0 {i : Nat} {y m : Str} {f : Addr} {fd : FuncData} {ps : List Str} {spec : SpecX} {j : Nat} {CX : CXT} {apos : Pos} {pl : Sem Bool} (cl : Cls X.K k.C) (hm : Meth X.K k.C m f)
    (F : FnOk X.prog X.w X.K X.mg X.base CX j f fd ps (spX X.K X.mg k.C spec)) (hr : Room j X.A) (hb : Binds X.K fd ps []) (hx : Passes CX X k.xk)
    (hi : X.N[i]? = some y := by rfl) (hv : Vis X.env.scope y := by first | exact Or.inl rfl | exact Or.inr (Or.inl rfl) | exact Or.inr (Or.inr rfl)) (hd : (y == ("__debug__" : Str)) = false := by decide) (hcd : (y == ("__classdict__" : Str)) = false := by decide)
    (hl : ∀ (u v : V), ([("words", u), ("at", v)] : List (Str × V)).lookup m = none := by intro _ _; rfl)
    (ht : eval (.Call (.Attribute (.Name y p) m apos) [] [] pos) X.env = (do
      let ov ← eval (.Name y p) X.env
      standAt apos.atName
      let (f, first) ← holding [ov] (getMethod ov m pl)
      callWith pos f first (backTo pos (starEach [] X.env)) (backToKw pos (keywordEach [] X.env))) := by rfl) :
    DEx X k (.Call (.Attribute (.Name y p) m apos) [] [] pos) (wCallX i k.R.x k.ws k.xd spec wNil) := by
  refine ⟨_, pe_meth0 (ds := []) (dvs := []) (pe_var hi hv hd hcd) cl hm F hr hb .nil hx ht, fun r S Z H σ ρ n Qd Q O h q => ?_⟩
  obtain ⟨d, e1, rfl, h⟩ := Sl.V_ex h
  refine ⟨_, rf_var O e1, k.R.x, _, _, rfl, O.obj S, hl _ _, ?_⟩
  exact spx_core S O (.refl O.bs) .nil h q
theorem dex_meth {i : Nat} {y m : Str} {f : Addr} {fd : FuncData} {ps : List Str} {spec : SpecX} {j : Nat} {CX : CXT} {apos : Pos} {pl : Sem Bool} {u : WA} (cl : Cls X.K k.C) (hm : Meth X.K k.C m f)
    (F : FnOk X.prog X.w X.K X.mg X.base CX j f fd ps (spX X.K X.mg k.C spec)) (hr : Room j X.A) (hb : Binds X.K fd ps []) (hx : Passes CX X k.xk) (ha : DA X k.cc (e :: es) u)
    (hi : X.N[i]? = some y := by rfl) (hv : Vis X.env.scope y := by first | exact Or.inl rfl | exact Or.inr (Or.inl rfl) | exact Or.inr (Or.inr rfl)) (hd : (y == ("__debug__" : Str)) = false := by decide) (hcd : (y == ("__classdict__" : Str)) = false := by decide)
    (hl : ∀ (u v : V), ([("words", u), ("at", v)] : List (Str × V)).lookup m = none := by intro _ _; rfl)
    (hst : starEach (e :: es) X.env = (false, eval e X.env) :: starEach es X.env := by rfl) (hpl : (backTo pos (starEach es X.env)).any (·.1) = false := by rfl)
    (ht : eval (.Call (.Attribute (.Name y p) m apos) (e :: es) [] pos) X.env = (do
      let ov ← eval (.Name y p) X.env
      standAt apos.atName
      let (f, first) ← holding [ov] (getMethod ov m pl)
      callWith pos f first (backTo pos (starEach (e :: es) X.env)) (backToKw pos (keywordEach [] X.env))) := by rfl) :
    DEx X k (.Call (.Attribute (.Name y p) m apos) (e :: es) [] pos) (wCallX i k.R.x k.ws k.xd spec u) := by
  obtain ⟨t, pa, g⟩ := ha
  refine ⟨_, pe_meth (ds := []) (dvs := []) (pe_var hi hv hd hcd) cl hm F hr hb .nil hx pa hst hpl ht, fun r S Z H σ ρ n Qd Q O h q => ?_⟩
  obtain ⟨d, e1, rfl, h⟩ := Sl.V_ex h
  refine ⟨_, rf_var O e1, k.R.x, _, _, rfl, O.obj S, hl _ _, ?_⟩
  refine g _ Z H σ ρ _ _ O h fun ds vs Z1 H1 s1 r1 h1 => ?_
  rw [List.append_nil]
  exact spx_core S O s1 r1 h1 q
end
end Dl
set_option Elab.async false
set_option linter.all false
set_option maxRecDepth 100000
set_option maxHeartbeats 2000000
namespace Dl
open PySem PySem.Spec PyProof.Rows L2
section
variable {X : Cx} {k : Cc} {a b e c : Expr} {es : List Expr} {wa wb w : WE} {pos p p1 p2 pos2 : Pos} {rest : List Stmt}
/-! ### subscripts as an operation -/
theorem o2_ix : Op2 X k (rIx X.K) rdIx := by
  intro Z H x y a b Qd Q B ra rb h q
  cases ra <;> first
    | exact h.elim
    | skip
  · obtain ⟨i, e0, hl, h1⟩ := D.I_ex h
    split at h1
    · rename_i n hn
      exact .inr (.inr (o2_ixS (X := X) (k := k) Z H _ _ (.str _) b Qd Q B (.str _) rb (by subst e0; exact ⟨hl, n, hn, h1⟩) q))
    · exact h1.elim
  · rename_i hs hr
    obtain ⟨i, e0, h1⟩ := D.I_ex h
    split at h1
    · rename_i n hn
      exact .inl (o2_ixL (X := X) (k := k) Z H _ _ _ b Qd Q B (.lst hs hr) rb (by subst e0; exact ⟨n, hn, h1⟩) q)
    · exact h1.elim
  · rename_i hs hr
    obtain ⟨i, e0, h1⟩ := D.I_ex h
    split at h1
    · rename_i n hn
      exact .inr (.inl (o2_ixT (X := X) (k := k) Z H _ _ _ b Qd Q B (.tup hs hr) rb (by subst e0; exact ⟨n, hn, h1⟩) q))
    · exact h1.elim
  · obtain ⟨i, e0, h01, h1⟩ := D.I_ex h
    subst e0
    cases rb
    obtain ⟨n0, n1, hs, p0, p1⟩ := B.st
    rcases h01 with e | e
    · subst e
      exact .inl ⟨_, _, 0, .int n0, rfl, rfl, .inl (.inl hs), rfl, q _ _ Z H (.refl B) (.int _) (h1 n0 p0)⟩
    · subst e
      exact .inl ⟨_, _, 1, .int n1, rfl, rfl, .inl (.inl hs), rfl, q _ _ Z H (.refl B) (.int _) (h1 n1 p1)⟩
  · rename_i ns hs
    obtain ⟨i, e0, h1⟩ := D.I_ex h
    subst e0
    cases rb
    split at h1
    · rename_i n hn
      refine .inl ⟨_, _, i, .int n, rfl, rfl, B.zh.seq hs, ?_, q _ _ Z H (.refl B) (.int _) h1⟩
      unfold atI at hn ⊢
      rw [List.length_map]
      cases e : ixN ns.length i with
      | none =>
        rw [e] at hn
        cases hn
      | some j =>
        rw [e] at hn
        show (List.map V.int ns)[j]? = some (.int n)
        rw [List.getElem?_map, show ns[j]? = some n from hn]
        rfl
    · exact h1.elim
/-! ### text in a tuple of texts -/
def rdInT (neg : Bool) : R2D := fun a b Q => a.S fun x => b.T fun ds => match D.strA ds with
  | some ys => Q (.bl (neg.xor (decide (x ∈ ys))))
  | none => False
theorem inV_str (x : Str) : ∀ ys : List Str, inV (.str x) (ys.map V.str) = decide (x ∈ ys)
  | [] => rfl
  | y :: ys => by
    have ih := inV_str x ys
    unfold inV at ih ⊢
    rw [List.map_cons, List.any_cons, ih]
    show ((y == x) || _) = _
    by_cases h : x = y
    · subst h
      rw [beq_self_eq_true, Bool.true_or]
      exact (decide_eq_true List.mem_cons_self).symm
    · rw [beq_eq_false_iff_ne.mpr (fun z => h z.symm), Bool.false_or]
      exact decide_eq_decide.mpr ⟨fun z => List.mem_cons_of_mem _ z, fun z => by
        rcases List.mem_cons.mp z with z | z
        · exact absurd z h
        · exact z⟩
theorem flat_str (ys : List Str) : (ys.map V.str).all flatV = true := by
  rw [List.all_map]
  exact List.all_eq_true.mpr fun _ _ => rfl
theorem o2_inT : Op2 X k (rIn X.K false) (rdInT false) := by
  intro Z H x y a b Qd Q B ra rb h q
  obtain ⟨s, rfl, h1⟩ := D.S_ex h
  obtain ⟨ds, rfl, h2⟩ := D.T_ex h1
  clear h h1
  have h := h2
  clear h2
  cases ra
  cases e : D.strA ds with
  | none => rw [e] at h; exact h.elim
  | some ys =>
    rw [e] at h
    have := strA_map e
    subst this
    cases rb with
    | tup hs hr =>
      have ev := rpa_str hr
      subst ev
      refine ⟨_, _, rfl, .inr (same_t B.zh hs), rfl, flat_str ys, ?_⟩
      rw [inV_str]
      simp only [Bool.false_xor] at h
      exact q _ _ Z H (.refl B) (.bl _) h
theorem o2_notInT : Op2 X k (rIn X.K true) (rdInT true) := by
  intro Z H x y a b Qd Q B ra rb h q
  obtain ⟨s, rfl, h1⟩ := D.S_ex h
  obtain ⟨ds, rfl, h2⟩ := D.T_ex h1
  clear h h1
  have h := h2
  clear h2
  cases ra
  cases e : D.strA ds with
  | none => rw [e] at h; exact h.elim
  | some ys =>
    rw [e] at h
    have := strA_map e
    subst this
    cases rb with
    | tup hs hr =>
      have ev := rpa_str hr
      subst ev
      refine ⟨_, _, rfl, .inr (same_t B.zh hs), rfl, flat_str ys, ?_⟩
      rw [inV_str]
      simp only [Bool.true_xor] at h
      exact q _ _ Z H (.refl B) (.bl _) h
/-! ### a dict of the module, read by texts -/
abbrev TabT := List (Str × D)
structure KTab (K : PySem.W.Frag) (w : World) (mg : Str → Option Value) (d : Addr) (tab : TabT) : Prop where
  D : ∃ es n, KDict K w d es n
  row : ∀ z v, tab.lookup z = some v → ∃ (u0 : Value) (v0 : V), PySem.W.nsIn K d z = some (some u0) ∧ RelV v0 u0 ∧ ∀ (s : Addr) (Z : Hp), Rp ⟨K, mg, s⟩ Z v0 v
  non : ∀ z, tab.lookup z = none → PySem.W.nsIn K d z = some none
def rdTabIn (neg : Bool) (d : Addr) (tab : TabT) : R2D := fun a b Q => a.S fun z => b = .rf d ∧ Q (.bl (neg.xor (tab.lookup z).isSome))
theorem o2_tabIn {d : Addr} {tab : TabT} (T : KTab X.K X.w X.mg d tab) : Op2 X k (fun x y H Q => ∃ (z : Str) (r : Option Value), x = .str z ∧ y = .ref d ∧ PySem.W.nsIn X.K d z = some r ∧ Q (.bl r.isSome) H) (rdTabIn false d tab) := by
  intro Z H x y a b Qd Q B ra rb h q
  obtain ⟨z, rfl, rfl, h2⟩ := D.S_ex h
  clear h
  have h := h2
  clear h2
  cases ra
  cases rb
  rw [Bool.false_xor] at h
  cases e : tab.lookup z with
  | none => rw [e] at h; exact ⟨z, none, rfl, rfl, T.non z e, q _ _ Z H (.refl B) (.bl _) h⟩
  | some v =>
    rw [e] at h
    obtain ⟨u0, v0, h1, h2, h3⟩ := T.row z v e
    exact ⟨z, some u0, rfl, rfl, h1, q _ _ Z H (.refl B) (.bl _) h⟩
theorem o2_tabNotIn {d : Addr} {tab : TabT} (T : KTab X.K X.w X.mg d tab) : Op2 X k (fun x y H Q => ∃ (z : Str) (r : Option Value), x = .str z ∧ y = .ref d ∧ PySem.W.nsIn X.K d z = some r ∧ Q (.bl (!r.isSome)) H) (rdTabIn true d tab) := by
  intro Z H x y a b Qd Q B ra rb h q
  obtain ⟨z, rfl, rfl, h2⟩ := D.S_ex h
  clear h
  have h := h2
  clear h2
  cases ra
  cases rb
  rw [Bool.true_xor] at h
  cases e : tab.lookup z with
  | none => rw [e] at h; exact ⟨z, none, rfl, rfl, T.non z e, q _ _ Z H (.refl B) (.bl _) h⟩
  | some v =>
    rw [e] at h
    obtain ⟨u0, v0, h1, h2, h3⟩ := T.row z v e
    exact ⟨z, some u0, rfl, rfl, h1, q _ _ Z H (.refl B) (.bl _) h⟩
def rdTab (d : Addr) (tab : TabT) : R2D := fun a b Q => a = .rf d ∧ b.S fun z => match tab.lookup z with
  | some v => Q v
  | none => False
theorem o2_tab {d : Addr} {tab : TabT} (T : KTab X.K X.w X.mg d tab) : Op2 X k (rIxD X.K X.w) (rdTab d tab) := by
  intro Z H x y a b Qd Q B ra rb h q
  obtain ⟨rfl, h1⟩ := h
  obtain ⟨z, rfl, h2⟩ := D.S_ex h1
  clear h1
  have h := h2
  clear h2
  cases ra
  cases rb
  cases e : tab.lookup z with
  | none => rw [e] at h; exact h.elim
  | some v =>
    rw [e] at h
    obtain ⟨u0, v0, h1, h2, h3⟩ := T.row z v e
    obtain ⟨es, n, dd⟩ := T.D
    exact ⟨d, z, v0, rfl, rfl, ⟨es, n, u0, dd.at_, dd.lit, h1, h2⟩, q _ _ Z H (.refl B) (h3 _ _) h⟩
theorem de_globR {x : Str} {d : Addr} (hm : X.mg x = some (.ref d)) (hg : Gl X x := by rfl) (hdb : (x == ("__debug__" : Str)) = false := by decide) : DE X k (.Name x pos) (wC (.rf d)) := de_glob (v := .ref d) (d := .rf d) hm rfl (fun _ => .rf _) hg hdb
/-! ### {'a': .., ..}, a dict as it is written -/
def wPairs : List (Str × WE) → En → (List (Key × D) → Prop) → Prop
  | [], _, Q => Q []
  | (z, w) :: r, ρ, Q => w ρ fun d => wPairs r ρ fun kvs => Q ((.inr z, d) :: kvs)
def DPs (X : Cx) (k : Cc) (pos : Pos) (keys : List (Option Expr)) (values : List Expr) (ps : List (Str × WE)) : Prop := ∃ trs, PPs X pos keys values trs ∧ ∀ (r : Rt) (Z H : Hp) (σ : L2.St) (ρ : En) (Qd : List (Key × D) → Prop) (Q : List (V × V) → Hp → Prop), Ok (wc X k.s) k r Z H σ ρ → wPairs ps ρ Qd →
  (∀ kvs vs Z' H', Stp k.s Z H Z' H' → RpK (wc X k.s) Z' vs kvs → vs.length = ps.length → Qd kvs → Q (vs.map fun kv => (kV kv.1, kv.2)) H') → tPairs trs σ H Q
theorem dps_nil : DPs X k pos [] [] [] := ⟨[], pps_nil, fun r Z H σ ρ Qd Q O h q => q [] [] Z H (.refl O.bs) .nil rfl h⟩
theorem dps_cons {z : Str} {j : Nat} {pz : Pos} {keys : List (Option Expr)} {values : List Expr} {ps : List (Str × WE)} (h : DE X k e w) (h2 : DPs X k pos keys values ps) : DPs X k pos (some (.Constant (.str z) j pz) :: keys) (e :: values) ((z, w) :: ps) := by
  obtain ⟨t, p, f⟩ := h
  obtain ⟨trs, p2, f2⟩ := h2
  refine ⟨_, pps_cons pe_str p p2, fun r Z H σ ρ Qd Q O h q => ?_⟩
  refine f r Z H σ ρ _ _ O h fun d v Z1 H1 s1 r1 h1 => ?_
  refine f2 r Z1 H1 σ ρ _ _ (O.stp s1) h1 fun kvs vs Z2 H2 s2 r2 l2 h2 => ?_
  exact q _ ((.inr z, v) :: vs) Z2 H2 (s1.trans s2 O.bs.st) (.cons (r1.mono s2.zz) r2) (by rw [List.length_cons, List.length_cons, l2]) h2
def putAll (kvs more : List (Key × D)) : List (Key × D) := more.foldl (fun acc kv => putT acc kv.1 kv.2) kvs
theorem rpk_merge {c : Wc} {Z : Hp} : ∀ {more : List (Key × V)} {md : List (Key × D)} {xs : List (Key × V)} {ds : List (Key × D)}, RpK c Z more md → RpK c Z xs ds → RpK c Z (mergeK xs more) (putAll ds md)
  | [], _, _, _, h0, h => by
    cases h0
    exact h
  | (k, v) :: r, _, _, _, h0, h => by
    cases h0 with
    | cons hv hr => exact (show RpK c Z (mergeK (putK _ k v) r) (putAll (putT _ k _) _) from rpk_merge hr (rpk_put h hv))
def wDisp (ps : List (Str × WE)) : WE := fun ρ Q => wPairs ps ρ fun kvs => Q (.dic (putAll [] kvs))
theorem de_disp {keys : List (Option Expr)} {values : List Expr} {ps : List (Str × WE)} (h : DPs X k pos keys values ps) (hp : ps.length ≤ 15) (hall : keys.all (·.isSome) = true := by rfl) (hl : keys.length = values.length := by rfl) (h0 : keys ≠ [] := by (intro z; cases z)) (h15 : keys.length ≤ 15 := by decide) : DE X k (.Dict keys values pos) (wDisp ps) := by
  obtain ⟨trs, p, f⟩ := h
  refine ⟨_, pe_disp p hall hl h0 h15, fun r Z H σ ρ Qd Q O h q => ?_⟩
  intro a ha
  have s0 := Stp.own (o := .dK []) O.bs ha
  refine f r Z _ σ ρ _ _ (O.stp s0) h fun kvs vs Z1 H1 s1 r1 l1 h1 => ?_
  have ne : a ≠ k.s := fun z => O.bs.st.ne ha z.symm
  have hd : H1 a = some (.dK []) := s1.hh a _ upd_same ne
  have z1 : Z1 a = none := by
    cases q : Z1 a with
    | none => rfl
    | some o =>
      rcases s1.nw a o q with z | z
      · rw [O.bs.zh.free ha] at z
        cases z
      · rw [upd_same] at z
        cases z
  refine ⟨hd, vs, rfl, by rw [l1]; exact hp, ?_⟩
  have s01 := s0.trans s1 O.bs.st
  have s2 := s01.mut (o := .dK (mergeK [] vs)) O.bs.st ha z1
  have s3 := s2.frz (o := .dK (mergeK [] vs)) O.bs.st ha z1 upd_same
  refine q _ _ _ _ s3 (.dic (.inl upd_same) ((rpk_merge r1 .nil).mono fun b u e => ?_)) h1
  rw [upd_ne (ne_of_none e z1)]
  exact e
/-! ### the truth of a list of the def's own -/
def wTruO (i : Nat) : WT := fun ρ Q => Sl.OL ρ[i]? fun ds => Q (!ds.isEmpty)
theorem dt_truO {i : Nat} {x : Str} (hi : X.N[i]? = some x := by rfl) (hv : Vis X.env.scope x := by first | exact Or.inl rfl | exact Or.inr (Or.inl rfl) | exact Or.inr (Or.inr rfl)) (hd : (x == ("__debug__" : Str)) = false := by decide) (hcd : (x == ("__classdict__" : Str)) = false := by decide)
    (he : ∀ whole, isTrue (.Name x p) X.env whole = (do let v ← whole; standAt (Expr.Name x p).pos; holding [v] (truthy v)) := by intro _; rfl) : DT X k (.Name x p) (wTruO i) := by
  refine ⟨_, pt_truth (pe_var hi hv hd hcd) he, fun r Z H σ ρ Qd Q O h q => ?_⟩
  obtain ⟨ds, e1, h⟩ := Sl.OL_ex h
  obtain ⟨o, h2, a, vs, rfl, h3, h4⟩ := O.sl i _ e1
  exact ⟨_, h2, _, .inl ⟨_, SqL.of h3, rfl⟩, q _ Z H (.refl O.bs) (by rw [isE_rpa h4]; exact h)⟩
/-! ### len of a list of the def's own -/
def wLenO (i : Nat) : WE := fun ρ Q => Sl.OL ρ[i]? fun ds => Q (.int ds.length)
theorem de_lenO {i : Nat} {x : Str} (hm : X.mg "len" = none) (hi : X.N[i]? = some x := by rfl) (hv : Vis X.env.scope x := by first | exact Or.inl rfl | exact Or.inr (Or.inl rfl) | exact Or.inr (Or.inr rfl)) (hd : (x == ("__debug__" : Str)) = false := by decide) (hcd : (x == ("__classdict__" : Str)) = false := by decide)
    (hg : Gl X "len" := by rfl) (he : starEach [.Name x p2] X.env = (false, eval (.Name x p2) X.env) :: starEach [] X.env := by rfl) (hpl : (backTo pos (starEach [] X.env)).any (·.1) = false := by rfl) : DE X k (.Call (.Name "len" p) [.Name x p2] [] pos) (wLenO i) := by
  refine ⟨_, pe_callB call_len_d hg hm PySem.boot_len (pa_cons (pe_var hi hv hd hcd) pa_nil he) (by decide) (by decide) he hpl, fun r Z H σ ρ Qd Q O h q => ?_⟩
  obtain ⟨ds, e1, h⟩ := Sl.OL_ex h
  obtain ⟨o, h2, a, vs, rfl, h3, h4⟩ := O.sl i _ e1
  exact ⟨_, h2, .inr ⟨a, vs, rfl, .inl (SqL.of h3), q _ _ Z H (.refl O.bs) (.int _) (by rw [h4.length]; exact h)⟩⟩
/-! ### list * n -/
def rdRepL : R2D := fun a b Q => a.L fun xs => b.I fun n => (0 ≤ n ∧ n ≤ 1000 ∧ xs.length ≤ 1000) ∧ Q (.lst (List.replicate n.toNat xs).flatten)
theorem rpa_rep {c : Wc} {Z : Hp} {vs : List V} {ds : List D} (h : RpA c Z vs ds) : ∀ n, RpA c Z (List.replicate n vs).flatten (List.replicate n ds).flatten
  | 0 => .nil
  | n + 1 => by
    rw [List.replicate_succ, List.replicate_succ, List.flatten_cons, List.flatten_cons]
    exact h.append (rpa_rep h n)
theorem de_repL (ha : DE X k a wa) (hb : DE X k b wb) : DE X k (.BinOp a .Mult b pos) (wOp rdRepL wa wb) := by
  refine de_op op_rep ?_ ha hb
  intro Z H x y a b Qd Q B ra rb h q
  obtain ⟨xs, rfl, h⟩ := D.L_ex h
  obtain ⟨n, rfl, ⟨h1, h2, h3⟩, h4⟩ := D.I_ex h
  cases ra with
  | lst hs hr =>
    cases rb
    refine ⟨_, n, _, rfl, rfl, B.zh _ _ hs, by omega, by omega, ?_, fun p hp => ?_⟩
    · rw [hr.length]
      refine Nat.le_trans (Nat.mul_le_mul h3 (show n.toNat ≤ 1000 by omega)) (by decide)
    · exact q _ _ _ _ (.add B hp) (rp_lst (rpa_rep hr _) B hp) h4
end
/-! ### the reader's __init__, and where it is made -/
section
variable {c : Wc} {Z H Z' H' : Hp}
theorem Stp.touch {s x : Addr} {o : HO} (h : Stp s Z H Z' H') (n : x ≠ s) (z : Z' x = none) : Stp s Z (upd H x o) Z' (upd H' x o) := by
  refine ⟨h.zz, ⟨fun a u e => ?_, stok_upd h.bs.st n, h.bs.zs⟩, fun a u e => ?_, fun a u e ns => ?_⟩
  · have : a ≠ x := fun y => by rw [y, z] at e; cases e
    rw [upd_ne this]
    exact h.bs.zh a u e
  · have : a ≠ x := fun y => by rw [y, z] at e; cases e
    rcases h.nw a u e with q | q
    · exact .inl q
    · right
      rw [upd_ne this]
      exact q
  · by_cases y : a = x
    · rw [y, upd_same] at e ⊢
      exact e
    · rw [upd_ne y] at e ⊢
      exact h.hh a u e ns
end
abbrev SpecI := List D → (List D → Prop) → (Exn → Prop) → Prop
/-- the promise of __init__: from an instance without fields to one with the words, not yet read -/
def spRI (K : PySem.W.Frag) (mg : Str → Option Value) (C : Addr) (spec : SpecI) : Sp := fun vs H Q E => ∃ (s x dx : Addr) (Z : Hp) (us : List V) (ds : List D) (Qd : List D → Prop) (Ed : Exn → Prop), vs = .ref x :: us ∧ Bs s Z H ∧ H x = some (.ins C dx []) ∧ Z x = none ∧ x ≠ s ∧ RpA ⟨K, mg, s⟩ Z us ds ∧ spec ds Qd Ed ∧
  (∀ ws a Z' H', Stp s Z (upd H x (rdo C ⟨x, dx, a⟩ 0)) Z' H' → (∃ vs, Z' a = some (.lst vs) ∧ RpA ⟨K, mg, s⟩ Z' vs ws) → Qd ws → Q .non H') ∧ (∀ ex cls od Z' H', Stp s Z H Z' H' → ExR ⟨K, mg, s⟩ Z' H' ex cls od → Ed ex → E cls od H')
theorem fn_init {P : Program} {w : World} {K : PySem.W.Frag} {mg : Str → Option Value} {base : Heap} {qual : Str} {st : Stmt} {f C : Addr} {fd : FuncData} {N ps : List Str} {lev : Nat} {spec : SpecI} {sf : Str} {e e2 : Expr} {p0 p1 p2 p3 p4 p5 p6 p7 : Pos} {j : Nat} (F : Fun K "__init__" qual st f fd) (S : FnScope N ps (defScope st)) (cl : Cls K C) (n1 : NoAttr K C "words") (n2 : NoAttr K C "at")
    (hl : ∀ ds Q E, spec ds Q E → ds.length + 1 = ps.length) (hn : ps.length ≤ N.length) (wx : (Exn → Prop) → WE)
    (hst : defBody st = [.Assign [.Attribute (.Name sf p0) "words" p1] e p2, .Assign [.Attribute (.Name sf p3) "at" p4] (.Constant (.int 0) j p5) p6])
    (hb : ∀ (cdv : Value) (A : Around) (outer : List Env) (s : Shared) (H : Hp) (s' : Addr) (Ed : Exn → Prop) (E : XK), Room lev (A.deeper (envOfC qual (defScope st) s.heap.objs.size f cdv)) →
      DE (cxOf (L2N.CX P w) P w K mg base N qual (defScope st) f cdv A outer s H E) ⟨s', Ed, E⟩ e (wx Ed))
    (hW : ∀ x ds Q E, spec ds Q E → wx E (ρ0 N.length (.rf x :: ds)) fun d => d.L Q)
    (h0 : N[0]? = some sf) (hv : Vis (defScope st) sf) (hd : (sf == ("__debug__" : Str)) = false) (hcd : (sf == ("__classdict__" : Str)) = false)
    (hs1 : ∀ (cdv : Value) (A : Around) (outer : List Env) (s : Shared) (H : Hp) (E : XK), swapsWith e (some (.Attribute (.Name sf p0) "words" p1)) p2.line (cxOf (L2N.CX P w) P w K mg base N qual (defScope st) f cdv A outer s H E).env = pure false)
    (hs2 : ∀ (cdv : Value) (A : Around) (outer : List Env) (s : Shared) (H : Hp) (E : XK), swapsWith (.Constant (.int 0) j p5) (some (.Attribute (.Name sf p3) "at" p4)) p6.line (cxOf (L2N.CX P w) P w K mg base N qual (defScope st) f cdv A outer s H E).env = pure false) : FnOk P w K mg base (L2N.CX P w) (lev + 1) f fd ps (spRI K mg C spec) := by
  obtain ⟨oc, od, kV, doc, pm, an, cdv, ct, osl, rfl, lk, hcd2⟩ := F.ex
  refine fn_of lk hcd2 S (fun vs H Q E h => ?_) (fun A outer s H vs Q E hr h => ?_)
  · obtain ⟨s, x, dx, Z, us, ds, Qd, Ed, rfl, _, _, _, _, h1, h2, _⟩ := h
    rw [List.length_cons, h1.length]
    exact hl _ _ _ h2
  · obtain ⟨s', x, dx, Z, us, ds, Qd, Ed, rfl, b, ho, zx, xs, h1, h2, h3, h4⟩ := h
    obtain ⟨t, p, q⟩ := hb cdv A outer s H s' Ed E hr
    have O := start_ok (c := ⟨K, mg, s'⟩) (k := ⟨s', Ed, E⟩) (N := N) b (.cons (.rf x) h1) (by rw [List.length_cons, hl _ _ _ h2]; exact hn) (fun Z' H' ex cls od st er hd => h4 ex cls od Z' H' st er hd)
    have e0 : (ρ0 N.length (.rf x :: ds))[0]? = some (.val (.rf x)) := rfl
    have hx := rf_var O e0
    have hp := pss_cons (ps_fld (pos := p2) (pe_var (X := cxOf (L2N.CX P w) P w K mg base N qual (defScope st) f cdv A outer s H E) h0 hv hd hcd) p (hs1 cdv A outer s H E)) (pss_one (ps_fld (pos := p6) (pe_var (X := cxOf (L2N.CX P w) P w K mg base N qual (defScope st) f cdv A outer s H E) h0 hv hd hcd) pe_int (hs2 cdv A outer s H E)))
    rw [← hst] at hp
    refine ⟨_, hp, ?_⟩
    · refine q _ Z H _ _ _ _ O (hW x ds Qd Ed h2) fun d v Z1 H1 s1 r1 hd1 => ?_
      obtain ⟨ws, rfl, hq⟩ := D.L_ex hd1
      have hx1 : H1 x = some (.ins C dx []) := s1.hh _ _ ho xs
      have z1 : Z1 x = none := by
        cases z : Z1 x with
        | none => rfl
        | some o =>
          rcases s1.nw x o z with y | y
          · rw [zx] at y; cases y
          · rw [ho] at y; cases y
      cases r1 with
      | @lst a vs _ hs hr2 =>
        refine ⟨_, hx, x, C, dx, [], rfl, hx1, cl, n1, by simp, ?_⟩
        refine ⟨_, hx, x, C, dx, _, rfl, upd_same, cl, n2, by simp [putF], ?_⟩
        rw [L2.upd_upd]
        have e3 : upd H1 x (.ins C dx (putF "at" (.int 0) (putF "words" (.ref a) []))) = upd H1 x (rdo C ⟨x, dx, a⟩ 0) := rfl
        rw [e3]
        exact h3 ws a Z1 _ (s1.touch xs z1) ⟨vs, hs, hr2⟩ hq
section
variable {X : Cx} {k : Cc} {e : Expr} {es : List Expr} {pos p p1 p2 : Pos} {rest : List Stmt}
/-- x = Reader(..), then what follows it -/
def wReader (i : Nat) (spec : SpecI) (u : WA) (xd : Exn → Prop) (W : Addr → List D → (Exn → Prop) → WSx) : WS := fun d ρ => u ρ fun ds => spec ds (fun ws => ∀ x, W x ws xd { nx := fun ρ' _ => d.nx ρ', rt := fun v _ => d.rt v, bk := fun ρ' _ => d.bk ρ', ct := fun ρ' _ => d.ct ρ' } (ρ.set i (.val (.rf x))) 0) xd
theorem db_reader {i : Nat} {y x : Str} {C f : Addr} {n : Nat} {fd : FuncData} {ps : List Str} {spec : SpecI} {u : WA} {W : Addr → List D → (Exn → Prop) → WSx} {pos' : Pos} (hN : X.N.Nodup) (M : Mk X.K C f) (F : FnOk X.prog X.w X.K X.mg X.base (L2N.CX X.prog X.w) n f fd ps (spRI X.K X.mg C spec)) (hr : Room (n + 1) X.A) (hm : X.mg x = some (.ref C)) (hb : Binds X.K fd ps []) (hx : Passes (L2N.CX X.prog X.w) X k.xk)
    (ha : DA X k (e :: es) u) (hrest : ∀ R ws, DBx X ⟨k.s, k.xd, k.xk, C, R, ws⟩ rest (W R.x ws k.xd)) (hi : X.N[i]? = some y := by rfl) (hlo : Loc X.env.scope y := by first | exact Or.inl rfl | exact Or.inr rfl)
    (hs : swapsWith (.Call (.Name x p) (e :: es) [] pos) (some (.Name y pos')) p1.line X.env = pure false := by rfl) (hf : X.fn y = true ∨ X.env.scope.names.lookup y = some .local := by first | exact .inl rfl | exact .inr rfl | assumption)
    (hg : Gl X x := by rfl) (hdb : (x == ("__debug__" : Str)) = false := by decide) (he : starEach (e :: es) X.env = (false, eval e X.env) :: starEach es X.env := by rfl) (hpl : (backTo pos (starEach es X.env)).any (·.1) = false := by rfl) :
    DB X k (.Assign [.Name y pos'] (.Call (.Name x p) (e :: es) [] pos) p1 :: rest) (wReader i spec u k.xd W) := by
  obtain ⟨t, pa, g⟩ := ha
  refine ⟨_, pss_cons (ps_set hN hi hlo (pe_make (ds := []) (dvs := []) (E := k.xk) M F hr hg hm hb .nil hx pa hdb he hpl) hs hf) (⟨fun pins s σ H D I ⟨t', p', h'⟩ => p'.run pins s σ H D I h'⟩ : PSs X rest (fun D σ H => ∃ t', PSs X rest t' ∧ t' D σ H)), fun r Z H σ ρ d E O L h => ?_⟩
  refine g r Z H σ ρ _ _ O h fun ds vs Z1 H1 s1 r1 h1 => ?_
  intro x0 dx hy hdx hne
  rw [List.append_nil]
  have O1 := O.stp s1
  have s2 : Stp k.s Z1 H1 Z1 (upd H1 dx (.own x0)) := .own O1.bs hdx
  have O2 := O1.stp s2
  have hy2 : upd H1 dx (.own x0) x0 = none := by
    rw [upd_ne hne.symm]
    exact hy
  have s3 : Stp k.s Z1 (upd H1 dx (.own x0)) Z1 (upd (upd H1 dx (.own x0)) x0 (.ins C dx [])) := .own O2.bs hy2
  have O3 := O2.stp s3
  have zx : Z1 x0 = none := O1.bs.zh.free hy
  have xs : x0 ≠ k.s := fun z => O1.bs.st.ne hy z.symm
  have h0x : r.H0 x0 = none := O1.en.free O.s0 hy
  have z0x : r.Z0 x0 = none := by
    cases z : r.Z0 x0 with
    | none => rfl
    | some o =>
      have := O1.en.zz _ _ z
      rw [zx] at this
      cases this
  refine ⟨k.s, x0, dx, Z1, vs, ds, _, k.xd, rfl, O3.bs, upd_same, zx, xs, r1, h1, fun ws a Z' H' st hw hq => ⟨rfl, ?_⟩, fun ex cls od Z' H' st er hd => O3.lk Z' H' ex cls od (O3.en.trans st O3.s0) er hd⟩
  have hq := hq x0
  obtain ⟨t', p', f'⟩ := hrest ⟨x0, dx, a⟩ ws
  refine ⟨t', p', ?_⟩
  -- the entry, with the reader's object in it
  have back : ∀ n Z2 H2, Stp k.s r.Z0 (upd r.H0 x0 (rdo C ⟨x0, dx, a⟩ n)) Z2 H2 → Stp k.s r.Z0 r.H0 Z2 H2 := fun n Z2 H2 q => ⟨q.zz, q.bs, fun b o e => by
    rcases q.nw b o e with z | z
    · exact .inl z
    · right
      by_cases y : b = x0
      · rw [y, upd_same] at z
        cases z
      · rw [upd_ne y] at z
        exact z, fun b o e ns => q.hh b o (by
      have : b ≠ x0 := fun y => by rw [y, h0x] at e; cases e
      rw [upd_ne this]
      exact e) ns⟩
  have e4 : upd (upd (upd H1 dx (.own x0)) x0 (.ins C dx [])) x0 (rdo C ⟨x0, dx, a⟩ 0) = upd (upd H1 dx (.own x0)) x0 (rdo C ⟨x0, dx, a⟩ 0) := L2.upd_upd
  rw [e4] at st
  have en2 : Stp k.s r.Z0 (upd r.H0 x0 (rdo C ⟨x0, dx, a⟩ 0)) Z1 (upd (upd H1 dx (.own x0)) x0 (rdo C ⟨x0, dx, a⟩ 0)) := (O2.en).touch xs zx
  let r2 : Rt := ⟨r.Z0, r.H0, Z'⟩
  let kk : Kr := ⟨k.s, k.xd, k.xk, C, ⟨x0, dx, a⟩, ws⟩
  have O4 : Ok (wc X k.s) k r Z1 (upd (upd H1 dx (.own x0)) x0 (rdo C ⟨x0, dx, a⟩ 0)) σ ρ := O2.stp (.own O2.bs hy2)
  have own_ne : ∀ (i : Nat) (t : Sl) (b : Addr), ρ[i]? = some t → t.own = true → σ[i]? = some (some (.ref b)) → b ≠ x0 := fun i t b ht ho hb y => by
    obtain ⟨o, h1, h2⟩ := O2.sl i t ht
    obtain ⟨b', u, h3, h4⟩ := h2.own ho
    rw [h1, h3] at hb
    cases hb
    rw [y, hy2] at h4
    cases h4
  have O5 : OkR X kk r2 Z1 (upd (upd H1 dx (.own x0)) x0 (rdo C ⟨x0, dx, a⟩ 0)) σ ρ 0 → OkR X kk r2 Z' H' σ ρ 0 := fun o => o.stp st
  have O6 : Ok (wc X k.s) kk.cc ⟨r.Z0, upd r.H0 x0 (rdo C ⟨x0, dx, a⟩ 0), r.Zl⟩ Z' H' σ ρ := by
    have o5 : Ok (wc X k.s) kk.cc ⟨r.Z0, upd r.H0 x0 (rdo C ⟨x0, dx, a⟩ 0), r.Zl⟩ Z1 (upd (upd H1 dx (.own x0)) x0 (rdo C ⟨x0, dx, a⟩ 0)) σ ρ := by
      refine ⟨en2, stok_upd O.s0 xs, O4.lb, O4.sl, fun i t b ht ho hb => ?_, O4.ds, fun Z2 H2 ex cls od q er hd => O4.lk Z2 H2 ex cls od (back 0 _ _ q) er hd⟩
      obtain ⟨q1, q2, q3⟩ := O4.ow i t b ht ho hb
      exact ⟨q1, by show upd r.H0 x0 _ b = none; rw [upd_ne (own_ne i t b ht ho hb)]; exact q2, q3⟩
    exact o5.stp st
  have O7 : OkR X kk r2 Z' H' σ ρ 0 := ⟨O6.en, O6.s0, Same.refl _, O6.sl, O6.ow, O6.ds, O6.lk⟩
  have S : RS X kk r2 := ⟨z0x, xs, hw, fun n Z2 H2 ex cls od q er hd => O.lk Z2 H2 ex cls od (back n _ _ q) er hd⟩
  have lbz : Same r.Zl Z' := O6.lb
  refine f' r2 S Z' H' _ _ 0 _ _ (O7.set (.rf x0)) ⟨?_, ?_, ?_, ?_⟩ hq
  · intro Z2 H2 σ2 ρ2 n2 o2 h2
    refine L.nx Z2 H2 σ2 ρ2 ⟨back n2 _ _ o2.en, O.s0, lbz.trans o2.lb, o2.sl, fun i t b ht ho hb => ?_, o2.ds, O.lk⟩ h2
    obtain ⟨q1, q2, q3⟩ := o2.ow i t b ht ho hb
    refine ⟨q1, ?_, q3⟩
    by_cases y : b = x0
    · rw [y]; exact h0x
    · rw [show (rr r2 C ⟨x0, dx, a⟩ n2).H0 b = r.H0 b from upd_ne y] at q2
      exact q2
  · exact fun Z2 H2 v d2 n2 q lb2 rv h2 => L.rt Z2 H2 v d2 (back n2 _ _ q) (lbz.trans lb2) rv h2
  · intro Z2 H2 σ2 ρ2 n2 o2 h2
    refine L.bk Z2 H2 σ2 ρ2 ⟨back n2 _ _ o2.en, O.s0, lbz.trans o2.lb, o2.sl, fun i t b ht ho hb => ?_, o2.ds, O.lk⟩ h2
    obtain ⟨q1, q2, q3⟩ := o2.ow i t b ht ho hb
    refine ⟨q1, ?_, q3⟩
    by_cases y : b = x0
    · rw [y]; exact h0x
    · rw [show (rr r2 C ⟨x0, dx, a⟩ n2).H0 b = r.H0 b from upd_ne y] at q2
      exact q2
  · intro Z2 H2 σ2 ρ2 n2 o2 h2
    refine L.ct Z2 H2 σ2 ρ2 ⟨back n2 _ _ o2.en, O.s0, lbz.trans o2.lb, o2.sl, fun i t b ht ho hb => ?_, o2.ds, O.lk⟩ h2
    obtain ⟨q1, q2, q3⟩ := o2.ow i t b ht ho hb
    refine ⟨q1, ?_, q3⟩
    by_cases y : b = x0
    · rw [y]; exact h0x
    · rw [show (rr r2 C ⟨x0, dx, a⟩ n2).H0 b = r.H0 b from upd_ne y] at q2
      exact q2
end
end Dl
set_option Elab.async false
set_option linter.all false
set_option maxRecDepth 100000
set_option maxHeartbeats 2000000
namespace K5
open PySem PySem.Spec PyProof.Rows L2 Dl
/-! ### a document's words, read: the mathematics -/
abbrev W3 := Int × Str × D
def encW (x : W3) : D := .tup [.int x.1, .str x.2.1, x.2.2]
def kd (wl : List W3) (n : Nat) : Str := match wl[n]? with
  | some x => x.2.1
  | none => "end"
def wd (wl : List W3) (n : Nat) : D := match wl[n]? with
  | some x => x.2.2
  | none => .str ""
def pl (wl : List W3) (e : Int) (n : Nat) : Int := match wl[n]? with
  | some x => x.1
  | none => e
def full (wl : List W3) (e : Int) : List D := wl.map encW ++ [.tup [.int e, .str "end", .str ""]]
def isS (d : D) (w : Str) : Bool := match d with
  | .str s => decide (s = w)
  | _ => false
def see (wl : List W3) (n : Nat) (k w : Str) : Bool := decide (kd wl n = k) && isS (wd wl n) w
def kinds : List Str := [("sign" : Str), ("text" : Str), ("variable" : Str), ("number" : Str), ("name" : Str)]
def wordy (d : D) : Prop := (∃ i, d = .int i) ∨ ∃ s, d = .str s ∧ PyData.strOk s = true
structure GoodW (wl : List W3) (e : Int) : Prop where
  e0 : 0 ≤ e
  e1 : e ≤ 1000
  len : wl.length ≤ 1000
  pos : ∀ x ∈ wl, 0 ≤ x.1 ∧ x.1 ≤ 1000
  kind : ∀ x ∈ wl, x.2.1 ∈ kinds
  word : ∀ x ∈ wl, wordy x.2.2
  num : ∀ x ∈ wl, x.2.1 ≠ "number" → ∃ s, x.2.2 = .str s
/-- what reading gives: a tree and how far it has been read, or where it does not go on -/
inductive RR where
  | ok (d : D) (n : Nat)
  | bad (n : Nat)
def RR.bind (r : RR) (f : D → Nat → RR) : RR := match r with
  | .ok d n => f d n
  | .bad m => .bad m
def constT : List (Str × D) := [(("true" : Str), D.tup [.str "truth", .bl true]), (("false" : Str), D.tup [.str "truth", .bl false]), (("null" : Str), D.tup [.str "null"])]
def look (d : D) : Option D := match d with
  | .str s => constT.lookup s
  | _ => none
def plainAt (wl : List W3) (n : Nat) : Bool := decide (kd wl n = "name") && !isS (wd wl n) "_type"
def pConst (wl : List W3) (n : Nat) : RR :=
  if kd wl n = "number" ∨ kd wl n = "text" then .ok (.tup [.str (kd wl n), wd wl n]) (n + 1)
  else if kd wl n = "name" then (match look (wd wl n) with
    | some d => .ok d (n + 1)
    | none => .bad n) else .bad n
def pVal (wl : List W3) (n : Nat) : RR := if kd wl n = "variable" then .ok (.tup [.str "variable", wd wl n]) (n + 1) else pConst wl n
def pArg (wl : List W3) (n : Nat) : RR := if plainAt wl n = true then (if see wl (n + 1) "sign" ":" = true then (pVal wl (n + 2)).bind fun v n' => .ok (.tup [wd wl n, v]) n' else .bad (n + 1)) else .bad n
def pCond (wl : List W3) (n : Nat) : RR := if see wl n "name" "if" = true ∨ see wl n "name" "unless" = true then (if see wl (n + 1) "sign" "(" = true then (pVal wl (n + 2)).bind fun v n' => (if see wl n' "sign" ")" = true then .ok (.tup [wd wl n, v]) (n' + 1) else .bad n') else .bad (n + 1)) else .bad n
def loopF (wl : List W3) (p : Nat → RR) (close : Str) : Nat → Nat → List D → RR
  | 0, n, _ => .bad n
  | f + 1, n, acc => match p n with
    | .bad m => .bad m
    | .ok d n' => if see wl n' "sign" close = true then .ok (.tup (acc ++ [d])) (n' + 1) else loopF wl p close f n' (acc ++ [d])
def condsF (wl : List W3) : Nat → Nat → List D → RR
  | 0, n, _ => .bad n
  | f + 1, n, acc => if see wl n "sign" "@" = true then (match pCond wl (n + 1) with
    | .bad m => .bad m
    | .ok d n' => condsF wl f n' (acc ++ [d])) else .ok (.tup acc) n
def pArgs (wl : List W3) (n : Nat) : RR := if see wl n "sign" "(" = true then loopF wl (pArg wl) ")" (wl.length + 1) (n + 1) [] else .ok (.tup []) n
def pConds (wl : List W3) (n : Nat) : RR := condsF wl (wl.length + 1) n []
def pName (wl : List W3) (n : Nat) : RR := if plainAt wl n = true then .ok (.tup [.str "name", wd wl n]) (n + 1) else .bad n
def bang (wl : List W3) (r : RR) : RR := r.bind fun k n => if see wl n "sign" "!" = true then .ok (.tup [.str "must", k]) (n + 1) else .ok k n
mutual
def pBare (wl : List W3) : Nat → Nat → RR
  | 0, n => pName wl n
  | m + 1, n => if see wl n "sign" "[" = true then (pType wl m (n + 1)).bind fun k n' => (if see wl n' "sign" "]" = true then .ok (.tup [.str "list", k]) (n' + 1) else .bad n') else pName wl n
def pType (wl : List W3) : Nat → Nat → RR
  | m, n => bang wl (pBare wl m n)
end
def pDecl (wl : List W3) (n : Nat) : RR := if kd wl n = "variable" then (if see wl (n + 1) "sign" ":" = true then (pType wl 5 (n + 2)).bind fun k n' => (if see wl n' "sign" "=" = true then (pConst wl (n' + 1)).bind fun c n'' => .ok (.tup [wd wl n, k, c]) n'' else .ok (.tup [wd wl n, k, .non]) n') else .bad (n + 1)) else .bad n
def pDecls (wl : List W3) (n : Nat) : RR := if see wl n "sign" "(" = true then loopF wl (pDecl wl) ")" (wl.length + 1) (n + 1) [] else .ok (.tup []) n
def pTail (wl : List W3) (S : Nat → RR) (key name : D) (n : Nat) : RR := (pArgs wl n).bind fun a n1 => (pConds wl n1).bind fun c n2 => if see wl n2 "sign" "{" = true then (S n2).bind fun s n3 => .ok (.tup [.str "field", key, name, a, c, s]) n3 else .ok (.tup [.str "field", key, name, a, c, .non]) n2
/-- a field, as the law reads it: a colon behind _type is refused at once -/
def pField (wl : List W3) (S : Nat → RR) (n : Nat) : RR :=
  if kd wl n = "name" then (if see wl (n + 1) "sign" ":" = true then (if isS (wd wl n) "_type" = true then .bad (n + 1) else if kd wl (n + 2) = "name" then pTail wl S (wd wl n) (wd wl (n + 2)) (n + 3) else .bad (n + 2)) else pTail wl S (wd wl n) (wd wl n) (n + 1)) else .bad n
def pSpread (wl : List W3) (S : Nat → RR) (n : Nat) : RR :=
  if see wl n "name" "on" = true then (if plainAt wl (n + 1) = true then (pConds wl (n + 2)).bind fun c n1 => (S n1).bind fun s n2 => .ok (.tup [.str "on", wd wl (n + 1), c, s]) n2 else .bad (n + 1))
  else if kd wl n = "name" then (if plainAt wl n = true then (pConds wl (n + 1)).bind fun c n1 => .ok (.tup [.str "spread", wd wl n, c]) n1 else .bad n)
  else (pConds wl n).bind fun c n1 => (S n1).bind fun s n2 => .ok (.tup [.str "on", .non, c, s]) n2
def pPart (wl : List W3) (S : Nat → RR) (n : Nat) : RR := if see wl n "sign" "..." = true then pSpread wl S (n + 1) else pField wl S n
def pSel (wl : List W3) : Nat → Nat → RR
  | 0, n => .bad n
  | m + 1, n => if see wl n "sign" "{" = true then loopF wl (pPart wl (pSel wl m)) "}" (wl.length + 1) (n + 1) [] else .bad n
def pFrag (wl : List W3) (n : Nat) : RR :=
  if see wl n "name" "fragment" = true then (if plainAt wl (n + 1) = true ∧ isS (wd wl (n + 1)) "on" = false then (if see wl (n + 2) "name" "on" = true then (if plainAt wl (n + 3) = true then (pSel wl 10 (n + 4)).bind fun s n1 => .ok (.tup [wd wl (n + 1), wd wl (n + 3), s]) n1 else .bad (n + 3)) else .bad (n + 2)) else .bad (n + 1)) else .bad n
def fragsF (wl : List W3) : Nat → Nat → List D → RR
  | 0, n, acc => .bad n
  | f + 1, n, acc => if n < wl.length then (if acc.length = 10 then .bad n else match pFrag wl n with
    | .bad m => .bad m
    | .ok d n' => fragsF wl f n' (acc ++ [d])) else .ok (.tup acc) n
def pDoc (wl : List W3) : RR := if see wl 0 "name" "query" = true then (pDecls wl 1).bind fun v n1 => (pSel wl 10 n1).bind fun s n2 => (fragsF wl (wl.length + 1) n2 []).bind fun fr n3 => .ok (.tup [v, s, fr]) n3 else .bad 0
/-! ### small facts -/
theorem kd_lt {wl : List W3} {n : Nat} {k : Str} (h : kd wl n = k) (hk : k ≠ "end") : n < wl.length := by
  unfold kd at h
  cases q : wl[n]? with
  | none => rw [q] at h; exact absurd h.symm hk
  | some x => exact (List.getElem?_eq_some_iff.mp q).1
theorem see_kd {wl : List W3} {n : Nat} {k w : Str} (h : see wl n k w = true) : kd wl n = k := by
  unfold see at h
  exact of_decide_eq_true (Bool.and_eq_true_iff.mp h).1
theorem see_lt {wl : List W3} {n : Nat} {k w : Str} (h : see wl n k w = true) (hk : k ≠ "end" := by decide) : n < wl.length := kd_lt (see_kd h) hk
theorem plain_lt {wl : List W3} {n : Nat} (h : plainAt wl n = true) : n < wl.length := by
  unfold plainAt at h
  exact kd_lt (of_decide_eq_true (Bool.and_eq_true_iff.mp h).1) (by decide)
theorem full_len (wl : List W3) (e : Int) : (full wl e).length = wl.length + 1 := by unfold full; simp
theorem full_at (wl : List W3) (e : Int) {n : Nat} (h : n ≤ wl.length) : (full wl e)[n]? = some (.tup [.int (pl wl e n), .str (kd wl n), wd wl n]) := by
  unfold full pl kd wd
  by_cases q : n < wl.length
  · rw [List.getElem?_append_left (by rw [List.length_map]; exact q), List.getElem?_map, List.getElem?_eq_getElem q]
    rfl
  · have : n = wl.length := by omega
    subst this
    rw [List.getElem?_append_right (by rw [List.length_map]; exact Nat.le_refl _), List.length_map, Nat.sub_self]
    rw [List.getElem?_eq_none (Nat.le_refl _)]
    rfl
theorem wl_at (wl : List W3) {n : Nat} (h : n < wl.length) : (wl.map encW)[n]? = some (.tup [.int (pl wl 0 n), .str (kd wl n), wd wl n]) := by
  unfold pl kd wd
  rw [List.getElem?_map, List.getElem?_eq_getElem h]
  rfl
theorem strOk_dec {s : Str} (h : PyData.strOk s = true := by decide +kernel) : PyData.strOk s = true := h
theorem wd_wordy {wl : List W3} {e : Int} (G : GoodW wl e) (n : Nat) : wordy (wd wl n) := by
  unfold wd
  cases q : wl[n]? with
  | none => exact .inr ⟨_, rfl, by decide +kernel⟩
  | some x => exact G.word x (List.mem_of_getElem? q)
theorem kd_in {wl : List W3} {e : Int} (G : GoodW wl e) (n : Nat) : kd wl n ∈ kinds ∨ (kd wl n = "end" ∧ wd wl n = .str "" ∧ wl.length ≤ n) := by
  unfold kd wd
  cases q : wl[n]? with
  | none => exact .inr ⟨rfl, rfl, List.getElem?_eq_none_iff.mp q⟩
  | some x => exact .inl (G.kind x (List.mem_of_getElem? q))
theorem kd_ok {wl : List W3} {e : Int} (G : GoodW wl e) (n : Nat) : PyData.strOk (kd wl n) = true := by
  rcases kd_in G n with h | ⟨h, _⟩
  · have : ∀ k ∈ kinds, PyData.strOk k = true := by decide +kernel
    exact this _ h
  · rw [h]; decide +kernel
theorem wd_str {wl : List W3} {e : Int} (G : GoodW wl e) {n : Nat} (h : kd wl n ≠ "number") : ∃ s, wd wl n = .str s := by
  unfold kd at h
  unfold wd
  cases q : wl[n]? with
  | none => exact ⟨_, rfl⟩
  | some x => rw [q] at h; exact G.num x (List.mem_of_getElem? q) h
theorem pl_bd {wl : List W3} {e : Int} (G : GoodW wl e) (n : Nat) : 0 ≤ pl wl e n ∧ pl wl e n ≤ 1000 := by
  unfold pl
  cases q : wl[n]? with
  | none => exact ⟨G.e0, G.e1⟩
  | some x => exact G.pos x (List.mem_of_getElem? q)
theorem sees_end {wl : List W3} {e : Int} (G : GoodW wl e) (n : Nat) : see wl n "end" "" = decide (wl.length ≤ n) := by
  by_cases h : wl.length ≤ n
  · rw [decide_eq_true h]
    unfold see kd wd
    rw [List.getElem?_eq_none_iff.mpr h]
    rfl
  · rw [decide_eq_false h]
    rcases kd_in G n with q | ⟨_, _, q⟩
    · unfold see
      have : ∀ k ∈ kinds, k ≠ ("end" : Str) := by decide
      rw [decide_eq_false (this _ q)]
      rfl
    · exact absurd q h
/-! ### == of what stands there with a kind and a word -/
theorem deq_str (a b : Str) : PyData.eqv (D.py (.str a)) (D.py (.str b)) = decide (a = b) := by
  show (a == b) = _
  by_cases h : a = b
  · subst h; rw [beq_self_eq_true, decide_eq_true rfl]
  · rw [beq_eq_false_iff_ne.mpr h, decide_eq_false h]
theorem deq_kw {k kk w : Str} {d : D} (hd : wordy d) : deq (.tup [.str k, d]) (.tup [.str kk, .str w]) = (decide (k = kk) && isS d w) := by
  show (PyData.eqv (D.py (.str k)) (D.py (.str kk)) && (PyData.eqv d.py (D.py (.str w)) && PyData.eqvAll [] [])) = _
  rw [deq_str]
  rcases hd with ⟨i, rfl⟩ | ⟨s, rfl, _⟩
  · rfl
  · rw [deq_str]
    show (_ && (_ && true)) = _
    rw [Bool.and_true]
    rfl
theorem wordy_fit {d : D} (h : wordy d) : d.fit = true ∧ d.dep = 0 := by
  rcases h with ⟨i, rfl⟩ | ⟨s, rfl, h⟩
  · exact ⟨rfl, rfl⟩
  · exact ⟨h, rfl⟩
theorem kw_ok {k : Str} {d : D} (hk : PyData.strOk k = true) (hd : wordy d) : D.ok (.tup [.str k, d]) := by
  obtain ⟨h1, h2⟩ := wordy_fit hd
  refine ⟨?_, ?_⟩
  · simp only [D.fit, D.fitA, hk, h1, Bool.and_self]
  · simp only [D.dep, D.depA, h2]
    omega
/-! ### how deep the trees go; how far reading goes -/
def Tr (b : Nat) (d : D) : Prop := d.fit = true ∧ d.dep ≤ b
theorem Tr.mono {a b : Nat} {d : D} (h : Tr a d) (l : a ≤ b) : Tr b d := ⟨h.1, Nat.le_trans h.2 l⟩
theorem Tr.wd {wl : List W3} {e : Int} (G : GoodW wl e) (n : Nat) : Tr 0 (wd wl n) := by
  obtain ⟨h1, h2⟩ := wordy_fit (wd_wordy G n)
  exact ⟨h1, by omega⟩
theorem Tr.str {s : Str} (h : PyData.strOk s = true) : Tr 0 (.str s) := ⟨h, Nat.le_refl _⟩
theorem Tr.non : Tr 0 .non := ⟨rfl, Nat.le_refl _⟩
theorem trA {b : Nat} : ∀ ds : List D, (∀ d ∈ ds, Tr b d) → D.fitA ds = true ∧ D.depA ds ≤ b
  | [], _ => ⟨rfl, Nat.zero_le _⟩
  | d :: r, h => by
    obtain ⟨h1, h2⟩ := trA r fun x hx => h x (List.mem_cons_of_mem _ hx)
    obtain ⟨h3, h4⟩ := h d List.mem_cons_self
    exact ⟨by simp only [D.fitA, h1, h3, Bool.and_self], by simp only [D.depA]; omega⟩
theorem Tr.tup {b : Nat} {ds : List D} (h : ∀ d ∈ ds, Tr b d) : Tr (b + 1) (.tup ds) := by
  obtain ⟨h1, h2⟩ := trA ds h
  exact ⟨by simp only [D.fit, h1], by simp only [D.dep]; omega⟩
/-- good news of r: a tree not too deep, read on by at least j -/
def Fin (wl : List W3) (b : Nat) (lo : Nat) (r : RR) : Prop := match r with
  | .ok d n => Tr b d ∧ lo ≤ n ∧ n ≤ wl.length
  | .bad _ => True
theorem Fin.bind {wl : List W3} {b c lo lo' : Nat} {r : RR} {f : D → Nat → RR} (h : Fin wl b lo r) (hf : ∀ d n, Tr b d → lo ≤ n → n ≤ wl.length → Fin wl c lo' (f d n)) : Fin wl c lo' (r.bind f) := by
  cases r with
  | bad m => trivial
  | ok d n => exact hf d n h.1 h.2.1 h.2.2
section
variable {wl : List W3} {e : Int} (G : GoodW wl e)
include G
theorem const_tr : ∀ d ∈ constT.map (·.2), Tr 1 d := by
  intro d hd
  simp only [constT, List.map_cons, List.map_nil, List.mem_cons, List.not_mem_nil, or_false] at hd
  rcases hd with rfl | rfl | rfl <;> exact ⟨by decide +kernel, by decide⟩
theorem look_tr {d v : D} (h : look d = some v) : Tr 1 v := by
  cases d with
  | str s =>
    have h : constT.lookup s = some v := h
    refine const_tr G v ?_
    unfold constT at h ⊢
    simp only [List.lookup] at h
    split at h
    · cases h; simp
    · split at h
      · cases h; simp
      · split at h
        · cases h; simp
        · cases h
  | _ => cases h
theorem fin_const (n : Nat) : Fin wl 1 (n + 1) (pConst wl n) := by
  unfold pConst
  split
  · rename_i h
    have hl : n < wl.length := by
      rcases h with h | h
      · exact kd_lt h (by decide)
      · exact kd_lt h (by decide)
    refine ⟨.tup fun d hd => ?_, Nat.le_refl _, hl⟩
    simp only [List.mem_cons, List.not_mem_nil, or_false] at hd
    rcases hd with rfl | rfl
    · exact .str (kd_ok G n)
    · exact .wd G n
  · split
    · rename_i h
      have hl : n < wl.length := kd_lt h (by decide)
      cases q : look (wd wl n) with
      | none => trivial
      | some v => exact ⟨look_tr G q, Nat.le_refl _, hl⟩
    · trivial
theorem fin_val (n : Nat) : Fin wl 1 (n + 1) (pVal wl n) := by
  unfold pVal
  split
  · rename_i h
    refine ⟨.tup fun d hd => ?_, Nat.le_refl _, kd_lt h (by decide)⟩
    simp only [List.mem_cons, List.not_mem_nil, or_false] at hd
    rcases hd with rfl | rfl
    · exact .str (by decide +kernel)
    · exact .wd G n
  · exact fin_const G n
theorem tr2 {b : Nat} {x y : D} (hx : Tr b x) (hy : Tr b y) : Tr (b + 1) (.tup [x, y]) := .tup fun d hd => by
  simp only [List.mem_cons, List.not_mem_nil, or_false] at hd
  rcases hd with rfl | rfl
  · exact hx
  · exact hy
theorem tr3 {b : Nat} {x y z : D} (hx : Tr b x) (hy : Tr b y) (hz : Tr b z) : Tr (b + 1) (.tup [x, y, z]) := .tup fun d hd => by
  simp only [List.mem_cons, List.not_mem_nil, or_false] at hd
  rcases hd with rfl | rfl | rfl
  · exact hx
  · exact hy
  · exact hz
theorem tr4 {b : Nat} {x y z u : D} (hx : Tr b x) (hy : Tr b y) (hz : Tr b z) (hu : Tr b u) : Tr (b + 1) (.tup [x, y, z, u]) := .tup fun d hd => by
  simp only [List.mem_cons, List.not_mem_nil, or_false] at hd
  rcases hd with rfl | rfl | rfl | rfl
  · exact hx
  · exact hy
  · exact hz
  · exact hu
theorem fin_arg (n : Nat) : Fin wl 2 (n + 3) (pArg wl n) := by
  unfold pArg
  split
  · split
    · refine (fin_val G (n + 2)).bind fun v n' h1 h2 h3 => ?_
      exact ⟨tr2 G ((Tr.wd G n).mono (by omega)) h1, by omega, h3⟩
    · trivial
  · trivial
theorem fin_cond (n : Nat) : Fin wl 2 (n + 4) (pCond wl n) := by
  unfold pCond
  split
  · split
    · refine (fin_val G (n + 2)).bind fun v n' h1 h2 h3 => ?_
      split
      · rename_i hs
        have := see_lt hs
        exact ⟨tr2 G ((Tr.wd G n).mono (by omega)) h1, by omega, this⟩
      · trivial
    · trivial
  · trivial
theorem fin_loop {p : Nat → RR} {close : Str} {b : Nat} (hp : ∀ n, Fin wl b (n + 1) (p n)) : ∀ (f n : Nat) (acc : List D), (∀ d ∈ acc, Tr b d) → Fin wl (b + 1) (n + 1) (loopF wl p close f n acc)
  | 0, n, acc, _ => trivial
  | f + 1, n, acc, ha => by
    unfold loopF
    have h := hp n
    cases q : p n with
    | bad m => trivial
    | ok d n' =>
      rw [q] at h
      have ha' : ∀ x ∈ acc ++ [d], Tr b x := fun x hx => by
        rcases List.mem_append.mp hx with hx | hx
        · exact ha x hx
        · rw [List.mem_singleton] at hx; rw [hx]; exact h.1
      show Fin wl (b + 1) (n + 1) (if see wl n' "sign" close = true then .ok (.tup (acc ++ [d])) (n' + 1) else loopF wl p close f n' (acc ++ [d]))
      split
      · rename_i hs
        exact ⟨.tup ha', by have := h.2.1; omega, see_lt hs⟩
      · have ih := fin_loop (close := close) hp f n' (acc ++ [d]) ha'
        cases q2 : loopF wl p close f n' (acc ++ [d]) with
        | bad m => trivial
        | ok d2 n2 =>
          rw [q2] at ih
          exact ⟨ih.1, by have := h.2.1; have := ih.2.1; omega, ih.2.2⟩
theorem fin_condsF : ∀ (f n : Nat) (acc : List D), n ≤ wl.length → (∀ d ∈ acc, Tr 2 d) → Fin wl 3 n (condsF wl f n acc)
  | 0, n, acc, _, _ => trivial
  | f + 1, n, acc, hn, ha => by
    unfold condsF
    split
    · have h := fin_cond G (n + 1)
      cases q : pCond wl (n + 1) with
      | bad m => trivial
      | ok d n' =>
        rw [q] at h
        have ih := fin_condsF f n' (acc ++ [d]) h.2.2 fun x hx => by
          rcases List.mem_append.mp hx with hx | hx
          · exact ha x hx
          · rw [List.mem_singleton] at hx; rw [hx]; exact h.1
        show Fin wl 3 n (condsF wl f n' (acc ++ [d]))
        cases q2 : condsF wl f n' (acc ++ [d]) with
        | bad m => trivial
        | ok d2 n2 =>
          rw [q2] at ih
          exact ⟨ih.1, by have := h.2.1; have := ih.2.1; omega, ih.2.2⟩
    · exact ⟨.tup ha, Nat.le_refl _, hn⟩
theorem fin_args {n : Nat} (hn : n ≤ wl.length) : Fin wl 3 n (pArgs wl n) := by
  unfold pArgs
  split
  · have h := fin_loop G (fun n => by
      have := fin_arg G n
      cases q : pArg wl n with
      | bad m => trivial
      | ok d n' => rw [q] at this; exact ⟨this.1, by have := this.2.1; omega, this.2.2⟩ : ∀ n, Fin wl 2 (n + 1) (pArg wl n)) (close := ")") (wl.length + 1) (n + 1) [] (fun _ z => nomatch z)
    cases q : loopF wl (pArg wl) ")" (wl.length + 1) (n + 1) [] with
    | bad m => trivial
    | ok d n' => rw [q] at h; exact ⟨h.1, by have := h.2.1; omega, h.2.2⟩
  · exact ⟨(Tr.tup (b := 2) (ds := []) fun _ z => nomatch z), Nat.le_refl _, hn⟩
theorem fin_conds {n : Nat} (hn : n ≤ wl.length) : Fin wl 3 n (pConds wl n) := fin_condsF G _ n [] hn fun _ z => nomatch z
theorem fin_name (n : Nat) : Fin wl 1 (n + 1) (pName wl n) := by
  unfold pName
  split
  · rename_i h
    exact ⟨tr2 G (.str (by decide +kernel)) (.wd G n), Nat.le_refl _, plain_lt h⟩
  · trivial
theorem fin_bang {b lo : Nat} {r : RR} (h : Fin wl b lo r) : Fin wl (b + 1) lo (bang wl r) := by
  unfold bang
  refine h.bind fun k n h1 h2 h3 => ?_
  split
  · rename_i hs
    exact ⟨tr2 G ((Tr.str (by decide +kernel)).mono (Nat.zero_le _)) h1, by omega, see_lt hs⟩
  · exact ⟨h1.mono (by omega), h2, h3⟩
theorem fin_bare : ∀ (m n : Nat), Fin wl (2 * m + 1) (n + 1) (pBare wl m n)
  | 0, n => by
    unfold pBare
    exact fin_name G n
  | m + 1, n => by
    unfold pBare
    split
    · unfold pType
      refine (fin_bang G (fin_bare m (n + 1))).bind fun k n' h1 h2 h3 => ?_
      split
      · rename_i hs
        exact ⟨tr2 G ((Tr.str (by decide +kernel)).mono (Nat.zero_le _)) h1, by omega, see_lt hs⟩
      · trivial
    · have := fin_name G n
      cases q : pName wl n with
      | bad m => trivial
      | ok d n' => rw [q] at this; exact ⟨this.1.mono (by omega), this.2⟩
theorem fin_type (m n : Nat) : Fin wl (2 * m + 2) (n + 1) (pType wl m n) := by
  unfold pType
  exact fin_bang G (fin_bare G m n)
theorem fin_decl (n : Nat) : Fin wl 13 (n + 1) (pDecl wl n) := by
  unfold pDecl
  split
  · split
    · refine (fin_type G 5 (n + 2)).bind fun k n' h1 h2 h3 => ?_
      split
      · refine (fin_const G (n' + 1)).bind fun c n'' h4 h5 h6 => ?_
        exact ⟨tr3 G ((Tr.wd G n).mono (by omega)) h1 (h4.mono (by omega)), by omega, h6⟩
      · exact ⟨tr3 G ((Tr.wd G n).mono (by omega)) h1 (Tr.non.mono (by omega)), by omega, h3⟩
    · trivial
  · trivial
theorem fin_decls {n : Nat} (hn : n ≤ wl.length) : Fin wl 14 n (pDecls wl n) := by
  unfold pDecls
  split
  · have h := fin_loop G (fin_decl G) (close := ")") (wl.length + 1) (n + 1) [] (fun _ z => nomatch z)
    cases q : loopF wl (pDecl wl) ")" (wl.length + 1) (n + 1) [] with
    | bad m => trivial
    | ok d n' => rw [q] at h; exact ⟨h.1, by have := h.2.1; omega, h.2.2⟩
  · exact ⟨(Tr.tup (b := 2) (ds := []) fun _ z => nomatch z).mono (by omega), Nat.le_refl _, hn⟩
theorem fin_tail {S : Nat → RR} {b n : Nat} {key name : D} (hS : ∀ n, Fin wl b (n + 1) (S n)) (hb : 3 ≤ b) (hk : Tr 0 key) (hm : Tr 0 name) (hn : n ≤ wl.length) : Fin wl (b + 1) n (pTail wl S key name n) := by
  unfold pTail
  refine (fin_args G hn).bind fun a n1 h1 h2 h3 => (fin_conds G h3).bind fun c n2 h4 h5 h6 => ?_
  have six : ∀ s, Tr b s → Tr (b + 1) (.tup [.str "field", key, name, a, c, s]) := fun s hs => .tup fun d hd => by
    simp only [List.mem_cons, List.not_mem_nil, or_false] at hd
    rcases hd with rfl | rfl | rfl | rfl | rfl | rfl
    · exact (Tr.str (by decide +kernel)).mono (Nat.zero_le _)
    · exact hk.mono (Nat.zero_le _)
    · exact hm.mono (Nat.zero_le _)
    · exact h1.mono hb
    · exact h4.mono hb
    · exact hs
  split
  · refine (hS n2).bind fun s n3 h7 h8 h9 => ⟨six s h7, by omega, h9⟩
  · exact ⟨six .non (Tr.non.mono (Nat.zero_le _)), by omega, h6⟩
theorem fin_field {S : Nat → RR} {b : Nat} (hS : ∀ n, Fin wl b (n + 1) (S n)) (hb : 3 ≤ b) (n : Nat) : Fin wl (b + 1) (n + 1) (pField wl S n) := by
  unfold pField
  split
  · rename_i hk
    have := kd_lt hk (by decide)
    split
    · split
      · trivial
      · split
        · rename_i hk2
          have := kd_lt hk2 (by decide)
          have h := fin_tail G hS hb (Tr.wd G n) (Tr.wd G (n + 2)) (n := n + 3) this
          cases q : pTail wl S (wd wl n) (wd wl (n + 2)) (n + 3) with
          | bad m => trivial
          | ok d n' => rw [q] at h; exact ⟨h.1, by have := h.2.1; omega, h.2.2⟩
        · trivial
    · exact fin_tail G hS hb (Tr.wd G n) (Tr.wd G n) this
  · trivial
theorem fin_spread {S : Nat → RR} {b : Nat} (hS : ∀ n, Fin wl b (n + 1) (S n)) (hb : 3 ≤ b) {n : Nat} (hn : n ≤ wl.length) : Fin wl (b + 1) (n + 1) (pSpread wl S n) := by
  unfold pSpread
  have s0 : ∀ s : Str, PyData.strOk s = true → Tr b (.str s) := fun s h => (Tr.str h).mono (Nat.zero_le _)
  split
  · split
    · rename_i hp
      have := plain_lt hp
      refine (fin_conds G (n := n + 2) this).bind fun c n1 h1 h2 h3 => (hS n1).bind fun s n2 h4 h5 h6 => ?_
      exact ⟨tr4 G (s0 _ (by decide +kernel)) ((Tr.wd G _).mono (Nat.zero_le _)) (h1.mono hb) h4, by omega, h6⟩
    · trivial
  · split
    · split
      · rename_i hp
        have := plain_lt hp
        refine (fin_conds G (n := n + 1) this).bind fun c n1 h1 h2 h3 => ?_
        exact ⟨tr3 G (s0 _ (by decide +kernel)) ((Tr.wd G _).mono (Nat.zero_le _)) (h1.mono hb), by omega, h3⟩
      · trivial
    · refine (fin_conds G hn).bind fun c n1 h1 h2 h3 => (hS n1).bind fun s n2 h4 h5 h6 => ?_
      exact ⟨tr4 G (s0 _ (by decide +kernel)) (Tr.non.mono (Nat.zero_le _)) (h1.mono hb) h4, by omega, h6⟩
theorem fin_part {S : Nat → RR} {b : Nat} (hS : ∀ n, Fin wl b (n + 1) (S n)) (hb : 3 ≤ b) (n : Nat) : Fin wl (b + 1) (n + 1) (pPart wl S n) := by
  unfold pPart
  split
  · rename_i hs
    have h := fin_spread G hS hb (n := n + 1) (see_lt hs)
    cases q : pSpread wl S (n + 1) with
    | bad m => trivial
    | ok d n' => rw [q] at h; exact ⟨h.1, by have := h.2.1; omega, h.2.2⟩
  · exact fin_field G hS hb n
theorem fin_sel : ∀ (m n : Nat), Fin wl (2 * m + 3) (n + 1) (pSel wl m n)
  | 0, n => trivial
  | m + 1, n => by
    unfold pSel
    split
    · have h := fin_loop G (fin_part G (fin_sel m) (by omega)) (close := "}") (wl.length + 1) (n + 1) [] (fun _ z => nomatch z)
      cases q : loopF wl (pPart wl (pSel wl m)) "}" (wl.length + 1) (n + 1) [] with
      | bad m => trivial
      | ok d n' => rw [q] at h; exact ⟨h.1.mono (by omega), by have := h.2.1; omega, h.2.2⟩
    · trivial
theorem fin_frag (n : Nat) : Fin wl 24 (n + 1) (pFrag wl n) := by
  unfold pFrag
  split
  · split
    · split
      · split
        · refine (fin_sel G 10 (n + 4)).bind fun s n1 h1 h2 h3 => ?_
          exact ⟨tr3 G ((Tr.wd G _).mono (Nat.zero_le _)) ((Tr.wd G _).mono (Nat.zero_le _)) h1, by omega, h3⟩
        · trivial
      · trivial
    · trivial
  · trivial
theorem fin_frags : ∀ (f n : Nat) (acc : List D), n ≤ wl.length → (∀ d ∈ acc, Tr 24 d) → Fin wl 25 n (fragsF wl f n acc)
  | 0, n, acc, _, _ => trivial
  | f + 1, n, acc, hn, ha => by
    unfold fragsF
    split
    · split
      · trivial
      · have h := fin_frag G n
        cases q : pFrag wl n with
        | bad m => trivial
        | ok d n' =>
          rw [q] at h
          have ih := fin_frags f n' (acc ++ [d]) h.2.2 fun x hx => by
            rcases List.mem_append.mp hx with hx | hx
            · exact ha x hx
            · rw [List.mem_singleton] at hx; rw [hx]; exact h.1
          show Fin wl 25 n (fragsF wl f n' (acc ++ [d]))
          cases q2 : fragsF wl f n' (acc ++ [d]) with
          | bad m => trivial
          | ok d2 n2 =>
            rw [q2] at ih
            exact ⟨ih.1, by have := h.2.1; have := ih.2.1; omega, ih.2.2⟩
    · exact ⟨.tup ha, Nat.le_refl _, hn⟩
theorem fin_doc : Fin wl 26 0 (pDoc wl) := by
  unfold pDoc
  split
  · rename_i hs
    have := see_lt hs
    refine (fin_decls G (n := 1) this).bind fun v n1 h1 h2 h3 => (fin_sel G 10 n1).bind fun s n2 h4 h5 h6 => (fin_frags G _ n2 [] h6 fun _ z => nomatch z).bind fun fr n3 h7 h8 h9 => ?_
    exact ⟨tr3 G (h1.mono (by omega)) (h4.mono (by omega)) h7, by omega, h9⟩
  · trivial
end
end K5
set_option Elab.async false
set_option linter.all false
set_option maxRecDepth 100000
set_option maxHeartbeats 4000000
namespace K5
open PySem PySem.Spec PyProof.Rows L2 Dl
def fltP (wl : List W3) (e : Int) (m : Nat) : Exn := ⟨"InvalidDocument", some [("place", .int (pl wl e m))]⟩
def spM (f : List W3 → Int → List D → Nat → (D → Nat → Prop) → (Exn → Prop) → Prop) : SpecX := fun ws ds n Q E => ∃ (wl : List W3) (e : Int), ws = full wl e ∧ GoodW wl e ∧ n ≤ wl.length ∧ f wl e ds n Q E
def outR (wl : List W3) (e : Int) (r : RR) (Q : D → Nat → Prop) (E : Exn → Prop) : Prop := match r with
  | .ok d n => Q d n
  | .bad m => E (fltP wl e m)
def spP (p : List W3 → Nat → RR) : SpecX := spM fun wl e ds n Q E => ds = [] ∧ outR wl e (p wl n) Q E
def sp_R_ahead : SpecX := spM fun wl e ds n Q E => ds = [] ∧ Q (.tup [.str (kd wl n), wd wl n]) n
def sp_R_refuse : SpecX := spM fun wl e ds n Q E => ds = [] ∧ E (fltP wl e n)
def sp_R_take : SpecX := spM fun wl e ds n Q E => ds = [] ∧ n < wl.length ∧ Q (wd wl n) (n + 1)
def sp_R_sees : SpecX := spM fun wl e ds n Q E => ∃ k w : Str, ds = [.str k, .str w] ∧ PyData.strOk k = true ∧ PyData.strOk w = true ∧ Q (.bl (see wl n k w)) n
def sp_R_accept : SpecX := spM fun wl e ds n Q E => ∃ k w : Str, ds = [.str k, .str w] ∧ PyData.strOk k = true ∧ PyData.strOk w = true ∧ k ≠ "end" ∧ if see wl n k w = true then Q (.bl true) (n + 1) else Q (.bl false) n
def sp_R_expect : SpecX := spM fun wl e ds n Q E => ∃ k w : Str, ds = [.str k, .str w] ∧ PyData.strOk k = true ∧ PyData.strOk w = true ∧ k ≠ "end" ∧ if see wl n k w = true then Q .non (n + 1) else E (fltP wl e n)
def sp_R_expect_kind : SpecX := spM fun wl e ds n Q E => ∃ k : Str, ds = [.str k] ∧ k ≠ "end" ∧ if kd wl n = k then Q (wd wl n) (n + 1) else E (fltP wl e n)
def sp_R_expect_name : SpecX := spM fun wl e ds n Q E => ds = [] ∧ if plainAt wl n = true then Q (wd wl n) (n + 1) else E (fltP wl e n)
def sp_read_constant : SpecX := spP pConst
def sp_read_value : SpecX := spP pVal
def sp_read_condition : SpecX := spP pCond
def sp_read_conditions : SpecX := spP pConds
def sp_read_argument : SpecX := spP pArg
def sp_read_arguments : SpecX := spP pArgs
def sp_read_kind : Nat → SpecX
  | 0 => fun _ _ _ _ _ => False
  | m + 1 => spM fun wl e ds n Q E => ds = [.int (5 - (m : Int))] ∧ m ≤ 5 ∧ outR wl e (pType wl m n) Q E
def sp_read_bare_kind (m : Nat) : SpecX := spM fun wl e ds n Q E => ds = [.int (5 - (m : Int))] ∧ m ≤ 5 ∧ outR wl e (pBare wl m n) Q E
def sp_read_declaration : SpecX := spP pDecl
def sp_read_declarations : SpecX := spP pDecls
/-- a field, as the program reads it -/
def pFieldP (wl : List W3) (S : Nat → RR) (n : Nat) : RR :=
  if kd wl n = "name" then (if isS (wd wl n) "_type" = false ∧ see wl (n + 1) "sign" ":" = true then (if kd wl (n + 2) = "name" then pTail wl S (wd wl n) (wd wl (n + 2)) (n + 3) else .bad (n + 2)) else pTail wl S (wd wl n) (wd wl n) (n + 1)) else .bad n
def pPartP (wl : List W3) (S : Nat → RR) (n : Nat) : RR := if see wl n "sign" "..." = true then pSpread wl S (n + 1) else pFieldP wl S n
def sp_read_field : Nat → SpecX
  | 0 => fun _ _ _ _ _ => False
  | m + 1 => spM fun wl e ds n Q E => ds = [.int (10 - (m : Int))] ∧ outR wl e (pFieldP wl (pSel wl m) n) Q E
def sp_read_spread : Nat → SpecX
  | 0 => fun _ _ _ _ _ => False
  | m + 1 => spM fun wl e ds n Q E => ds = [.int (10 - (m : Int))] ∧ outR wl e (pSpread wl (pSel wl m) n) Q E
def sp_read_part : Nat → SpecX
  | 0 => fun _ _ _ _ _ => False
  | m + 1 => spM fun wl e ds n Q E => ds = [.int (10 - (m : Int))] ∧ outR wl e (pPartP wl (pSel wl m) n) Q E
def sp_read_selection (m : Nat) : SpecX := spM fun wl e ds n Q E => ds = [.int (11 - (m : Int))] ∧ m ≤ 10 ∧ outR wl e (pSel wl m n) Q E
def sp_read_fragment : SpecX := spP pFrag
def sp_read_fragments : SpecX := spP fun wl n => fragsF wl (wl.length + 1) n []
def toW (d : D) : W3 := match d with
  | .tup [.int i, .str k, v] => (i, k, v)
  | _ => (0, "", .non)
def sp_parse_document : SpecD := fun ds Q E => ∃ t : Str, ds = [.str t] ∧ t.length ≤ 1000 ∧ (∀ c ∈ cs t, gd c = true) ∧ match spl 0 (cs t) with
  | .inl j => E (flt j)
  | .inr ws => match pDoc (ws.map toW) with
    | .ok d _ => (match d with
      | .tup [v, s, f] => Q (.ins "Document" [("variables", v), ("selection", s), ("fragments", f)])
      | _ => False)
    | .bad m => E (fltP (ws.map toW) t.length m)
def encR (r : RR) : D := match r with
  | .ok d n => .tup [.str "ok", d, .int (n : Nat)]
  | .bad n => .tup [.str "bad", .int (n : Nat)]
def sp_l_is : SpecD := fun ds Q _ => ∃ (wl : List W3) (e : Int) (n : Nat) (k w : Str), ds = [.lst (wl.map encW), .int (n : Nat), .str k, .str w] ∧ GoodW wl e ∧ k ≠ "end" ∧ PyData.strOk k = true ∧ PyData.strOk w = true ∧ Q (.bl (see wl n k w))
def sp_l_kind_at : SpecD := fun ds Q _ => ∃ (wl : List W3) (e : Int) (n : Nat) (k : Str), ds = [.lst (wl.map encW), .int (n : Nat), .str k] ∧ GoodW wl e ∧ k ≠ "end" ∧ Q (.bl (decide (kd wl n = k)))
def spL (p : List W3 → Nat → D) : SpecD := fun ds Q _ => ∃ (wl : List W3) (e : Int) (n : Nat), ds = [.lst (wl.map encW), .int (n : Nat)] ∧ GoodW wl e ∧ n ≤ wl.length + 9 ∧ Q (p wl n)
def sp_l_plain_at : SpecD := spL fun wl n => .bl (plainAt wl n)
def sp_l_constant : SpecD := spL fun wl n => encR (pConst wl n)
def sp_l_value_at : SpecD := spL fun wl n => encR (pVal wl n)
def sp_l_type_at : Nat → SpecD
  | 0 => fun _ _ _ => False
  | m + 1 => fun ds Q _ => ∃ (wl : List W3) (e : Int) (n : Nat), ds = [.lst (wl.map encW), .int (n : Nat), .int (5 - (m : Int))] ∧ GoodW wl e ∧ m ≤ 5 ∧ n ≤ wl.length + 9 ∧ Q (encR (pType wl m n))
def spLe (p : List W3 → Nat → D) : SpecD := fun ds Q _ => ∃ (wl : List W3) (e : Int) (n : Nat), ds = [.lst (wl.map encW), .int (n : Nat)] ∧ GoodW wl e ∧ n ≤ wl.length ∧ Q (p wl n)
def sp_l_declared : SpecD := spLe fun wl n => encR (pDecls wl n)
def sp_l_conditions_at : SpecD := spLe fun wl n => encR (pConds wl n)
def sp_l_arguments_at : SpecD := spLe fun wl n => encR (pArgs wl n)
def spLm (off : Int) (p : List W3 → Nat → Nat → D) : Nat → SpecD
  | 0 => fun _ _ _ => False
  | m + 1 => fun ds Q _ => ∃ (wl : List W3) (e : Int) (n : Nat), ds = [.lst (wl.map encW), .int (n : Nat), .int (off - (m : Int))] ∧ GoodW wl e ∧ n ≤ wl.length ∧ Q (p wl m n)
def sp_l_field_at : Nat → SpecD := spLm 10 fun wl m n => encR (pField wl (pSel wl m) n)
def sp_l_spread_at : Nat → SpecD := spLm 10 fun wl m n => encR (pSpread wl (pSel wl m) n)
def sp_l_selection_at (m : Nat) : SpecD := fun ds Q _ => ∃ (wl : List W3) (e : Int) (n : Nat), ds = [.lst (wl.map encW), .int (n : Nat), .int (11 - (m : Int))] ∧ GoodW wl e ∧ m ≤ 10 ∧ n ≤ wl.length ∧ Q (encR (pSel wl m n))
def sp_l_fragment_at : SpecD := fun ds Q _ => ∃ (wl : List W3) (e : Int) (n c : Nat), ds = [.lst (wl.map encW), .int (n : Nat), .int (c : Nat)] ∧ GoodW wl e ∧ n ≤ wl.length ∧ Q (encR (if c = 10 then .bad n else pFrag wl n))
def sp_l_document_at : SpecD := fun ds Q _ => ∃ (wl : List W3) (e : Int), ds = [.lst (wl.map encW)] ∧ GoodW wl e ∧ Q (encR (pDoc wl))
def resD (t : Str) : D := match spl 0 (cs t) with
  | .inl j => .tup [.str "fault", .int (j : Nat)]
  | .inr ws => match pDoc (ws.map toW) with
    | .ok d _ => .tup [.str "document", d]
    | .bad m => .tup [.str "fault", .int (pl (ws.map toW) t.length m)]
def spT (f : Str → D) : SpecD := fun ds Q _ => ∃ t : Str, ds = [.str t] ∧ t.length ≤ 1000 ∧ (∀ c ∈ cs t, gd c = true) ∧ Q (f t)
def sp_l_expected : SpecD := spT resD
def sp7_l_told : SpecD := spT resD
def okW (d : D) : Prop := ∃ s : Str, d = .str s ∧ s.length ≤ 8 ∧ ∀ c ∈ cs s, gd c = true
def sizW (d : D) : Nat := match d with
  | .str s => s.length + 1
  | _ => 0
def siz (l : List D) : Nat := (l.map sizW).sum
def okP (l : List D) : Prop := ∀ d ∈ l, okW d
def sp_l_start : SpecD := fun ds Q _ => ∃ ns : List Int, ds = [.drw, .scr ns] ∧ ∀ l : List D, okP l → siz l ≤ 400 → 1 ≤ l.length → Q (.lst l)
def W_R_ahead (x : Addr) (ws : List D) (xd : Exn → Prop) : WSx :=
  (wSeqX (wAsgX (wOpX rdIx (wRws 0 x ws) (wRat 0 x)) (wgTup 3 (wgCons (wgName 1) (wgCons (wgName 2) (wgCons (wgName 3) wgNil)))))
  (wPS (wRet (wTup (wCons (wVar 2) (wCons (wVar 3) wNil))))))
def W_R_refuse (x : Addr) (ws : List D) (xd : Exn → Prop) : WSx :=
  (wSeqX (wAsgX (wOpX rdIx (wRws 0 x ws) (wRat 0 x)) (wgTup 3 (wgCons (wgName 1) (wgCons (wgName 2) (wgCons (wgName 2) wgNil)))))
  (wPS (wRaiseF "InvalidDocument" "place" (goodF "the document does not fit at place ") xd (wVar 1))))
def W_R_take (x : Addr) (ws : List D) (xd : Exn → Prop) : WSx :=
  (wSeqX (wAsgX (wCallX 0 x ws xd sp_R_ahead wNil) (wgTup 2 (wgCons (wgName 1) (wgCons (wgName 2) wgNil))))
  (wSeqX (wRinc 0 x)
  (wPS (wRet (wVar 2)))))
def W_R_sees (x : Addr) (ws : List D) (xd : Exn → Prop) : WSx :=
  (wRetX (wOpX rdEq (wCallX 0 x ws xd sp_R_ahead wNil) (wPE (wTup (wCons (wVar 1) (wCons (wVar 2) wNil))))))
def W_R_accept (x : Addr) (ws : List D) (xd : Exn → Prop) : WSx :=
  (wSeqX (wIfX (wNotX (wBX (wCallX 0 x ws xd sp_R_sees (wCons (wVar 1) (wCons (wVar 2) wNil))))) (wPS (wRet (wC (.bl false)))) wNextX)
  (wSeqX (wRinc 0 x)
  (wPS (wRet (wC (.bl true))))))
def W_R_expect (x : Addr) (ws : List D) (xd : Exn → Prop) : WSx :=
  (wIfX (wNotX (wBX (wCallX 0 x ws xd sp_R_accept (wCons (wVar 1) (wCons (wVar 2) wNil))))) (wDropX (wCallX 0 x ws xd sp_R_refuse wNil)) wNextX)
def W_R_expect_kind (x : Addr) (ws : List D) (xd : Exn → Prop) : WSx :=
  (wSeqX (wAsgX (wCallX 0 x ws xd sp_R_ahead wNil) (wgTup 2 (wgCons (wgName 2) (wgCons (wgName 3) wgNil))))
  (wSeqX (wIfX (wPT (wB (wOp rdNe (wVar 2) (wVar 1)))) (wDropX (wCallX 0 x ws xd sp_R_refuse wNil)) wNextX)
  (wRetX (wCallX 0 x ws xd sp_R_take wNil))))
def W_R_expect_name (x : Addr) (ws : List D) (xd : Exn → Prop) : WSx :=
  (wSeqX (wIfX (wBX (wCallX 0 x ws xd sp_R_sees (wCons (wC (.str "name")) (wCons (wC (.str "_type")) wNil)))) (wDropX (wCallX 0 x ws xd sp_R_refuse wNil)) wNextX)
  (wRetX (wCallX 0 x ws xd sp_R_expect_kind (wCons (wC (.str "name")) wNil))))
def W_read_constant (tb_NAMED_CONSTANTS : Addr) (x : Addr) (ws : List D) (xd : Exn → Prop) : WSx :=
  (wSeqX (wAsgX (wCallX 0 x ws xd sp_R_ahead wNil) (wgTup 2 (wgCons (wgName 1) (wgCons (wgName 2) wgNil))))
  (wSeqX (wIfX (wPT (wB (wOp (rdInT false) (wVar 1) (wTup (wCons (wC (.str "number")) (wCons (wC (.str "text")) wNil)))))) (wRetX (wTupX (wConsX (wPE (wVar 1)) (wConsX (wCallX 0 x ws xd sp_R_take wNil) wNilX)))) wNextX)
  (wSeqX (wIfX (wPT (wOrT (wB (wOp rdNe (wVar 1) (wC (.str "name")))) (wB (wOp (rdTabIn true tb_NAMED_CONSTANTS constT) (wVar 2) (wC (.rf tb_NAMED_CONSTANTS)))))) (wDropX (wCallX 0 x ws xd sp_R_refuse wNil)) wNextX)
  (wRetX (wOpX (rdTab tb_NAMED_CONSTANTS constT) (wPE (wC (.rf tb_NAMED_CONSTANTS))) (wCallX 0 x ws xd sp_R_take wNil))))))
def W_read_value (x : Addr) (ws : List D) (xd : Exn → Prop) : WSx :=
  (wSeqX (wAsgX (wCallX 0 x ws xd sp_R_ahead wNil) (wgTup 2 (wgCons (wgName 1) (wgCons (wgName 2) wgNil))))
  (wSeqX (wIfX (wPT (wB (wOp rdEq (wVar 1) (wC (.str "variable"))))) (wRetX (wTupX (wConsX (wPE (wC (.str "variable"))) (wConsX (wCallX 0 x ws xd sp_R_take wNil) wNilX)))) wNextX)
  (wRetX (wCallX 0 x ws xd sp_read_constant wNil))))
def W_read_condition (x : Addr) (ws : List D) (xd : Exn → Prop) : WSx :=
  (wSeqX (wAsgX (wCallX 0 x ws xd sp_R_ahead wNil) (wgTup 2 (wgCons (wgName 1) (wgCons (wgName 2) wgNil))))
  (wSeqX (wIfX (wNotX (wBX (wCallX 0 x ws xd sp_R_accept (wCons (wC (.str "name")) (wCons (wC (.str "if")) wNil))))) (wDropX (wCallX 0 x ws xd sp_R_expect (wCons (wC (.str "name")) (wCons (wC (.str "unless")) wNil)))) wNextX)
  (wSeqX (wDropX (wCallX 0 x ws xd sp_R_expect (wCons (wC (.str "sign")) (wCons (wC (.str "(")) wNil))))
  (wSeqX (wSetX 3 (wCallX 0 x ws xd sp_read_value wNil))
  (wSeqX (wDropX (wCallX 0 x ws xd sp_R_expect (wCons (wC (.str "sign")) (wCons (wC (.str ")")) wNil))))
  (wPS (wRet (wTup (wCons (wVar 2) (wCons (wVar 3) wNil))))))))))
def W_read_conditions_b1 (x : Addr) (ws : List D) (xd : Exn → Prop) : WSx :=
  (wAppX 1 (wCallX 0 x ws xd sp_read_condition wNil))
def W_read_conditions (x : Addr) (ws : List D) (xd : Exn → Prop) : WSx :=
  (wSeqX (wPS (wNewL 1))
  (wSeqX (wWhileX (wBX (wCallX 0 x ws xd sp_R_accept (wCons (wC (.str "sign")) (wCons (wC (.str "@")) wNil)))) (W_read_conditions_b1 x ws xd))
  (wFrzX 1 (wPS (wRet (wCB rdCtuple (wCons (wVar 1) wNil)))))))
def W_read_argument (x : Addr) (ws : List D) (xd : Exn → Prop) : WSx :=
  (wSeqX (wSetX 1 (wCallX 0 x ws xd sp_R_expect_name wNil))
  (wSeqX (wDropX (wCallX 0 x ws xd sp_R_expect (wCons (wC (.str "sign")) (wCons (wC (.str ":")) wNil))))
  (wRetX (wTupX (wConsX (wPE (wVar 1)) (wConsX (wCallX 0 x ws xd sp_read_value wNil) wNilX))))))
def W_read_arguments_b1 (x : Addr) (ws : List D) (xd : Exn → Prop) : WSx :=
  (wAppX 1 (wCallX 0 x ws xd sp_read_argument wNil))
def W_read_arguments (x : Addr) (ws : List D) (xd : Exn → Prop) : WSx :=
  (wSeqX (wIfX (wNotX (wBX (wCallX 0 x ws xd sp_R_accept (wCons (wC (.str "sign")) (wCons (wC (.str "(")) wNil))))) (wPS (wRet (wTup wNil))) wNextX)
  (wSeqX (wNewL1 1 (wCallX 0 x ws xd sp_read_argument wNil))
  (wSeqX (wWhileX (wNotX (wBX (wCallX 0 x ws xd sp_R_accept (wCons (wC (.str "sign")) (wCons (wC (.str ")")) wNil))))) (W_read_arguments_b1 x ws xd))
  (wFrzX 1 (wPS (wRet (wCB rdCtuple (wCons (wVar 1) wNil))))))))
def W_read_kind (m : Nat) (x : Addr) (ws : List D) (xd : Exn → Prop) : WSx :=
  (wSeqX (wSetX 2 (wCallX 0 x ws xd (sp_read_bare_kind m) (wCons (wVar 1) wNil)))
  (wSeqX (wIfX (wBX (wCallX 0 x ws xd sp_R_accept (wCons (wC (.str "sign")) (wCons (wC (.str "!")) wNil)))) (wPS (wRet (wTup (wCons (wC (.str "must")) (wCons (wVar 2) wNil))))) wNextX)
  (wPS (wRet (wVar 2)))))
def W_read_bare_kind (m : Nat) (x : Addr) (ws : List D) (xd : Exn → Prop) : WSx :=
  (wSeqX (wIfX (wAndX (wPT (wB (wOp rdLt (wVar 1) (wC (.int (5)))))) (wBX (wCallX 0 x ws xd sp_R_accept (wCons (wC (.str "sign")) (wCons (wC (.str "[")) wNil))))) (wSeqX (wSetX 2 (wCallX 0 x ws xd (sp_read_kind m) (wCons (wOp rdAdd (wVar 1) (wC (.int 1))) wNil)))
  (wSeqX (wDropX (wCallX 0 x ws xd sp_R_expect (wCons (wC (.str "sign")) (wCons (wC (.str "]")) wNil))))
  (wPS (wRet (wTup (wCons (wC (.str "list")) (wCons (wVar 2) wNil))))))) wNextX)
  (wRetX (wTupX (wConsX (wPE (wC (.str "name"))) (wConsX (wCallX 0 x ws xd sp_R_expect_name wNil) wNilX)))))
def W_read_declaration (x : Addr) (ws : List D) (xd : Exn → Prop) : WSx :=
  (wSeqX (wSetX 1 (wCallX 0 x ws xd sp_R_expect_kind (wCons (wC (.str "variable")) wNil)))
  (wSeqX (wDropX (wCallX 0 x ws xd sp_R_expect (wCons (wC (.str "sign")) (wCons (wC (.str ":")) wNil))))
  (wSeqX (wSetX 2 (wCallX 0 x ws xd (sp_read_kind 6) (wCons (wC (.int 0)) wNil)))
  (wSeqX (wPS (wSet 3 (wC .non)))
  (wSeqX (wIfX (wBX (wCallX 0 x ws xd sp_R_accept (wCons (wC (.str "sign")) (wCons (wC (.str "=")) wNil)))) (wSetX 3 (wCallX 0 x ws xd sp_read_constant wNil)) wNextX)
  (wPS (wRet (wTup (wCons (wVar 1) (wCons (wVar 2) (wCons (wVar 3) wNil)))))))))))
def W_read_declarations_b1 (x : Addr) (ws : List D) (xd : Exn → Prop) : WSx :=
  (wAppX 1 (wCallX 0 x ws xd sp_read_declaration wNil))
def W_read_declarations (x : Addr) (ws : List D) (xd : Exn → Prop) : WSx :=
  (wSeqX (wIfX (wNotX (wBX (wCallX 0 x ws xd sp_R_accept (wCons (wC (.str "sign")) (wCons (wC (.str "(")) wNil))))) (wPS (wRet (wTup wNil))) wNextX)
  (wSeqX (wNewL1 1 (wCallX 0 x ws xd sp_read_declaration wNil))
  (wSeqX (wWhileX (wNotX (wBX (wCallX 0 x ws xd sp_R_accept (wCons (wC (.str "sign")) (wCons (wC (.str ")")) wNil))))) (W_read_declarations_b1 x ws xd))
  (wFrzX 1 (wPS (wRet (wCB rdCtuple (wCons (wVar 1) wNil))))))))
def W_read_field (m : Nat) (x : Addr) (ws : List D) (xd : Exn → Prop) : WSx :=
  (wSeqX (wSetX 2 (wCallX 0 x ws xd sp_R_expect_kind (wCons (wC (.str "name")) wNil)))
  (wSeqX (wPS (wSet 3 (wVar 2)))
  (wSeqX (wIfX (wAndX (wPT (wB (wOp rdNe (wVar 2) (wC (.str "_type"))))) (wBX (wCallX 0 x ws xd sp_R_accept (wCons (wC (.str "sign")) (wCons (wC (.str ":")) wNil))))) (wSetX 3 (wCallX 0 x ws xd sp_R_expect_kind (wCons (wC (.str "name")) wNil))) wNextX)
  (wSeqX (wSetX 4 (wCallX 0 x ws xd sp_read_arguments wNil))
  (wSeqX (wSetX 5 (wCallX 0 x ws xd sp_read_conditions wNil))
  (wSeqX (wPS (wSet 6 (wC .non)))
  (wSeqX (wIfX (wBX (wCallX 0 x ws xd sp_R_sees (wCons (wC (.str "sign")) (wCons (wC (.str "{")) wNil)))) (wSetX 6 (wCallX 0 x ws xd (sp_read_selection m) (wCons (wOp rdAdd (wVar 1) (wC (.int 1))) wNil))) wNextX)
  (wPS (wRet (wTup (wCons (wC (.str "field")) (wCons (wVar 2) (wCons (wVar 3) (wCons (wVar 4) (wCons (wVar 5) (wCons (wVar 6) wNil))))))))))))))))
def W_read_spread (m : Nat) (x : Addr) (ws : List D) (xd : Exn → Prop) : WSx :=
  (wSeqX (wPS (wSet 2 (wC .non)))
  (wSeqX (wIfX (wBX (wCallX 0 x ws xd sp_R_accept (wCons (wC (.str "name")) (wCons (wC (.str "on")) wNil)))) (wSetX 2 (wCallX 0 x ws xd sp_R_expect_name wNil)) (wIfX (wBX (wOpX rdEq (wOpX rdIx (wCallX 0 x ws xd sp_R_ahead wNil) (wPE (wC (.int 0)))) (wPE (wC (.str "name"))))) (wSeqX (wSetX 3 (wCallX 0 x ws xd sp_R_expect_name wNil))
  (wRetX (wTupX (wConsX (wPE (wC (.str "spread"))) (wConsX (wPE (wVar 3)) (wConsX (wCallX 0 x ws xd sp_read_conditions wNil) wNilX)))))) wNextX))
  (wSeqX (wSetX 4 (wCallX 0 x ws xd sp_read_conditions wNil))
  (wRetX (wTupX (wConsX (wPE (wC (.str "on"))) (wConsX (wPE (wVar 2)) (wConsX (wPE (wVar 4)) (wConsX (wCallX 0 x ws xd (sp_read_selection m) (wCons (wOp rdAdd (wVar 1) (wC (.int 1))) wNil)) wNilX)))))))))
def W_read_part (m : Nat) (x : Addr) (ws : List D) (xd : Exn → Prop) : WSx :=
  (wSeqX (wIfX (wBX (wCallX 0 x ws xd sp_R_accept (wCons (wC (.str "sign")) (wCons (wC (.str "...")) wNil)))) (wRetX (wCallX 0 x ws xd (sp_read_spread (m + 1)) (wCons (wVar 1) wNil))) wNextX)
  (wRetX (wCallX 0 x ws xd (sp_read_field (m + 1)) (wCons (wVar 1) wNil))))
def W_read_selection_b1 (m : Nat) (x : Addr) (ws : List D) (xd : Exn → Prop) : WSx :=
  (wAppX 2 (wCallX 0 x ws xd (sp_read_part m) (wCons (wVar 1) wNil)))
def W_read_selection (m : Nat) (x : Addr) (ws : List D) (xd : Exn → Prop) : WSx :=
  (wSeqX (wIfX (wPT (wB (wOp rdGt (wVar 1) (wC (.int (10)))))) (wDropX (wCallX 0 x ws xd sp_R_refuse wNil)) wNextX)
  (wSeqX (wDropX (wCallX 0 x ws xd sp_R_expect (wCons (wC (.str "sign")) (wCons (wC (.str "{")) wNil))))
  (wSeqX (wNewL1 2 (wCallX 0 x ws xd (sp_read_part m) (wCons (wVar 1) wNil)))
  (wSeqX (wWhileX (wNotX (wBX (wCallX 0 x ws xd sp_R_accept (wCons (wC (.str "sign")) (wCons (wC (.str "}")) wNil))))) (W_read_selection_b1 m x ws xd))
  (wFrzX 2 (wPS (wRet (wCB rdCtuple (wCons (wVar 2) wNil)))))))))
def W_read_fragment (x : Addr) (ws : List D) (xd : Exn → Prop) : WSx :=
  (wSeqX (wDropX (wCallX 0 x ws xd sp_R_expect (wCons (wC (.str "name")) (wCons (wC (.str "fragment")) wNil))))
  (wSeqX (wIfX (wBX (wCallX 0 x ws xd sp_R_sees (wCons (wC (.str "name")) (wCons (wC (.str "on")) wNil)))) (wDropX (wCallX 0 x ws xd sp_R_refuse wNil)) wNextX)
  (wSeqX (wSetX 1 (wCallX 0 x ws xd sp_R_expect_name wNil))
  (wSeqX (wDropX (wCallX 0 x ws xd sp_R_expect (wCons (wC (.str "name")) (wCons (wC (.str "on")) wNil))))
  (wSeqX (wSetX 2 (wCallX 0 x ws xd sp_R_expect_name wNil))
  (wRetX (wTupX (wConsX (wPE (wVar 1)) (wConsX (wPE (wVar 2)) (wConsX (wCallX 0 x ws xd (sp_read_selection 10) (wCons (wC (.int 1)) wNil)) wNilX))))))))))
def W_read_fragments_b1 (x : Addr) (ws : List D) (xd : Exn → Prop) : WSx :=
  (wSeqX (wIfX (wPT (wB (wOp rdEq (wLenO 1) (wC (.int (10)))))) (wDropX (wCallX 0 x ws xd sp_R_refuse wNil)) wNextX)
  (wAppX 1 (wCallX 0 x ws xd sp_read_fragment wNil)))
def W_read_fragments (x : Addr) (ws : List D) (xd : Exn → Prop) : WSx :=
  (wSeqX (wPS (wNewL 1))
  (wSeqX (wWhileX (wNotX (wBX (wCallX 0 x ws xd sp_R_sees (wCons (wC (.str "end")) (wCons (wC (.str "")) wNil))))) (W_read_fragments_b1 x ws xd))
  (wFrzX 1 (wPS (wRet (wCB rdCtuple (wCons (wVar 1) wNil)))))))
def W_l_is : WS :=
  (wRet (wAndV (wOp rdLt (wVar 1) (wCB rdLen (wCons (wVar 0) wNil))) (wOp rdEq (wSl rdSlT (wOp rdIx (wVar 0) (wVar 1)) (wPart (wC (.int 1))) wNo) (wTup (wCons (wVar 2) (wCons (wVar 3) wNil))))))
def W_l_kind_at : WS :=
  (wRet (wAndV (wOp rdLt (wVar 1) (wCB rdLen (wCons (wVar 0) wNil))) (wOp rdEq (wOp rdIx (wOp rdIx (wVar 0) (wVar 1)) (wC (.int 1))) (wVar 2))))
def W_l_plain_at : WS :=
  (wRet (wAndV (wCall0 sp_l_kind_at (wCons (wVar 0) (wCons (wVar 1) (wCons (wC (.str "name")) wNil)))) (wOp rdNe (wOp rdIx (wOp rdIx (wVar 0) (wVar 1)) (wC (.int 2))) (wC (.str "_type")))))
def W_l_constant : WS :=
  (wSeq (wSet 2 (wDisp [("true", (wTup (wCons (wC (.str "truth")) (wCons (wC (.bl true)) wNil)))), ("false", (wTup (wCons (wC (.str "truth")) (wCons (wC (.bl false)) wNil)))), ("null", (wTup (wCons (wC (.str "null")) wNil)))]))
  (wSeq (wIf (wOrT (wB (wCall0 sp_l_kind_at (wCons (wVar 0) (wCons (wVar 1) (wCons (wC (.str "number")) wNil))))) (wB (wCall0 sp_l_kind_at (wCons (wVar 0) (wCons (wVar 1) (wCons (wC (.str "text")) wNil)))))) (wRet (wTup (wCons (wC (.str "ok")) (wCons (wTup (wCons (wOp rdIx (wOp rdIx (wVar 0) (wVar 1)) (wC (.int 1))) (wCons (wOp rdIx (wOp rdIx (wVar 0) (wVar 1)) (wC (.int 2))) wNil))) (wCons (wOp rdAdd (wVar 1) (wC (.int 1))) wNil))))) wNext)
  (wSeq (wIf (wAndT (wB (wCall0 sp_l_kind_at (wCons (wVar 0) (wCons (wVar 1) (wCons (wC (.str "name")) wNil))))) (wB (wOp rdDIn (wOp rdIx (wOp rdIx (wVar 0) (wVar 1)) (wC (.int 2))) (wVar 2)))) (wRet (wTup (wCons (wC (.str "ok")) (wCons (wOp rdDGet (wVar 2) (wOp rdIx (wOp rdIx (wVar 0) (wVar 1)) (wC (.int 2)))) (wCons (wOp rdAdd (wVar 1) (wC (.int 1))) wNil))))) wNext)
  (wRet (wTup (wCons (wC (.str "bad")) (wCons (wVar 1) wNil)))))))
def W_l_value_at : WS :=
  (wSeq (wIf (wB (wCall0 sp_l_kind_at (wCons (wVar 0) (wCons (wVar 1) (wCons (wC (.str "variable")) wNil))))) (wRet (wTup (wCons (wC (.str "ok")) (wCons (wTup (wCons (wC (.str "variable")) (wCons (wOp rdIx (wOp rdIx (wVar 0) (wVar 1)) (wC (.int 2))) wNil))) (wCons (wOp rdAdd (wVar 1) (wC (.int 1))) wNil))))) wNext)
  (wRet (wCall0 sp_l_constant (wCons (wVar 0) (wCons (wVar 1) wNil)))))
def W_l_type_at (m : Nat) : WS :=
  (wSeq (wIf (wB (wCall0 sp_l_is (wCons (wVar 0) (wCons (wVar 1) (wCons (wC (.str "sign")) (wCons (wC (.str "[")) wNil)))))) (wSeq (wIf (wB (wOp rdEq (wVar 2) (wC (.int 5)))) (wRet (wTup (wCons (wC (.str "bad")) (wCons (wVar 1) wNil)))) wNext)
  (wSeq (wSet 3 (wCall0 (sp_l_type_at m) (wCons (wVar 0) (wCons (wOp rdAdd (wVar 1) (wC (.int 1))) (wCons (wOp rdAdd (wVar 2) (wC (.int 1))) wNil)))))
  (wSeq (wIf (wB (wOp rdEq (wOp rdIx (wVar 3) (wC (.int 0))) (wC (.str "bad")))) (wRet (wVar 3)) wNext)
  (wSeq (wIf (wNotT (wB (wCall0 sp_l_is (wCons (wVar 0) (wCons (wOp rdIx (wVar 3) (wC (.int 2))) (wCons (wC (.str "sign")) (wCons (wC (.str "]")) wNil))))))) (wRet (wTup (wCons (wC (.str "bad")) (wCons (wOp rdIx (wVar 3) (wC (.int 2))) wNil)))) wNext)
  (wSeq (wSet 4 (wTup (wCons (wC (.str "list")) (wCons (wOp rdIx (wVar 3) (wC (.int 1))) wNil))))
  (wSet 1 (wOp rdAdd (wOp rdIx (wVar 3) (wC (.int 2))) (wC (.int 1))))))))) (wIf (wB (wCall0 sp_l_plain_at (wCons (wVar 0) (wCons (wVar 1) wNil)))) (wSeq (wSet 4 (wTup (wCons (wC (.str "name")) (wCons (wOp rdIx (wOp rdIx (wVar 0) (wVar 1)) (wC (.int 2))) wNil))))
  (wSet 1 (wOp rdAdd (wVar 1) (wC (.int 1))))) (wRet (wTup (wCons (wC (.str "bad")) (wCons (wVar 1) wNil))))))
  (wSeq (wIf (wB (wCall0 sp_l_is (wCons (wVar 0) (wCons (wVar 1) (wCons (wC (.str "sign")) (wCons (wC (.str "!")) wNil)))))) (wRet (wTup (wCons (wC (.str "ok")) (wCons (wTup (wCons (wC (.str "must")) (wCons (wVar 4) wNil))) (wCons (wOp rdAdd (wVar 1) (wC (.int 1))) wNil))))) wNext)
  (wRet (wTup (wCons (wC (.str "ok")) (wCons (wVar 4) (wCons (wVar 1) wNil)))))))
def W_l_declared_b1 : WS :=
  (wSeq (wIf (wAndT (wTruO 2) (wB (wCall0 sp_l_is (wCons (wVar 0) (wCons (wVar 1) (wCons (wC (.str "sign")) (wCons (wC (.str ")")) wNil))))))) (wFrzL 2 (wRet (wTup (wCons (wC (.str "ok")) (wCons (wCB rdCtuple (wCons (wVar 2) wNil)) (wCons (wOp rdAdd (wVar 1) (wC (.int 1))) wNil)))))) wNext)
  (wSeq (wIf (wNotT (wB (wCall0 sp_l_kind_at (wCons (wVar 0) (wCons (wVar 1) (wCons (wC (.str "variable")) wNil)))))) (wRet (wTup (wCons (wC (.str "bad")) (wCons (wVar 1) wNil)))) wNext)
  (wSeq (wIf (wNotT (wB (wCall0 sp_l_is (wCons (wVar 0) (wCons (wOp rdAdd (wVar 1) (wC (.int 1))) (wCons (wC (.str "sign")) (wCons (wC (.str ":")) wNil))))))) (wRet (wTup (wCons (wC (.str "bad")) (wCons (wOp rdAdd (wVar 1) (wC (.int 1))) wNil)))) wNext)
  (wSeq (wSet 4 (wCall0 (sp_l_type_at 6) (wCons (wVar 0) (wCons (wOp rdAdd (wVar 1) (wC (.int 2))) (wCons (wC (.int 0)) wNil)))))
  (wSeq (wIf (wB (wOp rdEq (wOp rdIx (wVar 4) (wC (.int 0))) (wC (.str "bad")))) (wRet (wVar 4)) wNext)
  (wSeq (wSet 5 (wTup (wCons (wC (.str "ok")) (wCons (wC .non) (wCons (wOp rdIx (wVar 4) (wC (.int 2))) wNil)))))
  (wSeq (wIf (wB (wCall0 sp_l_is (wCons (wVar 0) (wCons (wOp rdIx (wVar 4) (wC (.int 2))) (wCons (wC (.str "sign")) (wCons (wC (.str "=")) wNil)))))) (wSeq (wSet 5 (wCall0 sp_l_constant (wCons (wVar 0) (wCons (wOp rdAdd (wOp rdIx (wVar 4) (wC (.int 2))) (wC (.int 1))) wNil))))
  (wIf (wB (wOp rdEq (wOp rdIx (wVar 5) (wC (.int 0))) (wC (.str "bad")))) (wRet (wVar 5)) wNext)) wNext)
  (wSeq (wApp 2 (wTup (wCons (wOp rdIx (wOp rdIx (wVar 0) (wVar 1)) (wC (.int 2))) (wCons (wOp rdIx (wVar 4) (wC (.int 1))) (wCons (wOp rdIx (wVar 5) (wC (.int 1))) wNil)))))
  (wSet 1 (wOp rdIx (wVar 5) (wC (.int 2))))))))))))
def W_l_declared : WS :=
  (wSeq (wIf (wNotT (wB (wCall0 sp_l_is (wCons (wVar 0) (wCons (wVar 1) (wCons (wC (.str "sign")) (wCons (wC (.str "(")) wNil))))))) (wRet (wTup (wCons (wC (.str "ok")) (wCons (wTup wNil) (wCons (wVar 1) wNil))))) wNext)
  (wSeq (wNewL 2)
  (wSeq (wSet 1 (wOp rdAdd (wVar 1) (wC (.int 1))))
  (wSeq (wFor (wiR (wCB rdLen (wCons (wVar 0) wNil))) (wgName 3)
  W_l_declared_b1)
  (wRet (wTup (wCons (wC (.str "bad")) (wCons (wVar 1) wNil))))))))
def W_l_conditions_at_b1 : WS :=
  (wSeq (wIf (wNotT (wB (wCall0 sp_l_is (wCons (wVar 0) (wCons (wVar 1) (wCons (wC (.str "sign")) (wCons (wC (.str "@")) wNil))))))) (wFrzL 2 (wRet (wTup (wCons (wC (.str "ok")) (wCons (wCB rdCtuple (wCons (wVar 2) wNil)) (wCons (wVar 1) wNil)))))) wNext)
  (wSeq (wIf (wAndT (wNotT (wB (wCall0 sp_l_is (wCons (wVar 0) (wCons (wOp rdAdd (wVar 1) (wC (.int 1))) (wCons (wC (.str "name")) (wCons (wC (.str "if")) wNil))))))) (wNotT (wB (wCall0 sp_l_is (wCons (wVar 0) (wCons (wOp rdAdd (wVar 1) (wC (.int 1))) (wCons (wC (.str "name")) (wCons (wC (.str "unless")) wNil)))))))) (wRet (wTup (wCons (wC (.str "bad")) (wCons (wOp rdAdd (wVar 1) (wC (.int 1))) wNil)))) wNext)
  (wSeq (wIf (wNotT (wB (wCall0 sp_l_is (wCons (wVar 0) (wCons (wOp rdAdd (wVar 1) (wC (.int 2))) (wCons (wC (.str "sign")) (wCons (wC (.str "(")) wNil))))))) (wRet (wTup (wCons (wC (.str "bad")) (wCons (wOp rdAdd (wVar 1) (wC (.int 2))) wNil)))) wNext)
  (wSeq (wSet 4 (wCall0 sp_l_value_at (wCons (wVar 0) (wCons (wOp rdAdd (wVar 1) (wC (.int 3))) wNil))))
  (wSeq (wIf (wB (wOp rdEq (wOp rdIx (wVar 4) (wC (.int 0))) (wC (.str "bad")))) (wRet (wVar 4)) wNext)
  (wSeq (wIf (wNotT (wB (wCall0 sp_l_is (wCons (wVar 0) (wCons (wOp rdIx (wVar 4) (wC (.int 2))) (wCons (wC (.str "sign")) (wCons (wC (.str ")")) wNil))))))) (wRet (wTup (wCons (wC (.str "bad")) (wCons (wOp rdIx (wVar 4) (wC (.int 2))) wNil)))) wNext)
  (wSeq (wApp 2 (wTup (wCons (wOp rdIx (wOp rdIx (wVar 0) (wOp rdAdd (wVar 1) (wC (.int 1)))) (wC (.int 2))) (wCons (wOp rdIx (wVar 4) (wC (.int 1))) wNil))))
  (wSet 1 (wOp rdAdd (wOp rdIx (wVar 4) (wC (.int 2))) (wC (.int 1)))))))))))
def W_l_conditions_at : WS :=
  (wSeq (wNewL 2)
  (wSeq (wFor (wiR (wOp rdAdd (wCB rdLen (wCons (wVar 0) wNil)) (wC (.int 1)))) (wgName 3)
  W_l_conditions_at_b1)
  (wRet (wTup (wCons (wC (.str "bad")) (wCons (wVar 1) wNil))))))
def W_l_arguments_at_b1 : WS :=
  (wSeq (wIf (wAndT (wTruO 2) (wB (wCall0 sp_l_is (wCons (wVar 0) (wCons (wVar 1) (wCons (wC (.str "sign")) (wCons (wC (.str ")")) wNil))))))) (wFrzL 2 (wRet (wTup (wCons (wC (.str "ok")) (wCons (wCB rdCtuple (wCons (wVar 2) wNil)) (wCons (wOp rdAdd (wVar 1) (wC (.int 1))) wNil)))))) wNext)
  (wSeq (wIf (wNotT (wB (wCall0 sp_l_plain_at (wCons (wVar 0) (wCons (wVar 1) wNil))))) (wRet (wTup (wCons (wC (.str "bad")) (wCons (wVar 1) wNil)))) wNext)
  (wSeq (wIf (wNotT (wB (wCall0 sp_l_is (wCons (wVar 0) (wCons (wOp rdAdd (wVar 1) (wC (.int 1))) (wCons (wC (.str "sign")) (wCons (wC (.str ":")) wNil))))))) (wRet (wTup (wCons (wC (.str "bad")) (wCons (wOp rdAdd (wVar 1) (wC (.int 1))) wNil)))) wNext)
  (wSeq (wSet 4 (wCall0 sp_l_value_at (wCons (wVar 0) (wCons (wOp rdAdd (wVar 1) (wC (.int 2))) wNil))))
  (wSeq (wIf (wB (wOp rdEq (wOp rdIx (wVar 4) (wC (.int 0))) (wC (.str "bad")))) (wRet (wVar 4)) wNext)
  (wSeq (wApp 2 (wTup (wCons (wOp rdIx (wOp rdIx (wVar 0) (wVar 1)) (wC (.int 2))) (wCons (wOp rdIx (wVar 4) (wC (.int 1))) wNil))))
  (wSet 1 (wOp rdIx (wVar 4) (wC (.int 2))))))))))
def W_l_arguments_at : WS :=
  (wSeq (wIf (wNotT (wB (wCall0 sp_l_is (wCons (wVar 0) (wCons (wVar 1) (wCons (wC (.str "sign")) (wCons (wC (.str "(")) wNil))))))) (wRet (wTup (wCons (wC (.str "ok")) (wCons (wTup wNil) (wCons (wVar 1) wNil))))) wNext)
  (wSeq (wNewL 2)
  (wSeq (wSet 1 (wOp rdAdd (wVar 1) (wC (.int 1))))
  (wSeq (wFor (wiR (wCB rdLen (wCons (wVar 0) wNil))) (wgName 3)
  W_l_arguments_at_b1)
  (wRet (wTup (wCons (wC (.str "bad")) (wCons (wVar 1) wNil))))))))
def W_l_field_at (m : Nat) : WS :=
  (wSeq (wIf (wNotT (wB (wCall0 sp_l_kind_at (wCons (wVar 0) (wCons (wVar 1) (wCons (wC (.str "name")) wNil)))))) (wRet (wTup (wCons (wC (.str "bad")) (wCons (wVar 1) wNil)))) wNext)
  (wSeq (wSet 3 (wOp rdIx (wOp rdIx (wVar 0) (wVar 1)) (wC (.int 2))))
  (wSeq (wSet 4 (wVar 3))
  (wSeq (wSet 1 (wOp rdAdd (wVar 1) (wC (.int 1))))
  (wSeq (wIf (wB (wCall0 sp_l_is (wCons (wVar 0) (wCons (wVar 1) (wCons (wC (.str "sign")) (wCons (wC (.str ":")) wNil)))))) (wSeq (wIf (wB (wOp rdEq (wVar 3) (wC (.str "_type")))) (wRet (wTup (wCons (wC (.str "bad")) (wCons (wVar 1) wNil)))) wNext)
  (wSeq (wIf (wNotT (wB (wCall0 sp_l_kind_at (wCons (wVar 0) (wCons (wOp rdAdd (wVar 1) (wC (.int 1))) (wCons (wC (.str "name")) wNil)))))) (wRet (wTup (wCons (wC (.str "bad")) (wCons (wOp rdAdd (wVar 1) (wC (.int 1))) wNil)))) wNext)
  (wSeq (wSet 4 (wOp rdIx (wOp rdIx (wVar 0) (wOp rdAdd (wVar 1) (wC (.int 1)))) (wC (.int 2))))
  (wSet 1 (wOp rdAdd (wVar 1) (wC (.int 2))))))) wNext)
  (wSeq (wSet 5 (wCall0 sp_l_arguments_at (wCons (wVar 0) (wCons (wVar 1) wNil))))
  (wSeq (wIf (wB (wOp rdEq (wOp rdIx (wVar 5) (wC (.int 0))) (wC (.str "bad")))) (wRet (wVar 5)) wNext)
  (wSeq (wSet 6 (wCall0 sp_l_conditions_at (wCons (wVar 0) (wCons (wOp rdIx (wVar 5) (wC (.int 2))) wNil))))
  (wSeq (wIf (wB (wOp rdEq (wOp rdIx (wVar 6) (wC (.int 0))) (wC (.str "bad")))) (wRet (wVar 6)) wNext)
  (wSeq (wSet 7 (wTup (wCons (wC (.str "ok")) (wCons (wC .non) (wCons (wOp rdIx (wVar 6) (wC (.int 2))) wNil)))))
  (wSeq (wIf (wB (wCall0 sp_l_is (wCons (wVar 0) (wCons (wOp rdIx (wVar 6) (wC (.int 2))) (wCons (wC (.str "sign")) (wCons (wC (.str "{")) wNil)))))) (wSeq (wSet 7 (wCall0 (sp_l_selection_at m) (wCons (wVar 0) (wCons (wOp rdIx (wVar 6) (wC (.int 2))) (wCons (wOp rdAdd (wVar 2) (wC (.int 1))) wNil)))))
  (wIf (wB (wOp rdEq (wOp rdIx (wVar 7) (wC (.int 0))) (wC (.str "bad")))) (wRet (wVar 7)) wNext)) wNext)
  (wRet (wTup (wCons (wC (.str "ok")) (wCons (wTup (wCons (wC (.str "field")) (wCons (wVar 3) (wCons (wVar 4) (wCons (wOp rdIx (wVar 5) (wC (.int 1))) (wCons (wOp rdIx (wVar 6) (wC (.int 1))) (wCons (wOp rdIx (wVar 7) (wC (.int 1))) wNil))))))) (wCons (wOp rdIx (wVar 7) (wC (.int 2))) wNil))))))))))))))))
def W_l_spread_at (m : Nat) : WS :=
  (wSeq (wSet 3 (wC .non))
  (wSeq (wIf (wB (wCall0 sp_l_is (wCons (wVar 0) (wCons (wVar 1) (wCons (wC (.str "name")) (wCons (wC (.str "on")) wNil)))))) (wSeq (wIf (wNotT (wB (wCall0 sp_l_plain_at (wCons (wVar 0) (wCons (wOp rdAdd (wVar 1) (wC (.int 1))) wNil))))) (wRet (wTup (wCons (wC (.str "bad")) (wCons (wOp rdAdd (wVar 1) (wC (.int 1))) wNil)))) wNext)
  (wSeq (wSet 3 (wOp rdIx (wOp rdIx (wVar 0) (wOp rdAdd (wVar 1) (wC (.int 1)))) (wC (.int 2))))
  (wSet 1 (wOp rdAdd (wVar 1) (wC (.int 2)))))) (wIf (wB (wCall0 sp_l_kind_at (wCons (wVar 0) (wCons (wVar 1) (wCons (wC (.str "name")) wNil))))) (wSeq (wIf (wNotT (wB (wCall0 sp_l_plain_at (wCons (wVar 0) (wCons (wVar 1) wNil))))) (wRet (wTup (wCons (wC (.str "bad")) (wCons (wVar 1) wNil)))) wNext)
  (wSeq (wSet 4 (wCall0 sp_l_conditions_at (wCons (wVar 0) (wCons (wOp rdAdd (wVar 1) (wC (.int 1))) wNil))))
  (wSeq (wIf (wB (wOp rdEq (wOp rdIx (wVar 4) (wC (.int 0))) (wC (.str "bad")))) (wRet (wVar 4)) wNext)
  (wRet (wTup (wCons (wC (.str "ok")) (wCons (wTup (wCons (wC (.str "spread")) (wCons (wOp rdIx (wOp rdIx (wVar 0) (wVar 1)) (wC (.int 2))) (wCons (wOp rdIx (wVar 4) (wC (.int 1))) wNil)))) (wCons (wOp rdIx (wVar 4) (wC (.int 2))) wNil)))))))) wNext))
  (wSeq (wSet 4 (wCall0 sp_l_conditions_at (wCons (wVar 0) (wCons (wVar 1) wNil))))
  (wSeq (wIf (wB (wOp rdEq (wOp rdIx (wVar 4) (wC (.int 0))) (wC (.str "bad")))) (wRet (wVar 4)) wNext)
  (wSeq (wSet 5 (wCall0 (sp_l_selection_at m) (wCons (wVar 0) (wCons (wOp rdIx (wVar 4) (wC (.int 2))) (wCons (wOp rdAdd (wVar 2) (wC (.int 1))) wNil)))))
  (wSeq (wIf (wB (wOp rdEq (wOp rdIx (wVar 5) (wC (.int 0))) (wC (.str "bad")))) (wRet (wVar 5)) wNext)
  (wRet (wTup (wCons (wC (.str "ok")) (wCons (wTup (wCons (wC (.str "on")) (wCons (wVar 3) (wCons (wOp rdIx (wVar 4) (wC (.int 1))) (wCons (wOp rdIx (wVar 5) (wC (.int 1))) wNil))))) (wCons (wOp rdIx (wVar 5) (wC (.int 2))) wNil)))))))))))
def W_l_selection_at_b1 (m : Nat) : WS :=
  (wSeq (wIf (wAndT (wTruO 3) (wB (wCall0 sp_l_is (wCons (wVar 0) (wCons (wVar 1) (wCons (wC (.str "sign")) (wCons (wC (.str "}")) wNil))))))) (wFrzL 3 (wRet (wTup (wCons (wC (.str "ok")) (wCons (wCB rdCtuple (wCons (wVar 3) wNil)) (wCons (wOp rdAdd (wVar 1) (wC (.int 1))) wNil)))))) wNext)
  (wSeq (wIf (wB (wCall0 sp_l_is (wCons (wVar 0) (wCons (wVar 1) (wCons (wC (.str "sign")) (wCons (wC (.str "...")) wNil)))))) (wSet 5 (wCall0 (sp_l_spread_at m) (wCons (wVar 0) (wCons (wOp rdAdd (wVar 1) (wC (.int 1))) (wCons (wVar 2) wNil))))) (wSet 5 (wCall0 (sp_l_field_at m) (wCons (wVar 0) (wCons (wVar 1) (wCons (wVar 2) wNil))))))
  (wSeq (wIf (wB (wOp rdEq (wOp rdIx (wVar 5) (wC (.int 0))) (wC (.str "bad")))) (wRet (wVar 5)) wNext)
  (wSeq (wApp 3 (wOp rdIx (wVar 5) (wC (.int 1))))
  (wSet 1 (wOp rdIx (wVar 5) (wC (.int 2))))))))
def W_l_selection_at (m : Nat) : WS :=
  (wSeq (wIf (wOrT (wNotT (wB (wCall0 sp_l_is (wCons (wVar 0) (wCons (wVar 1) (wCons (wC (.str "sign")) (wCons (wC (.str "{")) wNil))))))) (wB (wOp rdGt (wVar 2) (wC (.int 10))))) (wRet (wTup (wCons (wC (.str "bad")) (wCons (wVar 1) wNil)))) wNext)
  (wSeq (wSet 1 (wOp rdAdd (wVar 1) (wC (.int 1))))
  (wSeq (wNewL 3)
  (wSeq (wFor (wiR (wCB rdLen (wCons (wVar 0) wNil))) (wgName 4) (W_l_selection_at_b1 m))
  (wRet (wTup (wCons (wC (.str "bad")) (wCons (wVar 1) wNil))))))))
def W_l_fragment_at : WS :=
  (wSeq (wIf (wOrT (wNotT (wB (wCall0 sp_l_is (wCons (wVar 0) (wCons (wVar 1) (wCons (wC (.str "name")) (wCons (wC (.str "fragment")) wNil))))))) (wB (wOp rdEq (wVar 2) (wC (.int 10))))) (wRet (wTup (wCons (wC (.str "bad")) (wCons (wVar 1) wNil)))) wNext)
  (wSeq (wIf (wOrT (wNotT (wB (wCall0 sp_l_plain_at (wCons (wVar 0) (wCons (wOp rdAdd (wVar 1) (wC (.int 1))) wNil))))) (wB (wOp rdEq (wOp rdIx (wOp rdIx (wVar 0) (wOp rdAdd (wVar 1) (wC (.int 1)))) (wC (.int 2))) (wC (.str "on"))))) (wRet (wTup (wCons (wC (.str "bad")) (wCons (wOp rdAdd (wVar 1) (wC (.int 1))) wNil)))) wNext)
  (wSeq (wIf (wNotT (wB (wCall0 sp_l_is (wCons (wVar 0) (wCons (wOp rdAdd (wVar 1) (wC (.int 2))) (wCons (wC (.str "name")) (wCons (wC (.str "on")) wNil))))))) (wRet (wTup (wCons (wC (.str "bad")) (wCons (wOp rdAdd (wVar 1) (wC (.int 2))) wNil)))) wNext)
  (wSeq (wIf (wNotT (wB (wCall0 sp_l_plain_at (wCons (wVar 0) (wCons (wOp rdAdd (wVar 1) (wC (.int 3))) wNil))))) (wRet (wTup (wCons (wC (.str "bad")) (wCons (wOp rdAdd (wVar 1) (wC (.int 3))) wNil)))) wNext)
  (wSeq (wSet 3 (wCall0 (sp_l_selection_at 10) (wCons (wVar 0) (wCons (wOp rdAdd (wVar 1) (wC (.int 4))) (wCons (wC (.int 1)) wNil)))))
  (wSeq (wIf (wB (wOp rdEq (wOp rdIx (wVar 3) (wC (.int 0))) (wC (.str "bad")))) (wRet (wVar 3)) wNext)
  (wRet (wTup (wCons (wC (.str "ok")) (wCons (wTup (wCons (wOp rdIx (wOp rdIx (wVar 0) (wOp rdAdd (wVar 1) (wC (.int 1)))) (wC (.int 2))) (wCons (wOp rdIx (wOp rdIx (wVar 0) (wOp rdAdd (wVar 1) (wC (.int 3)))) (wC (.int 2))) (wCons (wOp rdIx (wVar 3) (wC (.int 1))) wNil)))) (wCons (wOp rdIx (wVar 3) (wC (.int 2))) wNil)))))))))))
def W_l_document_at_b1 : WS :=
  (wIf (wB (wOp rdLt (wVar 4) (wCB rdLen (wCons (wVar 0) wNil)))) (wSeq (wSet 6 (wCall0 sp_l_fragment_at (wCons (wVar 0) (wCons (wVar 4) (wCons (wLenO 3) wNil)))))
  (wSeq (wIf (wB (wOp rdEq (wOp rdIx (wVar 6) (wC (.int 0))) (wC (.str "bad")))) (wRet (wVar 6)) wNext)
  (wSeq (wApp 3 (wOp rdIx (wVar 6) (wC (.int 1))))
  (wSet 4 (wOp rdIx (wVar 6) (wC (.int 2))))))) wNext)
def W_l_document_at : WS :=
  (wSeq (wIf (wNotT (wB (wCall0 sp_l_is (wCons (wVar 0) (wCons (wC (.int 0)) (wCons (wC (.str "name")) (wCons (wC (.str "query")) wNil))))))) (wRet (wTup (wCons (wC (.str "bad")) (wCons (wC (.int 0)) wNil)))) wNext)
  (wSeq (wSet 1 (wCall0 sp_l_declared (wCons (wVar 0) (wCons (wC (.int 1)) wNil))))
  (wSeq (wIf (wB (wOp rdEq (wOp rdIx (wVar 1) (wC (.int 0))) (wC (.str "bad")))) (wRet (wVar 1)) wNext)
  (wSeq (wSet 2 (wCall0 (sp_l_selection_at 10) (wCons (wVar 0) (wCons (wOp rdIx (wVar 1) (wC (.int 2))) (wCons (wC (.int 1)) wNil)))))
  (wSeq (wIf (wB (wOp rdEq (wOp rdIx (wVar 2) (wC (.int 0))) (wC (.str "bad")))) (wRet (wVar 2)) wNext)
  (wSeq (wNewL 3)
  (wSeq (wSet 4 (wOp rdIx (wVar 2) (wC (.int 2))))
  (wSeq (wFor (wiR (wCB rdLen (wCons (wVar 0) wNil))) (wgName 5)
  W_l_document_at_b1)
  (wFrzL 3 (wRet (wTup (wCons (wC (.str "ok")) (wCons (wTup (wCons (wOp rdIx (wVar 1) (wC (.int 1))) (wCons (wOp rdIx (wVar 2) (wC (.int 1))) (wCons (wCB rdCtuple (wCons (wVar 3) wNil)) wNil)))) (wCons (wVar 4) wNil))))))))))))))
def W_l_expected_s6 : WS :=
  (wRet (wTup (wCons (wC (.str "fault")) (wCons (wVar 3) wNil))))
def W_l_expected_s5 : WS :=
  (wSeq (wIf (wB (wOp rdLt (wOp rdIx (wVar 2) (wC (.int 1))) (wCB rdLen (wCons (wOp rdIx (wVar 1) (wC (.int 1))) wNil)))) (wSet 3 (wOp rdIx (wOp rdIx (wOp rdIx (wVar 1) (wC (.int 1))) (wOp rdIx (wVar 2) (wC (.int 1)))) (wC (.int 0)))) wNext)
  W_l_expected_s6)
def W_l_expected_s4 : WS :=
  (wSeq (wSet 3 (wCB rdLen (wCons (wVar 0) wNil)))
  W_l_expected_s5)
def W_l_expected_s3 : WS :=
  (wSeq (wIf (wB (wOp rdEq (wOp rdIx (wVar 2) (wC (.int 0))) (wC (.str "ok")))) (wRet (wTup (wCons (wC (.str "document")) (wCons (wOp rdIx (wVar 2) (wC (.int 1))) wNil)))) wNext)
  W_l_expected_s4)
def W_l_expected_s2 : WS :=
  (wSeq (wSet 2 (wCall0 sp_l_document_at (wCons (wOp rdIx (wVar 1) (wC (.int 1))) wNil)))
  W_l_expected_s3)
def W_l_expected_s1 : WS :=
  (wSeq (wIf (wB (wOp rdEq (wOp rdIx (wVar 1) (wC (.int 0))) (wC (.str "fault")))) (wRet (wVar 1)) wNext)
  W_l_expected_s2)
def W_l_expected : WS :=
  (wSeq (wSet 1 (wCall0 sp_l_split (wCons (wVar 0) wNil)))
  W_l_expected_s1)
def W_l_start : WS :=
  (wSeq (wSet 2 (wLst (wCons (wC (.str "query")) (wCons (wC (.str "{")) (wCons (wC (.str "a")) (wCons (wC (.str ":")) (wCons (wC (.str "b")) (wCons (wC (.str "(")) (wCons (wC (.str "n")) (wCons (wC (.str ":")) (wCons (wC (.str "$v")) (wCons (wC (.str "t")) (wCons (wC (.str ":")) (wCons (wC (.str "true")) (wCons (wC (.str ")")) (wCons (wC (.str "@")) (wCons (wC (.str "if")) (wCons (wC (.str "(")) (wCons (wC (.str "$w")) (wCons (wC (.str ")")) (wCons (wC (.str "{")) (wCons (wC (.str "c")) (wCons (wC (.str "}")) (wCons (wC (.str "...")) (wCons (wC (.str "on")) (wCons (wC (.str "A")) (wCons (wC (.str "{")) (wCons (wC (.str "d")) (wCons (wC (.str "_type")) (wCons (wC (.str "}")) (wCons (wC (.str "...")) (wCons (wC (.str "F")) (wCons (wC (.str "@")) (wCons (wC (.str "unless")) (wCons (wC (.str "(")) (wCons (wC (.str "false")) (wCons (wC (.str ")")) (wCons (wC (.str "...")) (wCons (wC (.str "{")) (wCons (wC (.str "e")) (wCons (wC (.str "}")) (wCons (wC (.str "}")) (wCons (wC (.str "fragment")) (wCons (wC (.str "F")) (wCons (wC (.str "on")) (wCons (wC (.str "A")) (wCons (wC (.str "{")) (wCons (wC (.str "g")) (wCons (wC (.str "}")) wNil)))))))))))))))))))))))))))))))))))))))))))))))))
  (wSeq (wSet 3 (wCall0 sp_l_draw (wCons (wVar 0) (wCons (wVar 1) (wCons (wC (.int 4)) wNil)))))
  (wSeq (wIf (wB (wOp rdEq (wVar 3) (wC (.int 1)))) (wRet (wOp rdAdd (wLst (wCons (wC (.str "query")) (wCons (wC (.str "(")) (wCons (wC (.str "$v")) (wCons (wC (.str ":")) (wCons (wC (.str "Int")) (wCons (wC (.str "!")) (wCons (wC (.str "=")) (wCons (wC (.str "7")) (wCons (wC (.str "$w")) (wCons (wC (.str ":")) (wCons (wC (.str "[")) (wCons (wC (.str "[")) (wCons (wC (.str "A")) (wCons (wC (.str "!")) (wCons (wC (.str "]")) (wCons (wC (.str "]")) (wCons (wC (.str ")")) wNil)))))))))))))))))) (wSl rdSl (wVar 2) (wPart (wC (.int 1))) wNo))) wNext)
  (wSeq (wIf (wB (wOp rdEq (wVar 3) (wC (.int 2)))) (wSeq (wSet 4 (wOp rdAdd (wC (.int 8)) (wCall0 sp_l_draw (wCons (wVar 0) (wCons (wVar 1) (wCons (wC (.int 6)) wNil))))))
  (wRet (wOp rdAdd (wOp rdAdd (wLst (wCons (wC (.str "query")) wNil)) (wOp rdRepL (wLst (wCons (wC (.str "{")) (wCons (wC (.str "a")) wNil))) (wVar 4))) (wOp rdRepL (wLst (wCons (wC (.str "}")) wNil)) (wVar 4))))) wNext)
  (wSeq (wIf (wB (wOp rdEq (wVar 3) (wC (.int 3)))) (wRet (wOp rdAdd (wVar 2) (wOp rdRepL (wLst (wCons (wC (.str "fragment")) (wCons (wC (.str "G")) (wCons (wC (.str "on")) (wCons (wC (.str "B")) (wCons (wC (.str "{")) (wCons (wC (.str "a")) (wCons (wC (.str "}")) wNil)))))))) (wOp rdAdd (wC (.int 7)) (wCall0 sp_l_draw (wCons (wVar 0) (wCons (wVar 1) (wCons (wC (.int 5)) wNil)))))))) wNext)
  (wRet (wVar 2)))))))
def W7_law_b1 : WS :=
  (wSeq (wSet 5 (wCall0 sp_l_draw (wCons (wVar 1) (wCons (wVar 0) (wCons (wCB rdLen (wCons (wVar 2) wNil)) wNil)))))
  (wSeq (wSet 6 (wCall0 sp_l_draw (wCons (wVar 1) (wCons (wVar 0) (wCons (wC (.int 4)) wNil)))))
  (wSeq (wSet 7 (wOp rdIx (wVar 3) (wCall0 sp_l_draw (wCons (wVar 1) (wCons (wVar 0) (wCons (wC (.int 24)) wNil))))))
  (wIf (wAndT (wB (wOp rdEq (wVar 6) (wC (.int 0)))) (wB (wOp rdGt (wCB rdLen (wCons (wVar 2) wNil)) (wC (.int 1))))) (wSet 2 (wOp rdAdd (wSl rdSl (wVar 2) wNo (wPart (wVar 5))) (wSl rdSl (wVar 2) (wPart (wOp rdAdd (wVar 5) (wC (.int 1)))) wNo))) (wIf (wB (wOp rdEq (wVar 6) (wC (.int 1)))) (wSet 2 (wOp rdAdd (wOp rdAdd (wSl rdSl (wVar 2) wNo (wPart (wVar 5))) (wLst (wCons (wVar 7) wNil))) (wSl rdSl (wVar 2) (wPart (wVar 5)) wNo))) (wIf (wB (wOp rdEq (wVar 6) (wC (.int 2)))) (wSet 2 (wOp rdAdd (wOp rdAdd (wSl rdSl (wVar 2) wNo (wPart (wVar 5))) (wLst (wCons (wVar 7) wNil))) (wSl rdSl (wVar 2) (wPart (wOp rdAdd (wVar 5) (wC (.int 1)))) wNo))) (wSet 2 (wSl rdSl (wVar 2) wNo (wPart (wOp rdAdd (wVar 5) (wC (.int 1))))))))))))
def W7_law_s4 : WS :=
  (wRet (wOp rdEq (wCall0 sp7_l_told (wCons (wVar 8) wNil)) (wCall0 sp_l_expected (wCons (wVar 8) wNil))))
def W7_law_s3 : WS :=
  (wSeq (wSet 8 (wOp rdAdd (wM1 rdJoin (wC (.str " ")) (wVar 2)) (wOp rdIx (wLst (wCons (wC (.str "")) (wCons (wC (.str " ")) (wCons (wC (.str "\n")) wNil)))) (wCall0 sp_l_draw (wCons (wVar 1) (wCons (wVar 0) (wCons (wC (.int 3)) wNil)))))))
  W7_law_s4)
def W7_law_s2 : WS :=
  (wSeq (wFor (wiR (wCall0 sp_l_draw (wCons (wVar 1) (wCons (wVar 0) (wCons (wC (.int 4)) wNil))))) (wgName 4)
  W7_law_b1)
  W7_law_s3)
def W7_law_s1 : WS :=
  (wSeq (wSet 3 (wLst (wCons (wC (.str "{")) (wCons (wC (.str "}")) (wCons (wC (.str "(")) (wCons (wC (.str ")")) (wCons (wC (.str ":")) (wCons (wC (.str "=")) (wCons (wC (.str "!")) (wCons (wC (.str "[")) (wCons (wC (.str "]")) (wCons (wC (.str "@")) (wCons (wC (.str "...")) (wCons (wC (.str "a")) (wCons (wC (.str "on")) (wCons (wC (.str "if")) (wCons (wC (.str "true")) (wCons (wC (.str "null")) (wCons (wC (.str "$v")) (wCons (wC (.str "7")) (wCons (wC (.str "\"x\"")) (wCons (wC (.str "_type")) (wCons (wC (.str "query")) (wCons (wC (.str "fragment")) (wCons (wC (.str "[[[[[[")) (wCons (wC (.str ".")) wNil))))))))))))))))))))))))))
  W7_law_s2)
def W7_law : WS :=
  (wSeq (wSet 2 (wCall0 sp_l_start (wCons (wVar 1) (wCons (wVar 0) wNil))))
  W7_law_s1)
end K5
set_option Elab.async false
set_option linter.all false
set_option maxRecDepth 100000
set_option maxHeartbeats 4000000
namespace K5
open PySem L2 Dl
local macro_rules | `(tactic| walk_at "dx") => `(tactic| simp only [wSB, wSB1, wVar, wC, wOp, wB, wNotT, wAndT, wOrT, wAndV, wOrV, wNotV, wIfE, wChain, wNil, wCons, wTup, wLst, wNext, wSeq, wSet, wAsg, wDrop, wRet, wRetN, wBrk, wCont, wIf, wiL, wiT, wiR, wFor, wCall0, wCall, wCB, wM0, wM1, wNo, wPart, wSl, wYes, wLc, wipeD, wNeg, wTru, wFmt, wJoined, wJs, wRaise1, wStw, wiS, wAug, wiR2, wSt3, wFind, wApp, wNewL, wFrzL, Sl.OL, wRaiseF, rdCints, rdRep, wPE, wPT, wPS, wSeqX, wNextX, wSetX, wAsgX, wDropX, wRetX, wIfX, wBX, wNotX, wAndX, wOrX, wConsX, wNilX, wTupX, wOpX, wCallX, wRat, wRws, wRinc, wNewL1, wAppX, wFrzX, EndsX.at, rdCtuple, rdInT, rdTabIn, rdTab, wTruO, wLenO, rdSlT, rdRepL, wNameEnd, wgName, wgNil, wgCons, wgTup,
  Sl.V, D.I, D.B, D.S, D.L, D.T, D.K, D.len, D.tru, rdI, rdI0, rdLt, rdLe, rdGt, rdGe, rdEq, rdNe, eqS, rdIsN, rdNotN, rdAdd, rdIx, rdSl, rdInS, rdLen, rdOrd, rdAll, rdAny, rdIsi, rdFmt, rdJoin, rdCint, tyN, ρ0, List.map_cons, List.map_nil, List.length_cons, List.length_nil, List.replicate, List.append, List.cons_append, List.nil_append, List.getElem?_cons_zero, List.getElem?_cons_succ, List.set_cons_zero, List.set_cons_succ, Nat.add_sub_cancel, Nat.sub_self, Nat.zero_add, Nat.reduceAdd, Nat.reduceSub, if_true, if_false, true_and, and_true, decide_true, decide_false, true_or, or_true, ia_NoneType_bool, ia_NoneType_int, ia_NoneType_str, ia_NoneType_list, ia_NoneType_tuple, ia_NoneType_dict, ia_bool_bool, ia_bool_int, ia_bool_str, ia_bool_list, ia_bool_tuple, ia_bool_dict, ia_int_bool, ia_int_int, ia_int_str, ia_int_list, ia_int_tuple, ia_int_dict, ia_str_bool, ia_str_int, ia_str_str, ia_str_list, ia_str_tuple, ia_str_dict, ia_list_bool, ia_list_int, ia_list_str, ia_list_list, ia_list_tuple, ia_list_dict, ia_tuple_bool, ia_tuple_int, ia_tuple_str, ia_tuple_list, ia_tuple_tuple, ia_tuple_dict, ia_dict_bool, ia_dict_int, ia_dict_str, ia_dict_list, ia_dict_tuple, ia_dict_dict, inT_bool, inT_int, inT_str, inT_list, inT_tuple, inT_dict, Bool.false_xor, Bool.true_xor, Bool.not_eq_true, Bool.not_true, Bool.not_false, Bool.false_eq_true, ite_false, ite_true, reduceCtorEq])
local macro_rules | `(tactic| walk_at "dy") => `(tactic| simp only [wSB, wSB1, wVar, wC, wOp, wB, wNotT, wAndT, wOrT, wAndV, wOrV, wNotV, wIfE, wChain, wNil, wCons, wTup, wLst, wNext, wSeq, wSet, wAsg, wDrop, wRet, wRetN, wBrk, wCont, wIf, wiL, wiT, wiR, wFor, wCall0, wCall, wCB, wM0, wM1, wNo, wPart, wSl, wYes, wLc, wipeD, wNeg, wTru, wFmt, wJoined, wJs, wRaise1, wStw, wiS, wAug, wiR2, wSt3, wFind, wApp, wNewL, wFrzL, Sl.OL, wRaiseF, rdCints, rdRep, wPE, wPT, wPS, wSeqX, wNextX, wSetX, wAsgX, wDropX, wRetX, wIfX, wBX, wNotX, wAndX, wOrX, wConsX, wNilX, wTupX, wOpX, wCallX, wRat, wRws, wRinc, wNewL1, wAppX, wFrzX, EndsX.at, rdCtuple, rdInT, rdTabIn, rdTab, wTruO, wLenO, rdSlT, rdRepL, wNameEnd, wgName, wgNil, wgCons, wgTup,
  Sl.V, D.I, D.B, D.S, D.L, D.T, D.K, D.len, D.tru, rdI, rdI0, rdLt, rdLe, rdGt, rdGe, rdIsN, rdNotN, rdAdd, rdIx, rdSl, rdInS, rdLen, rdOrd, rdAll, rdAny, rdIsi, rdFmt, rdJoin, rdCint, tyN, ρ0, List.map_cons, List.map_nil, List.length_cons, List.length_nil, List.replicate, List.append, List.cons_append, List.nil_append, List.getElem?_cons_zero, List.getElem?_cons_succ, List.set_cons_zero, List.set_cons_succ, Nat.add_sub_cancel, Nat.sub_self, Nat.zero_add, Nat.reduceAdd, Nat.reduceSub, if_true, if_false, true_and, and_true, decide_true, decide_false, true_or, or_true, ia_NoneType_bool, ia_NoneType_int, ia_NoneType_str, ia_NoneType_list, ia_NoneType_tuple, ia_NoneType_dict, ia_bool_bool, ia_bool_int, ia_bool_str, ia_bool_list, ia_bool_tuple, ia_bool_dict, ia_int_bool, ia_int_int, ia_int_str, ia_int_list, ia_int_tuple, ia_int_dict, ia_str_bool, ia_str_int, ia_str_str, ia_str_list, ia_str_tuple, ia_str_dict, ia_list_bool, ia_list_int, ia_list_str, ia_list_list, ia_list_tuple, ia_list_dict, ia_tuple_bool, ia_tuple_int, ia_tuple_str, ia_tuple_list, ia_tuple_tuple, ia_tuple_dict, ia_dict_bool, ia_dict_int, ia_dict_str, ia_dict_list, ia_dict_tuple, ia_dict_dict, inT_bool, inT_int, inT_str, inT_list, inT_tuple, inT_dict, Bool.false_xor, Bool.true_xor, Bool.not_eq_true, Bool.not_true, Bool.not_false, Bool.false_eq_true, ite_false, ite_true, reduceCtorEq])
abbrev eX (Q : D → Nat → Prop) : EndsX := { nx := fun _ n => Q .non n, rt := Q }
theorem atF (wl : List W3) (e : Int) {n : Nat} (h : n ≤ wl.length) : atI (full wl e) (n : Int) = some (.tup [.int (pl wl e n), .str (kd wl n), wd wl n]) := atI_nat (full_at wl e h)
theorem len_R_ahead {ws ds : List D} {n : Nat} {Q : D → Nat → Prop} {E : Exn → Prop} (h : sp_R_ahead ws ds n Q E) : ds.length + 1 = (["self"] : List Str).length := by
  obtain ⟨wl, e, _, _, _, rfl, _⟩ := h
  rfl
theorem hw_R_ahead : ∀ x ws ds n Q E, sp_R_ahead ws ds n Q E → W_R_ahead x ws E (eX Q) (ρ0 (["self", "_", "kind", "word"] : List Str).length (.rf x :: ds)) n := by
  rintro x ws ds n Q E ⟨wl, e, rfl, G, hn, rfl, h⟩
  unfold W_R_ahead
  walk_at "dx"
  rw [atF wl e hn]
  walk_at "dx"
  exact ⟨by decide, h⟩
theorem len_R_refuse {ws ds : List D} {n : Nat} {Q : D → Nat → Prop} {E : Exn → Prop} (h : sp_R_refuse ws ds n Q E) : ds.length + 1 = (["self"] : List Str).length := by
  obtain ⟨wl, e, _, _, _, rfl, _⟩ := h
  rfl
theorem goodF_int {i : Int} (h0 : 0 ≤ i) (h : i ≤ 1000) : goodD (goodF "the document does not fit at place ") (.int i) := by
  obtain ⟨j, rfl⟩ : ∃ j : Nat, i = (j : Int) := ⟨i.toNat, by omega⟩
  exact goodF_nat (by omega)
theorem hw_R_refuse : ∀ x ws ds n Q E, sp_R_refuse ws ds n Q E → W_R_refuse x ws E (eX Q) (ρ0 (["self", "place", "_"] : List Str).length (.rf x :: ds)) n := by
  rintro x ws ds n Q E ⟨wl, e, rfl, G, hn, rfl, h⟩
  unfold W_R_refuse
  walk_at "dx"
  rw [atF wl e hn]
  walk_at "dx"
  obtain ⟨h1, h2⟩ := pl_bd G n
  exact ⟨goodF_int h1 h2, h⟩
theorem len_R_take {ws ds : List D} {n : Nat} {Q : D → Nat → Prop} {E : Exn → Prop} (h : sp_R_take ws ds n Q E) : ds.length + 1 = (["self"] : List Str).length := by
  obtain ⟨wl, e, _, _, _, rfl, _⟩ := h
  rfl
theorem hw_R_take : ∀ x ws ds n Q E, sp_R_take ws ds n Q E → W_R_take x ws E (eX Q) (ρ0 (["self", "_", "word"] : List Str).length (.rf x :: ds)) n := by
  rintro x ws ds n Q E ⟨wl, e, rfl, G, hn, rfl, hl, h⟩
  unfold W_R_take
  walk_at "dx"
  refine ⟨wl, e, rfl, G, hn, rfl, ?_⟩
  walk_at "dx"
  exact h
theorem len_R_sees {ws ds : List D} {n : Nat} {Q : D → Nat → Prop} {E : Exn → Prop} (h : sp_R_sees ws ds n Q E) : ds.length + 1 = (["self", "kind", "word"] : List Str).length := by
  obtain ⟨wl, e, _, _, _, k, w, rfl, _⟩ := h
  rfl
theorem hw_R_sees : ∀ x ws ds n Q E, sp_R_sees ws ds n Q E → W_R_sees x ws E (eX Q) (ρ0 (["self", "kind", "word"] : List Str).length (.rf x :: ds)) n := by
  rintro x ws ds n Q E ⟨wl, e, rfl, G, hn, k, w, rfl, hk, hw, h⟩
  unfold W_R_sees
  walk_at "dy"
  refine ⟨wl, e, rfl, G, hn, rfl, ?_⟩
  walk_at "dy"
  refine ⟨by decide, ?_⟩
  unfold rdEq
  show ((D.tup [D.str (kd wl n), wd wl n]).ok ∧ (D.tup [D.str k, D.str w]).ok) ∧ Q (D.bl (deq (.tup [.str (kd wl n), wd wl n]) (.tup [.str k, .str w]))) n
  rw [deq_kw (wd_wordy G n)]
  exact ⟨⟨kw_ok (kd_ok G n) (wd_wordy G n), kw_ok hk (.inr ⟨w, rfl, hw⟩)⟩, h⟩
theorem len_R_accept {ws ds : List D} {n : Nat} {Q : D → Nat → Prop} {E : Exn → Prop} (h : sp_R_accept ws ds n Q E) : ds.length + 1 = (["self", "kind", "word"] : List Str).length := by
  obtain ⟨wl, e, _, _, _, k, w, rfl, _⟩ := h
  rfl
theorem hw_R_accept : ∀ x ws ds n Q E, sp_R_accept ws ds n Q E → W_R_accept x ws E (eX Q) (ρ0 (["self", "kind", "word"] : List Str).length (.rf x :: ds)) n := by
  rintro x ws ds n Q E ⟨wl, e, rfl, G, hn, k, w, rfl, hk, hw, ne, h⟩
  unfold W_R_accept
  walk_at "dx"
  refine ⟨wl, e, rfl, G, hn, k, w, rfl, hk, hw, ?_⟩
  walk_at "dx"
  cases q : see wl n k w with
  | true =>
    rw [if_pos q] at h
    walk_at "dx"
    exact h
  | false =>
    rw [if_neg (by rw [q]; exact Bool.false_ne_true)] at h
    walk_at "dx"
    exact h
theorem len_R_expect {ws ds : List D} {n : Nat} {Q : D → Nat → Prop} {E : Exn → Prop} (h : sp_R_expect ws ds n Q E) : ds.length + 1 = (["self", "kind", "word"] : List Str).length := by
  obtain ⟨wl, e, _, _, _, k, w, rfl, _⟩ := h
  rfl
theorem hw_R_expect : ∀ x ws ds n Q E, sp_R_expect ws ds n Q E → W_R_expect x ws E (eX Q) (ρ0 (["self", "kind", "word"] : List Str).length (.rf x :: ds)) n := by
  rintro x ws ds n Q E ⟨wl, e, rfl, G, hn, k, w, rfl, hk, hw, ne, h⟩
  unfold W_R_expect
  walk_at "dx"
  refine ⟨wl, e, rfl, G, hn, k, w, rfl, hk, hw, ne, ?_⟩
  cases q : see wl n k w with
  | true =>
    rw [if_pos q] at h
    rw [if_pos rfl]
    walk_at "dx"
    exact h
  | false =>
    rw [if_neg (by rw [q]; exact Bool.false_ne_true)] at h
    rw [if_neg Bool.false_ne_true]
    walk_at "dx"
    exact ⟨wl, e, rfl, G, hn, rfl, h⟩
theorem len_R_expect_kind {ws ds : List D} {n : Nat} {Q : D → Nat → Prop} {E : Exn → Prop} (h : sp_R_expect_kind ws ds n Q E) : ds.length + 1 = (["self", "kind"] : List Str).length := by
  obtain ⟨wl, e, _, _, _, k, rfl, _⟩ := h
  rfl
theorem hw_R_expect_kind : ∀ x ws ds n Q E, sp_R_expect_kind ws ds n Q E → W_R_expect_kind x ws E (eX Q) (ρ0 (["self", "kind", "found", "_"] : List Str).length (.rf x :: ds)) n := by
  rintro x ws ds n Q E ⟨wl, e, rfl, G, hn, k, rfl, ne, h⟩
  unfold W_R_expect_kind
  walk_at "dx"
  refine ⟨wl, e, rfl, G, hn, rfl, ?_⟩
  walk_at "dx"
  by_cases q : kd wl n = k
  · rw [if_pos q] at h
    rw [decide_eq_true q]
    walk_at "dx"
    exact ⟨wl, e, rfl, G, hn, rfl, kd_lt q ne, h⟩
  · rw [if_neg q] at h
    rw [decide_eq_false q]
    walk_at "dx"
    exact ⟨wl, e, rfl, G, hn, rfl, h⟩
theorem len_R_expect_name {ws ds : List D} {n : Nat} {Q : D → Nat → Prop} {E : Exn → Prop} (h : sp_R_expect_name ws ds n Q E) : ds.length + 1 = (["self"] : List Str).length := by
  obtain ⟨wl, e, _, _, _, rfl, _⟩ := h
  rfl
theorem plain_see (wl : List W3) (n : Nat) : plainAt wl n = (decide (kd wl n = "name") && !see wl n "name" "_type") := by
  unfold plainAt see
  cases decide (kd wl n = "name") <;> rfl
theorem hw_R_expect_name : ∀ x ws ds n Q E, sp_R_expect_name ws ds n Q E → W_R_expect_name x ws E (eX Q) (ρ0 (["self"] : List Str).length (.rf x :: ds)) n := by
  rintro x ws ds n Q E ⟨wl, e, rfl, G, hn, rfl, h⟩
  unfold W_R_expect_name
  walk_at "dx"
  refine ⟨wl, e, rfl, G, hn, _, _, rfl, by decide +kernel, by decide +kernel, ?_⟩
  walk_at "dx"
  rw [plain_see] at h
  cases q : see wl n "name" "_type" with
  | true =>
    rw [q, Bool.not_true, Bool.and_false, if_neg Bool.false_ne_true] at h
    walk_at "dx"
    exact ⟨wl, e, rfl, G, hn, rfl, h⟩
  | false =>
    rw [q, Bool.not_false, Bool.and_true] at h
    walk_at "dx"
    refine ⟨wl, e, rfl, G, hn, _, rfl, by decide, ?_⟩
    by_cases q2 : kd wl n = "name"
    · rw [if_pos q2]
      rw [if_pos (decide_eq_true q2)] at h
      exact h
    · rw [if_neg q2]
      rw [if_neg (by rw [decide_eq_false q2]; exact Bool.false_ne_true)] at h
      exact h
end K5
set_option Elab.async false
set_option linter.all false
set_option maxRecDepth 100000
set_option maxHeartbeats 4000000
namespace K5
open PySem L2 Dl
local macro_rules | `(tactic| walk_at "dx") => `(tactic| simp only [wSB, wSB1, wVar, wC, wOp, wB, wNotT, wAndT, wOrT, wAndV, wOrV, wNotV, wIfE, wChain, wNil, wCons, wTup, wLst, wNext, wSeq, wSet, wAsg, wDrop, wRet, wRetN, wBrk, wCont, wIf, wiL, wiT, wiR, wFor, wCall0, wCall, wCB, wM0, wM1, wNo, wPart, wSl, wYes, wLc, wipeD, wNeg, wTru, wFmt, wJoined, wJs, wRaise1, wStw, wiS, wAug, wiR2, wSt3, wFind, wApp, wNewL, wFrzL, Sl.OL, wRaiseF, rdCints, rdRep, wPE, wPT, wPS, wSeqX, wNextX, wSetX, wAsgX, wDropX, wRetX, wIfX, wBX, wNotX, wAndX, wOrX, wConsX, wNilX, wTupX, wOpX, wCallX, wRat, wRws, wRinc, wNewL1, wAppX, wFrzX, EndsX.at, rdCtuple, rdInT, rdTabIn, rdTab, wTruO, wLenO, rdSlT, rdRepL, wNameEnd, wgName, wgNil, wgCons, wgTup,
  Sl.V, D.I, D.B, D.S, D.L, D.T, D.K, D.len, D.tru, rdI, rdI0, rdLt, rdLe, rdGt, rdGe, rdEq, rdNe, eqS, rdIsN, rdNotN, rdAdd, rdIx, rdSl, rdInS, rdLen, rdOrd, rdAll, rdAny, rdIsi, rdFmt, rdJoin, rdCint, tyN, ρ0, List.map_cons, List.map_nil, List.length_cons, List.length_nil, List.replicate, List.append, List.cons_append, List.nil_append, List.getElem?_cons_zero, List.getElem?_cons_succ, List.set_cons_zero, List.set_cons_succ, Nat.add_sub_cancel, Nat.sub_self, Nat.zero_add, Nat.reduceAdd, Nat.reduceSub, if_true, if_false, true_and, and_true, decide_true, decide_false, true_or, or_true, ia_NoneType_bool, ia_NoneType_int, ia_NoneType_str, ia_NoneType_list, ia_NoneType_tuple, ia_NoneType_dict, ia_bool_bool, ia_bool_int, ia_bool_str, ia_bool_list, ia_bool_tuple, ia_bool_dict, ia_int_bool, ia_int_int, ia_int_str, ia_int_list, ia_int_tuple, ia_int_dict, ia_str_bool, ia_str_int, ia_str_str, ia_str_list, ia_str_tuple, ia_str_dict, ia_list_bool, ia_list_int, ia_list_str, ia_list_list, ia_list_tuple, ia_list_dict, ia_tuple_bool, ia_tuple_int, ia_tuple_str, ia_tuple_list, ia_tuple_tuple, ia_tuple_dict, ia_dict_bool, ia_dict_int, ia_dict_str, ia_dict_list, ia_dict_tuple, ia_dict_dict, inT_bool, inT_int, inT_str, inT_list, inT_tuple, inT_dict, Bool.false_xor, Bool.true_xor, Bool.not_eq_true, Bool.not_true, Bool.not_false, Bool.false_eq_true, ite_false, ite_true, reduceCtorEq])
local macro_rules | `(tactic| walk_at "dy") => `(tactic| simp only [wSB, wSB1, wVar, wC, wOp, wB, wNotT, wAndT, wOrT, wAndV, wOrV, wNotV, wIfE, wChain, wNil, wCons, wTup, wLst, wNext, wSeq, wSet, wAsg, wDrop, wRet, wRetN, wBrk, wCont, wIf, wiL, wiT, wiR, wFor, wCall0, wCall, wCB, wM0, wM1, wNo, wPart, wSl, wYes, wLc, wipeD, wNeg, wTru, wFmt, wJoined, wJs, wRaise1, wStw, wiS, wAug, wiR2, wSt3, wFind, wApp, wNewL, wFrzL, Sl.OL, wRaiseF, rdCints, rdRep, wPE, wPT, wPS, wSeqX, wNextX, wSetX, wAsgX, wDropX, wRetX, wIfX, wBX, wNotX, wAndX, wOrX, wConsX, wNilX, wTupX, wOpX, wCallX, wRat, wRws, wRinc, wNewL1, wAppX, wFrzX, EndsX.at, rdCtuple, rdInT, rdTabIn, rdTab, wTruO, wLenO, rdSlT, rdRepL, wNameEnd, wgName, wgNil, wgCons, wgTup,
  Sl.V, D.I, D.B, D.S, D.L, D.T, D.K, D.len, D.tru, rdI, rdI0, rdLt, rdLe, rdGt, rdGe, rdIsN, rdNotN, rdAdd, rdIx, rdSl, rdInS, rdLen, rdOrd, rdAll, rdAny, rdIsi, rdFmt, rdJoin, rdCint, tyN, ρ0, List.map_cons, List.map_nil, List.length_cons, List.length_nil, List.replicate, List.append, List.cons_append, List.nil_append, List.getElem?_cons_zero, List.getElem?_cons_succ, List.set_cons_zero, List.set_cons_succ, Nat.add_sub_cancel, Nat.sub_self, Nat.zero_add, Nat.reduceAdd, Nat.reduceSub, if_true, if_false, true_and, and_true, decide_true, decide_false, true_or, or_true, ia_NoneType_bool, ia_NoneType_int, ia_NoneType_str, ia_NoneType_list, ia_NoneType_tuple, ia_NoneType_dict, ia_bool_bool, ia_bool_int, ia_bool_str, ia_bool_list, ia_bool_tuple, ia_bool_dict, ia_int_bool, ia_int_int, ia_int_str, ia_int_list, ia_int_tuple, ia_int_dict, ia_str_bool, ia_str_int, ia_str_str, ia_str_list, ia_str_tuple, ia_str_dict, ia_list_bool, ia_list_int, ia_list_str, ia_list_list, ia_list_tuple, ia_list_dict, ia_tuple_bool, ia_tuple_int, ia_tuple_str, ia_tuple_list, ia_tuple_tuple, ia_tuple_dict, ia_dict_bool, ia_dict_int, ia_dict_str, ia_dict_list, ia_dict_tuple, ia_dict_dict, inT_bool, inT_int, inT_str, inT_list, inT_tuple, inT_dict, Bool.false_xor, Bool.true_xor, Bool.not_eq_true, Bool.not_true, Bool.not_false, Bool.false_eq_true, ite_false, ite_true, reduceCtorEq])
theorem strA2 (a b : Str) : D.strA [D.str a, D.str b] = some [a, b] := rfl
theorem spP_len {p : List W3 → Nat → RR} {ws ds : List D} {n : Nat} {Q : D → Nat → Prop} {E : Exn → Prop} (h : spP p ws ds n Q E) : ds.length + 1 = (["reader"] : List Str).length := by
  obtain ⟨wl, e, _, _, _, rfl, _⟩ := h
  rfl
theorem len_read_constant {ws ds : List D} {n : Nat} {Q : D → Nat → Prop} {E : Exn → Prop} (h : sp_read_constant ws ds n Q E) : ds.length + 1 = (["reader"] : List Str).length := spP_len h
theorem hw_read_constant : ∀ tb x ws ds n Q E, sp_read_constant ws ds n Q E → W_read_constant tb x ws E (eX Q) (ρ0 (["reader", "kind", "word"] : List Str).length (.rf x :: ds)) n := by
  rintro tb x ws ds n Q E ⟨wl, e, rfl, G, hn, rfl, h⟩
  unfold W_read_constant
  walk_at "dx"
  refine ⟨wl, e, rfl, G, hn, rfl, ?_⟩
  walk_at "dx"
  rw [strA2]
  walk_at "dx"
  unfold pConst at h
  refine ⟨by decide, ?_⟩
  by_cases q : kd wl n = "number" ∨ kd wl n = "text"
  · rw [if_pos q] at h
    rw [decide_eq_true (by simpa using q)]
    walk_at "dx"
    have hl : n < wl.length := by
      rcases q with q | q
      · exact kd_lt q (by decide)
      · exact kd_lt q (by decide)
    exact ⟨wl, e, rfl, G, hn, rfl, hl, by show 2 ≤ 100000; decide, h⟩
  · rw [if_neg q] at h
    rw [decide_eq_false (by simpa using q)]
    walk_at "dx"
    by_cases q2 : kd wl n = "name"
    · rw [if_pos q2] at h
      rw [decide_eq_true q2]
      walk_at "dx"
      obtain ⟨s, hs⟩ := wd_str G (n := n) (by rw [q2]; decide)
      rw [hs] at h ⊢
      walk_at "dx"
      have hl : look (.str s) = constT.lookup s := rfl
      rw [hl] at h
      cases q3 : constT.lookup s with
      | none =>
        rw [q3] at h
        exact ⟨wl, e, rfl, G, hn, rfl, h⟩
      | some v =>
        rw [q3] at h
        refine ⟨wl, e, rfl, G, hn, rfl, kd_lt q2 (by decide), ?_⟩
        rw [hs]
        walk_at "dx"
        rw [q3]
        exact h
    · rw [if_neg q2] at h
      rw [decide_eq_false q2]
      walk_at "dx"
      exact ⟨wl, e, rfl, G, hn, rfl, h⟩
theorem len_read_value {ws ds : List D} {n : Nat} {Q : D → Nat → Prop} {E : Exn → Prop} (h : sp_read_value ws ds n Q E) : ds.length + 1 = (["reader"] : List Str).length := spP_len h
theorem hw_read_value : ∀ x ws ds n Q E, sp_read_value ws ds n Q E → W_read_value x ws E (eX Q) (ρ0 (["reader", "kind", "_"] : List Str).length (.rf x :: ds)) n := by
  rintro x ws ds n Q E ⟨wl, e, rfl, G, hn, rfl, h⟩
  unfold W_read_value
  walk_at "dx"
  refine ⟨wl, e, rfl, G, hn, rfl, ?_⟩
  walk_at "dx"
  unfold pVal at h
  by_cases q : kd wl n = "variable"
  · rw [if_pos q] at h
    rw [decide_eq_true q]
    walk_at "dx"
    exact ⟨wl, e, rfl, G, hn, rfl, kd_lt q (by decide), by show 2 ≤ 100000; decide, h⟩
  · rw [if_neg q] at h
    rw [decide_eq_false q]
    walk_at "dx"
    exact ⟨wl, e, rfl, G, hn, rfl, h⟩
/-- from the result of a part to the result of the whole -/
theorem outR_bind {wl : List W3} {e : Int} {b lo : Nat} {r : RR} {f : D → Nat → RR} {Q Q' : D → Nat → Prop} {E : Exn → Prop} (F : Fin wl b lo r) (h : outR wl e (r.bind f) Q E) (hf : ∀ d n, Tr b d → lo ≤ n → n ≤ wl.length → outR wl e (f d n) Q E → Q' d n) : outR wl e r Q' E := by
  cases r with
  | ok d n => exact hf d n F.1 F.2.1 F.2.2 h
  | bad m => exact h
theorem len_read_argument {ws ds : List D} {n : Nat} {Q : D → Nat → Prop} {E : Exn → Prop} (h : sp_read_argument ws ds n Q E) : ds.length + 1 = (["reader"] : List Str).length := spP_len h
theorem hw_read_argument : ∀ x ws ds n Q E, sp_read_argument ws ds n Q E → W_read_argument x ws E (eX Q) (ρ0 (["reader", "name"] : List Str).length (.rf x :: ds)) n := by
  rintro x ws ds n Q E ⟨wl, e, rfl, G, hn, rfl, h⟩
  unfold W_read_argument
  walk_at "dx"
  unfold pArg at h
  refine ⟨wl, e, rfl, G, hn, rfl, ?_⟩
  by_cases q : plainAt wl n = true
  · rw [if_pos q] at h ⊢
    have hl := plain_lt q
    walk_at "dx"
    refine ⟨wl, e, rfl, G, hl, _, _, rfl, by decide +kernel, by decide +kernel, by decide, ?_⟩
    by_cases q2 : see wl (n + 1) "sign" ":" = true
    · rw [if_pos q2] at h ⊢
      walk_at "dx"
      refine ⟨wl, e, rfl, G, see_lt q2, rfl, ?_⟩
      exact outR_bind (fin_val G (n + 2)) h fun d n' _ _ _ h => ⟨by show 2 ≤ 100000; decide, h⟩
    · rw [if_neg q2] at h ⊢
      exact h
  · rw [if_neg q] at h ⊢
    exact h
theorem len_read_condition {ws ds : List D} {n : Nat} {Q : D → Nat → Prop} {E : Exn → Prop} (h : sp_read_condition ws ds n Q E) : ds.length + 1 = (["reader"] : List Str).length := spP_len h
theorem hw_read_condition : ∀ x ws ds n Q E, sp_read_condition ws ds n Q E → W_read_condition x ws E (eX Q) (ρ0 (["reader", "_", "word", "value"] : List Str).length (.rf x :: ds)) n := by
  rintro x ws ds n Q E ⟨wl, e, rfl, G, hn, rfl, h⟩
  unfold W_read_condition
  walk_at "dx"
  refine ⟨wl, e, rfl, G, hn, rfl, ?_⟩
  walk_at "dx"
  refine ⟨wl, e, rfl, G, hn, _, _, rfl, by decide +kernel, by decide +kernel, by decide, ?_⟩
  unfold pCond at h
  have tail : (if see wl (n + 1) "sign" "(" = true then (pVal wl (n + 2)).bind fun v n' => (if see wl n' "sign" ")" = true then .ok (.tup [wd wl n, v]) (n' + 1) else .bad n') else RR.bad (n + 1)) = (if see wl (n + 1) "sign" "(" = true then (pVal wl (n + 2)).bind fun v n' => (if see wl n' "sign" ")" = true then .ok (.tup [wd wl n, v]) (n' + 1) else .bad n') else RR.bad (n + 1)) := rfl
  have go : n < wl.length → outR wl e (if see wl (n + 1) "sign" "(" = true then (pVal wl (n + 2)).bind fun v n' => (if see wl n' "sign" ")" = true then .ok (.tup [wd wl n, v]) (n' + 1) else .bad n') else RR.bad (n + 1)) Q E →
      sp_R_expect (full wl e) [D.str "sign", D.str "("] (n + 1) (fun _ n1 => sp_read_value (full wl e) [] n1 (fun d n2 => sp_R_expect (full wl e) [D.str "sign", D.str ")"] n2 (fun _ n3 => 2 ≤ 100000 ∧ Q (D.tup [wd wl n, d]) n3) E) E) E := by
    intro hl h
    refine ⟨wl, e, rfl, G, hl, _, _, rfl, by decide +kernel, by decide +kernel, by decide, ?_⟩
    by_cases q2 : see wl (n + 1) "sign" "(" = true
    · rw [if_pos q2] at h ⊢
      refine ⟨wl, e, rfl, G, see_lt q2, rfl, ?_⟩
      refine outR_bind (fin_val G (n + 2)) h fun d n' _ _ h3 h => ?_
      refine ⟨wl, e, rfl, G, h3, _, _, rfl, by decide +kernel, by decide +kernel, by decide, ?_⟩
      by_cases q3 : see wl n' "sign" ")" = true
      · rw [if_pos q3] at h ⊢
        exact ⟨by decide, h⟩
      · rw [if_neg q3] at h ⊢
        exact h
    · rw [if_neg q2] at h ⊢
      exact h
  by_cases q : see wl n "name" "if" = true
  · rw [if_pos (.inl q)] at h
    rw [if_pos q]
    walk_at "dx"
    exact go (see_lt q) h
  · rw [if_neg q]
    walk_at "dx"
    refine ⟨wl, e, rfl, G, hn, _, _, rfl, by decide +kernel, by decide +kernel, by decide, ?_⟩
    by_cases q1 : see wl n "name" "unless" = true
    · rw [if_pos (.inr q1)] at h
      rw [if_pos q1]
      exact go (see_lt q1) h
    · rw [if_neg (by rintro (z | z); exact q z; exact q1 z)] at h
      rw [if_neg q1]
      exact h
theorem len_read_conditions {ws ds : List D} {n : Nat} {Q : D → Nat → Prop} {E : Exn → Prop} (h : sp_read_conditions ws ds n Q E) : ds.length + 1 = (["reader"] : List Str).length := spP_len h
theorem hw_read_conditions : ∀ x ws ds n Q E, sp_read_conditions ws ds n Q E → W_read_conditions x ws E (eX Q) (ρ0 (["reader", "found"] : List Str).length (.rf x :: ds)) n := by
  rintro x ws ds n Q E ⟨wl, e, rfl, G, hn, rfl, h⟩
  unfold W_read_conditions
  walk_at "dx"
  refine whx_rule (fun m ρ n => ∃ (f : Nat) (acc : List D), ρ = [.val (.rf x), .ol acc] ∧ m = wl.length + 1 - n ∧ n ≤ wl.length ∧ wl.length - n < f ∧ acc.length ≤ n ∧ outR wl e (condsF wl f n acc) Q E) ?_ (m := wl.length + 1 - n) ⟨wl.length + 1, [], rfl, rfl, hn, by omega, Nat.zero_le _, h⟩
  rintro m ρ n N ⟨f, acc, rfl, rfl, hn, hf, hac, hk⟩ ih
  walk_at "dx"
  refine ⟨wl, e, rfl, G, hn, _, _, rfl, by decide +kernel, by decide +kernel, by decide, ?_⟩
  have hlen := G.len
  cases f with
  | zero => omega
  | succ f =>
    unfold condsF at hk
    by_cases q : see wl n "sign" "@" = true
    · rw [if_pos q] at hk ⊢
      walk_at "dx"
      unfold W_read_conditions_b1
      walk_at "dx"
      refine ⟨wl, e, rfl, G, see_lt q, rfl, ?_⟩
      have F := fin_cond G (n + 1)
      cases q2 : pCond wl (n + 1) with
      | bad m => rw [q2] at hk; exact hk
      | ok d n' =>
        rw [q2] at hk F
        have h1 := F.2.1
        have h2 := F.2.2
        refine ⟨by omega, ih (wl.length + 1 - n') _ n' (by omega) ⟨f, acc ++ [d], rfl, rfl, h2, by omega, by rw [List.length_append]; simp only [List.length_cons, List.length_nil]; omega, hk⟩⟩
    · rw [if_neg q] at hk ⊢
      walk_at "dx"
      exact hk
/-- the loop of elements up to a closing sign, as the program has it -/
theorem loop_prog {x : Addr} {wl : List W3} {e : Int} {Q : D → Nat → Prop} {E : Exn → Prop} {p : Nat → RR} {b : Nat} {close : Str} {i : Nat} {sp : SpecX} {w : WTx} {B : WSx} {d : EndsX} {mkρ : List D → En} (G : GoodW wl e) (hp : ∀ n, Fin wl b (n + 1) (p n))
    (hw : ∀ acc n (K : Bool → Nat → Prop), n ≤ wl.length → (if see wl n "sign" close = true then K false (n + 1) else K true n) → w (mkρ acc) n K)
    (hB : ∀ acc n (N : En → Nat → Prop) d', d'.nx = N → n ≤ wl.length → see wl n "sign" close = false → acc.length ≤ 100000 → outR wl e (p n) (fun v n' => N (mkρ (acc ++ [v])) n') E → B d' (mkρ acc) n)
    (hd : ∀ acc n, Q (.tup acc) n → d.nx (mkρ acc) n) :
    ∀ (f n : Nat) (acc : List D), wl.length - n < f → n ≤ wl.length → acc.length ≤ n → outR wl e (if see wl n "sign" close = true then .ok (.tup acc) (n + 1) else loopF wl p close f n acc) Q E → wWhileX w B d (mkρ acc) n := by
  intro f n acc hf hn hac hk
  have hlen := G.len
  refine whx_rule (fun m ρ n => ∃ (f : Nat) (acc : List D), ρ = mkρ acc ∧ m = wl.length + 1 - n ∧ n ≤ wl.length ∧ wl.length - n < f ∧ acc.length ≤ n ∧ outR wl e (if see wl n "sign" close = true then .ok (.tup acc) (n + 1) else loopF wl p close f n acc) Q E) ?_ (m := wl.length + 1 - n) ⟨f, acc, rfl, rfl, hn, hf, hac, hk⟩
  rintro m ρ n N ⟨f, acc, rfl, rfl, hn, hf, hac, hk⟩ ih
  refine hw acc n _ hn ?_
  cases q : see wl n "sign" close with
  | true =>
    rw [if_pos q] at hk
    rw [if_pos rfl, if_neg Bool.false_ne_true]
    exact hd acc (n + 1) hk
  | false =>
    rw [if_neg (by rw [q]; exact Bool.false_ne_true)] at hk
    rw [if_neg Bool.false_ne_true, if_pos rfl]
    refine hB acc n N _ rfl hn q (by omega) ?_
    cases f with
    | zero => omega
    | succ f =>
      unfold loopF at hk
      have F := hp n
      cases q2 : p n with
      | bad m => rw [q2] at hk; exact hk
      | ok v n' =>
        rw [q2] at hk F
        have h1 := F.2.1
        have h2 := F.2.2
        exact ih (wl.length + 1 - n') _ n' (by omega) ⟨f, acc ++ [v], rfl, rfl, h2, by omega, by rw [List.length_append]; simp only [List.length_cons, List.length_nil]; omega, hk⟩
theorem loop_first {wl : List W3} {e : Int} {p : Nat → RR} {close : Str} {n : Nat} {Q : D → Nat → Prop} {E : Exn → Prop} {f : Nat} (h : outR wl e (loopF wl p close (f + 1) n []) Q E) {Q' : D → Nat → Prop} (hq : ∀ v n', p n = .ok v n' → outR wl e (if see wl n' "sign" close = true then .ok (.tup [v]) (n' + 1) else loopF wl p close f n' [v]) Q E → Q' v n') : outR wl e (p n) Q' E := by
  unfold loopF at h
  cases q : p n with
  | bad m => rw [q] at h; exact h
  | ok v n' => rw [q] at h; exact hq v n' q h
theorem len_read_arguments {ws ds : List D} {n : Nat} {Q : D → Nat → Prop} {E : Exn → Prop} (h : sp_read_arguments ws ds n Q E) : ds.length + 1 = (["reader"] : List Str).length := spP_len h
theorem fin_arg1 {wl : List W3} {e : Int} (G : GoodW wl e) (n : Nat) : Fin wl 2 (n + 1) (pArg wl n) := by
  have := fin_arg G n
  cases q : pArg wl n with
  | bad m => trivial
  | ok d n' => rw [q] at this; exact ⟨this.1, by have := this.2.1; omega, this.2.2⟩
theorem hw_read_arguments : ∀ x ws ds n Q E, sp_read_arguments ws ds n Q E → W_read_arguments x ws E (eX Q) (ρ0 (["reader", "found"] : List Str).length (.rf x :: ds)) n := by
  rintro x ws ds n Q E ⟨wl, e, rfl, G, hn, rfl, h⟩
  unfold W_read_arguments
  walk_at "dx"
  refine ⟨wl, e, rfl, G, hn, _, _, rfl, by decide +kernel, by decide +kernel, by decide, ?_⟩
  unfold pArgs at h
  by_cases q : see wl n "sign" "(" = true
  · rw [if_pos q] at h ⊢
    have hl := see_lt q
    have hlen := G.len
    walk_at "dx"
    refine ⟨wl, e, rfl, G, hl, rfl, ?_⟩
    refine loop_first h fun v n' hv h => ?_
    have F := fin_arg1 G (n + 1)
    rw [hv] at F
    have h1 := F.2.1
    have h2 := F.2.2
    refine loop_prog (mkρ := fun acc => [.val (.rf x), .ol acc]) (sp := sp_R_ahead) (x := x) (i := 0) G (fin_arg1 G) (close := ")") (Q := Q) (E := E) ?_ ?_ ?_ wl.length n' [v] (by omega) h2 (by show 1 ≤ n'; omega) h
    · intro acc n K hn hK
      walk_at "dx"
      refine ⟨wl, e, rfl, G, hn, _, _, rfl, by decide +kernel, by decide +kernel, by decide, ?_⟩
      by_cases q3 : see wl n "sign" ")" = true
      · rw [if_pos q3] at hK ⊢
        exact hK
      · rw [if_neg q3] at hK ⊢
        exact hK
    · intro acc n N d' hd hn hs ha hk
      unfold W_read_arguments_b1
      walk_at "dx"
      refine ⟨wl, e, rfl, G, hn, rfl, ?_⟩
      cases q3 : pArg wl n with
      | bad m => rw [q3] at hk; exact hk
      | ok v n' => rw [q3] at hk; rw [hd]; exact ⟨ha, hk⟩
    · intro acc n hq
      walk_at "dx"
      exact hq
  · rw [if_neg q] at h ⊢
    walk_at "dx"
    exact ⟨by decide, h⟩
end K5
set_option Elab.async false
set_option linter.all false
set_option maxRecDepth 100000
set_option maxHeartbeats 4000000
namespace K5
open PySem L2 Dl
local macro_rules | `(tactic| walk_at "dx") => `(tactic| simp only [wSB, wSB1, wVar, wC, wOp, wB, wNotT, wAndT, wOrT, wAndV, wOrV, wNotV, wIfE, wChain, wNil, wCons, wTup, wLst, wNext, wSeq, wSet, wAsg, wDrop, wRet, wRetN, wBrk, wCont, wIf, wiL, wiT, wiR, wFor, wCall0, wCall, wCB, wM0, wM1, wNo, wPart, wSl, wYes, wLc, wipeD, wNeg, wTru, wFmt, wJoined, wJs, wRaise1, wStw, wiS, wAug, wiR2, wSt3, wFind, wApp, wNewL, wFrzL, Sl.OL, wRaiseF, rdCints, rdRep, wPE, wPT, wPS, wSeqX, wNextX, wSetX, wAsgX, wDropX, wRetX, wIfX, wBX, wNotX, wAndX, wOrX, wConsX, wNilX, wTupX, wOpX, wCallX, wRat, wRws, wRinc, wNewL1, wAppX, wFrzX, EndsX.at, rdCtuple, rdInT, rdTabIn, rdTab, wTruO, wLenO, rdSlT, rdRepL, wNameEnd, wgName, wgNil, wgCons, wgTup,
  Sl.V, D.I, D.B, D.S, D.L, D.T, D.K, D.len, D.tru, rdI, rdI0, rdLt, rdLe, rdGt, rdGe, rdEq, rdNe, eqS, rdIsN, rdNotN, rdAdd, rdIx, rdSl, rdInS, rdLen, rdOrd, rdAll, rdAny, rdIsi, rdFmt, rdJoin, rdCint, tyN, ρ0, List.map_cons, List.map_nil, List.length_cons, List.length_nil, List.replicate, List.append, List.cons_append, List.nil_append, List.getElem?_cons_zero, List.getElem?_cons_succ, List.set_cons_zero, List.set_cons_succ, Nat.add_sub_cancel, Nat.sub_self, Nat.zero_add, Nat.reduceAdd, Nat.reduceSub, if_true, if_false, true_and, and_true, decide_true, decide_false, true_or, or_true, ia_NoneType_bool, ia_NoneType_int, ia_NoneType_str, ia_NoneType_list, ia_NoneType_tuple, ia_NoneType_dict, ia_bool_bool, ia_bool_int, ia_bool_str, ia_bool_list, ia_bool_tuple, ia_bool_dict, ia_int_bool, ia_int_int, ia_int_str, ia_int_list, ia_int_tuple, ia_int_dict, ia_str_bool, ia_str_int, ia_str_str, ia_str_list, ia_str_tuple, ia_str_dict, ia_list_bool, ia_list_int, ia_list_str, ia_list_list, ia_list_tuple, ia_list_dict, ia_tuple_bool, ia_tuple_int, ia_tuple_str, ia_tuple_list, ia_tuple_tuple, ia_tuple_dict, ia_dict_bool, ia_dict_int, ia_dict_str, ia_dict_list, ia_dict_tuple, ia_dict_dict, inT_bool, inT_int, inT_str, inT_list, inT_tuple, inT_dict, Bool.false_xor, Bool.true_xor, Bool.not_eq_true, Bool.not_true, Bool.not_false, Bool.false_eq_true, ite_false, ite_true, reduceCtorEq])
local macro_rules | `(tactic| walk_at "dy") => `(tactic| simp only [wSB, wSB1, wVar, wC, wOp, wB, wNotT, wAndT, wOrT, wAndV, wOrV, wNotV, wIfE, wChain, wNil, wCons, wTup, wLst, wNext, wSeq, wSet, wAsg, wDrop, wRet, wRetN, wBrk, wCont, wIf, wiL, wiT, wiR, wFor, wCall0, wCall, wCB, wM0, wM1, wNo, wPart, wSl, wYes, wLc, wipeD, wNeg, wTru, wFmt, wJoined, wJs, wRaise1, wStw, wiS, wAug, wiR2, wSt3, wFind, wApp, wNewL, wFrzL, Sl.OL, wRaiseF, rdCints, rdRep, wPE, wPT, wPS, wSeqX, wNextX, wSetX, wAsgX, wDropX, wRetX, wIfX, wBX, wNotX, wAndX, wOrX, wConsX, wNilX, wTupX, wOpX, wCallX, wRat, wRws, wRinc, wNewL1, wAppX, wFrzX, EndsX.at, rdCtuple, rdInT, rdTabIn, rdTab, wTruO, wLenO, rdSlT, rdRepL, wNameEnd, wgName, wgNil, wgCons, wgTup,
  Sl.V, D.I, D.B, D.S, D.L, D.T, D.K, D.len, D.tru, rdI, rdI0, rdLt, rdLe, rdGt, rdGe, rdIsN, rdNotN, rdAdd, rdIx, rdSl, rdInS, rdLen, rdOrd, rdAll, rdAny, rdIsi, rdFmt, rdJoin, rdCint, tyN, ρ0, List.map_cons, List.map_nil, List.length_cons, List.length_nil, List.replicate, List.append, List.cons_append, List.nil_append, List.getElem?_cons_zero, List.getElem?_cons_succ, List.set_cons_zero, List.set_cons_succ, Nat.add_sub_cancel, Nat.sub_self, Nat.zero_add, Nat.reduceAdd, Nat.reduceSub, if_true, if_false, true_and, and_true, decide_true, decide_false, true_or, or_true, ia_NoneType_bool, ia_NoneType_int, ia_NoneType_str, ia_NoneType_list, ia_NoneType_tuple, ia_NoneType_dict, ia_bool_bool, ia_bool_int, ia_bool_str, ia_bool_list, ia_bool_tuple, ia_bool_dict, ia_int_bool, ia_int_int, ia_int_str, ia_int_list, ia_int_tuple, ia_int_dict, ia_str_bool, ia_str_int, ia_str_str, ia_str_list, ia_str_tuple, ia_str_dict, ia_list_bool, ia_list_int, ia_list_str, ia_list_list, ia_list_tuple, ia_list_dict, ia_tuple_bool, ia_tuple_int, ia_tuple_str, ia_tuple_list, ia_tuple_tuple, ia_tuple_dict, ia_dict_bool, ia_dict_int, ia_dict_str, ia_dict_list, ia_dict_tuple, ia_dict_dict, inT_bool, inT_int, inT_str, inT_list, inT_tuple, inT_dict, Bool.false_xor, Bool.true_xor, Bool.not_eq_true, Bool.not_true, Bool.not_false, Bool.false_eq_true, ite_false, ite_true, reduceCtorEq])
theorem len_read_kind {m : Nat} {ws ds : List D} {n : Nat} {Q : D → Nat → Prop} {E : Exn → Prop} (h : sp_read_kind (m + 1) ws ds n Q E) : ds.length + 1 = (["reader", "depth"] : List Str).length := by
  obtain ⟨wl, e, _, _, _, rfl, _⟩ := h
  rfl
theorem hw_read_kind {m : Nat} : ∀ x ws ds n Q E, sp_read_kind (m + 1) ws ds n Q E → W_read_kind m x ws E (eX Q) (ρ0 (["reader", "depth", "bare"] : List Str).length (.rf x :: ds)) n := by
  rintro x ws ds n Q E ⟨wl, e, rfl, G, hn, rfl, hm, h⟩
  unfold W_read_kind
  walk_at "dx"
  unfold pType bang at h
  refine ⟨wl, e, rfl, G, hn, rfl, hm, ?_⟩
  refine outR_bind (fin_bare G m n) h fun d n' _ _ h3 h => ?_
  refine ⟨wl, e, rfl, G, h3, _, _, rfl, by decide +kernel, by decide +kernel, by decide, ?_⟩
  by_cases q : see wl n' "sign" "!" = true
  · rw [if_pos q] at h ⊢
    walk_at "dx"
    exact ⟨by decide, h⟩
  · rw [if_neg q] at h ⊢
    walk_at "dx"
    exact h
theorem len_read_bare_kind {m : Nat} {ws ds : List D} {n : Nat} {Q : D → Nat → Prop} {E : Exn → Prop} (h : sp_read_bare_kind m ws ds n Q E) : ds.length + 1 = (["reader", "depth"] : List Str).length := by
  obtain ⟨wl, e, _, _, _, rfl, _⟩ := h
  rfl
theorem name_prog {x : Addr} {wl : List W3} {e : Int} {n : Nat} {Q : D → Nat → Prop} {E : Exn → Prop} (G : GoodW wl e) (hn : n ≤ wl.length) (h : outR wl e (pName wl n) Q E) : sp_R_expect_name (full wl e) [] n (fun d n1 => 2 ≤ 100000 ∧ Q (D.tup [D.str "name", d]) n1) E := by
  unfold pName at h
  refine ⟨wl, e, rfl, G, hn, rfl, ?_⟩
  by_cases q : plainAt wl n = true
  · rw [if_pos q] at h ⊢
    exact ⟨by decide, h⟩
  · rw [if_neg q] at h ⊢
    exact h
theorem hw_read_bare_kind {m : Nat} : ∀ x ws ds n Q E, sp_read_bare_kind m ws ds n Q E → W_read_bare_kind m x ws E (eX Q) (ρ0 (["reader", "depth", "inner"] : List Str).length (.rf x :: ds)) n := by
  rintro x ws ds n Q E ⟨wl, e, rfl, G, hn, rfl, hm, h⟩
  unfold W_read_bare_kind
  walk_at "dx"
  cases m with
  | zero =>
    rw [decide_eq_false (by omega)]
    walk_at "dx"
    unfold pBare at h
    exact name_prog (x := x) G hn h
  | succ m =>
    rw [decide_eq_true (by omega)]
    walk_at "dx"
    unfold pBare at h
    refine ⟨wl, e, rfl, G, hn, _, _, rfl, by decide +kernel, by decide +kernel, by decide, ?_⟩
    by_cases q : see wl n "sign" "[" = true
    · rw [if_pos q] at h ⊢
      walk_at "dx"
      refine ⟨wl, e, rfl, G, see_lt q, by show [D.int _] = [D.int _]; congr 2; omega, by omega, ?_⟩
      refine outR_bind (fin_type G m (n + 1)) h fun d n' _ _ h3 h => ?_
      refine ⟨wl, e, rfl, G, h3, _, _, rfl, by decide +kernel, by decide +kernel, by decide, ?_⟩
      by_cases q2 : see wl n' "sign" "]" = true
      · rw [if_pos q2] at h ⊢
        walk_at "dx"
        exact ⟨by decide, h⟩
      · rw [if_neg q2] at h ⊢
        exact h
    · rw [if_neg q] at h ⊢
      walk_at "dx"
      exact name_prog (x := x) G hn h
theorem len_read_declaration {ws ds : List D} {n : Nat} {Q : D → Nat → Prop} {E : Exn → Prop} (h : sp_read_declaration ws ds n Q E) : ds.length + 1 = (["reader"] : List Str).length := spP_len h
theorem hw_read_declaration : ∀ x ws ds n Q E, sp_read_declaration ws ds n Q E → W_read_declaration x ws E (eX Q) (ρ0 (["reader", "name", "kind", "default"] : List Str).length (.rf x :: ds)) n := by
  rintro x ws ds n Q E ⟨wl, e, rfl, G, hn, rfl, h⟩
  unfold W_read_declaration
  walk_at "dx"
  unfold pDecl at h
  refine ⟨wl, e, rfl, G, hn, _, rfl, by decide, ?_⟩
  by_cases q : kd wl n = "variable"
  · rw [if_pos q] at h ⊢
    walk_at "dx"
    refine ⟨wl, e, rfl, G, kd_lt q (by decide), _, _, rfl, by decide +kernel, by decide +kernel, by decide, ?_⟩
    by_cases q2 : see wl (n + 1) "sign" ":" = true
    · rw [if_pos q2] at h ⊢
      walk_at "dx"
      refine ⟨wl, e, rfl, G, see_lt q2, rfl, by decide, ?_⟩
      refine outR_bind (fin_type G 5 (n + 2)) h fun d n' _ _ h3 h => ?_
      refine ⟨wl, e, rfl, G, h3, _, _, rfl, by decide +kernel, by decide +kernel, by decide, ?_⟩
      by_cases q3 : see wl n' "sign" "=" = true
      · rw [if_pos q3] at h ⊢
        walk_at "dx"
        refine ⟨wl, e, rfl, G, see_lt q3, rfl, ?_⟩
        refine outR_bind (fin_const G (n' + 1)) h fun c n2 _ _ _ h => ?_
        exact ⟨by decide, h⟩
      · rw [if_neg q3] at h ⊢
        walk_at "dx"
        exact ⟨by decide, h⟩
    · rw [if_neg q2] at h ⊢
      exact h
  · rw [if_neg q] at h ⊢
    exact h
theorem len_read_declarations {ws ds : List D} {n : Nat} {Q : D → Nat → Prop} {E : Exn → Prop} (h : sp_read_declarations ws ds n Q E) : ds.length + 1 = (["reader"] : List Str).length := spP_len h
theorem hw_read_declarations : ∀ x ws ds n Q E, sp_read_declarations ws ds n Q E → W_read_declarations x ws E (eX Q) (ρ0 (["reader", "found"] : List Str).length (.rf x :: ds)) n := by
  rintro x ws ds n Q E ⟨wl, e, rfl, G, hn, rfl, h⟩
  unfold W_read_declarations
  walk_at "dx"
  refine ⟨wl, e, rfl, G, hn, _, _, rfl, by decide +kernel, by decide +kernel, by decide, ?_⟩
  unfold pDecls at h
  by_cases q : see wl n "sign" "(" = true
  · rw [if_pos q] at h ⊢
    have hl := see_lt q
    have hlen := G.len
    walk_at "dx"
    refine ⟨wl, e, rfl, G, hl, rfl, ?_⟩
    refine loop_first h fun v n' hv h => ?_
    have F := fin_decl G (n + 1)
    rw [hv] at F
    have h1 := F.2.1
    have h2 := F.2.2
    refine loop_prog (mkρ := fun acc => [.val (.rf x), .ol acc]) (sp := sp_R_ahead) (x := x) (i := 0) G (fin_decl G) (close := ")") (Q := Q) (E := E) ?_ ?_ ?_ wl.length n' [v] (by omega) h2 (by show 1 ≤ n'; omega) h
    · intro acc n K hn hK
      walk_at "dx"
      refine ⟨wl, e, rfl, G, hn, _, _, rfl, by decide +kernel, by decide +kernel, by decide, ?_⟩
      by_cases q3 : see wl n "sign" ")" = true
      · rw [if_pos q3] at hK ⊢
        exact hK
      · rw [if_neg q3] at hK ⊢
        exact hK
    · intro acc n N d' hd hn hs ha hk
      unfold W_read_declarations_b1
      walk_at "dx"
      refine ⟨wl, e, rfl, G, hn, rfl, ?_⟩
      cases q3 : pDecl wl n with
      | bad m => rw [q3] at hk; exact hk
      | ok v n' => rw [q3] at hk; rw [hd]; exact ⟨ha, hk⟩
    · intro acc n hq
      walk_at "dx"
      exact hq
  · rw [if_neg q] at h ⊢
    walk_at "dx"
    exact ⟨by decide, h⟩
theorem spm_len {m : Nat} {off : Int} {p : List W3 → Nat → Nat → RR} {ws ds : List D} {n : Nat} {Q : D → Nat → Prop} {E : Exn → Prop} (h : spM (fun wl e ds n Q E => ds = [.int (off - (m : Int))] ∧ outR wl e (p wl m n) Q E) ws ds n Q E) : ds.length + 1 = (["reader", "depth"] : List Str).length := by
  obtain ⟨wl, e, _, _, _, rfl, _⟩ := h
  rfl
theorem len_read_field {m : Nat} {ws ds : List D} {n : Nat} {Q : D → Nat → Prop} {E : Exn → Prop} (h : sp_read_field (m + 1) ws ds n Q E) : ds.length + 1 = (["reader", "depth"] : List Str).length := by
  obtain ⟨wl, e, _, _, _, rfl, _⟩ := h
  rfl
theorem len_read_spread {m : Nat} {ws ds : List D} {n : Nat} {Q : D → Nat → Prop} {E : Exn → Prop} (h : sp_read_spread (m + 1) ws ds n Q E) : ds.length + 1 = (["reader", "depth"] : List Str).length := by
  obtain ⟨wl, e, _, _, _, rfl, _⟩ := h
  rfl
theorem len_read_part {m : Nat} {ws ds : List D} {n : Nat} {Q : D → Nat → Prop} {E : Exn → Prop} (h : sp_read_part (m + 1) ws ds n Q E) : ds.length + 1 = (["reader", "depth"] : List Str).length := by
  obtain ⟨wl, e, _, _, _, rfl, _⟩ := h
  rfl
theorem len_read_selection {m : Nat} {ws ds : List D} {n : Nat} {Q : D → Nat → Prop} {E : Exn → Prop} (h : sp_read_selection m ws ds n Q E) : ds.length + 1 = (["reader", "depth"] : List Str).length := by
  obtain ⟨wl, e, _, _, _, rfl, _⟩ := h
  rfl
theorem ten_m (m : Nat) : ((10 - (m : Int)) + 1) = 11 - (m : Int) := by omega
theorem hw_read_field {m : Nat} (hm : m ≤ 10) : ∀ x ws ds n Q E, sp_read_field (m + 1) ws ds n Q E → W_read_field m x ws E (eX Q) (ρ0 (["reader", "depth", "key", "name", "arguments", "conditions", "selection"] : List Str).length (.rf x :: ds)) n := by
  rintro x ws ds n Q E ⟨wl, e, rfl, G, hn, rfl, h⟩
  unfold W_read_field
  walk_at "dx"
  unfold pFieldP at h
  refine ⟨wl, e, rfl, G, hn, _, rfl, by decide, ?_⟩
  have tail : ∀ (key name : D) (n1 : Nat), n1 ≤ wl.length → outR wl e (pTail wl (pSel wl m) key name n1) Q E →
      sp_read_arguments (full wl e) [] n1 (fun x1 n1 => sp_read_conditions (full wl e) [] n1 (fun x2 n1 => sp_R_sees (full wl e) [D.str "sign", D.str "{"] n1
        (fun d n1 => d.B fun i => if i = true then sp_read_selection m (full wl e) [D.int ((10 - (m : Int)) + 1)] n1 (fun x3 n1 => 6 ≤ 100000 ∧ Q (D.tup [D.str "field", key, name, x1, x2, x3]) n1) E
          else 6 ≤ 100000 ∧ Q (D.tup [D.str "field", key, name, x1, x2, D.non]) n1) E) E) E := by
    intro key name n1 hn1 h
    unfold pTail at h
    refine ⟨wl, e, rfl, G, hn1, rfl, ?_⟩
    refine outR_bind (fin_args G hn1) h fun d n2 _ _ h2 h => ?_
    refine ⟨wl, e, rfl, G, h2, rfl, ?_⟩
    refine outR_bind (fin_conds G h2) h fun d3 n3 _ _ h3 h => ?_
    refine ⟨wl, e, rfl, G, h3, _, _, rfl, by decide +kernel, by decide +kernel, ?_⟩
    show if see wl n3 "sign" "{" = true then _ else _
    by_cases q : see wl n3 "sign" "{" = true
    · rw [if_pos q] at h ⊢
      refine ⟨wl, e, rfl, G, h3, by rw [ten_m], hm, ?_⟩
      refine outR_bind (fin_sel G m n3) h fun d4 n4 _ _ h4 h => ?_
      exact ⟨by decide, h⟩
    · rw [if_neg q] at h ⊢
      exact ⟨by decide, h⟩
  by_cases q : kd wl n = "name"
  · rw [if_pos q] at h ⊢
    walk_at "dx"
    obtain ⟨s, hs⟩ := wd_str G (n := n) (by rw [q]; decide)
    rw [hs] at h ⊢
    walk_at "dx"
    have hl := kd_lt q (by decide)
    have hsS : isS (.str s) "_type" = decide (s = "_type") := rfl
    rw [hsS] at h
    by_cases q1 : s = "_type"
    · rw [decide_eq_true q1] at h ⊢
      rw [if_neg (fun z => by cases z.1)] at h
      walk_at "dx"
      exact tail (.str s) (.str s) (n + 1) hl h
    · rw [decide_eq_false q1] at h ⊢
      walk_at "dx"
      refine ⟨wl, e, rfl, G, hl, _, _, rfl, by decide +kernel, by decide +kernel, by decide, ?_⟩
      by_cases q2 : see wl (n + 1) "sign" ":" = true
      · rw [if_pos ⟨rfl, q2⟩] at h
        rw [if_pos q2]
        walk_at "dx"
        refine ⟨wl, e, rfl, G, see_lt q2, _, rfl, by decide, ?_⟩
        by_cases q3 : kd wl (n + 2) = "name"
        · rw [if_pos q3] at h ⊢
          exact tail (.str s) (wd wl (n + 2)) (n + 3) (kd_lt q3 (by decide)) h
        · rw [if_neg q3] at h ⊢
          exact h
      · rw [if_neg (fun z => q2 z.2)] at h
        rw [if_neg q2]
        walk_at "dx"
        exact tail (.str s) (.str s) (n + 1) hl h
  · rw [if_neg q] at h ⊢
    exact h
theorem hw_read_spread {m : Nat} (hm : m ≤ 10) : ∀ x ws ds n Q E, sp_read_spread (m + 1) ws ds n Q E → W_read_spread m x ws E (eX Q) (ρ0 (["reader", "depth", "type_name", "name", "conditions"] : List Str).length (.rf x :: ds)) n := by
  rintro x ws ds n Q E ⟨wl, e, rfl, G, hn, rfl, h⟩
  unfold W_read_spread
  walk_at "dx"
  unfold pSpread at h
  refine ⟨wl, e, rfl, G, hn, _, _, rfl, by decide +kernel, by decide +kernel, by decide, ?_⟩
  have tail : ∀ (nm : D) (n1 : Nat), n1 ≤ wl.length → outR wl e ((pConds wl n1).bind fun c n2 => (pSel wl m n2).bind fun s n3 => .ok (.tup [.str "on", nm, c, s]) n3) Q E →
      sp_read_conditions (full wl e) [] n1 (fun c n2 => sp_read_selection m (full wl e) [D.int ((10 - (m : Int)) + 1)] n2 (fun s n3 => 4 ≤ 100000 ∧ Q (D.tup [D.str "on", nm, c, s]) n3) E) E := by
    intro nm n1 hn1 h
    refine ⟨wl, e, rfl, G, hn1, rfl, ?_⟩
    refine outR_bind (fin_conds G hn1) h fun c n2 _ _ h2 h => ?_
    refine ⟨wl, e, rfl, G, h2, by rw [ten_m], hm, ?_⟩
    exact outR_bind (fin_sel G m n2) h fun s n3 _ _ h3 h => ⟨by decide, h⟩
  by_cases q : see wl n "name" "on" = true
  · rw [if_pos q] at h ⊢
    walk_at "dx"
    refine ⟨wl, e, rfl, G, see_lt q, rfl, ?_⟩
    by_cases q2 : plainAt wl (n + 1) = true
    · rw [if_pos q2] at h ⊢
      walk_at "dx"
      exact tail _ _ (plain_lt q2) h
    · rw [if_neg q2] at h ⊢
      exact h
  · rw [if_neg q] at h ⊢
    walk_at "dx"
    refine ⟨wl, e, rfl, G, hn, rfl, ?_⟩
    walk_at "dx"
    have a0 : ∀ a b : D, atI [a, b] 0 = some a := fun _ _ => rfl
    rw [a0]
    walk_at "dx"
    by_cases q1 : kd wl n = "name"
    · rw [if_pos q1] at h
      rw [decide_eq_true q1]
      walk_at "dx"
      refine ⟨wl, e, rfl, G, hn, rfl, ?_⟩
      by_cases q2 : plainAt wl n = true
      · rw [if_pos q2] at h ⊢
        walk_at "dx"
        refine ⟨wl, e, rfl, G, plain_lt q2, rfl, ?_⟩
        exact outR_bind (fin_conds G (n := n + 1) (plain_lt q2)) h fun c n2 _ _ h2 h => ⟨by show 3 ≤ 100000; decide, h⟩
      · rw [if_neg q2] at h ⊢
        exact h
    · rw [if_neg q1] at h
      rw [decide_eq_false q1]
      walk_at "dx"
      exact tail _ _ hn h
theorem hw_read_part {m : Nat} : ∀ x ws ds n Q E, sp_read_part (m + 1) ws ds n Q E → W_read_part m x ws E (eX Q) (ρ0 (["reader", "depth"] : List Str).length (.rf x :: ds)) n := by
  rintro x ws ds n Q E ⟨wl, e, rfl, G, hn, rfl, h⟩
  unfold W_read_part
  walk_at "dx"
  unfold pPartP at h
  refine ⟨wl, e, rfl, G, hn, _, _, rfl, by decide +kernel, by decide +kernel, by decide, ?_⟩
  by_cases q : see wl n "sign" "..." = true
  · rw [if_pos q] at h ⊢
    walk_at "dx"
    exact ⟨wl, e, rfl, G, see_lt q, rfl, h⟩
  · rw [if_neg q] at h ⊢
    walk_at "dx"
    exact ⟨wl, e, rfl, G, hn, rfl, h⟩
end K5
set_option Elab.async false
set_option linter.all false
set_option maxRecDepth 100000
set_option maxHeartbeats 4000000
namespace K5
open PySem L2 Dl
local macro_rules | `(tactic| walk_at "dx") => `(tactic| simp only [wSB, wSB1, wVar, wC, wOp, wB, wNotT, wAndT, wOrT, wAndV, wOrV, wNotV, wIfE, wChain, wNil, wCons, wTup, wLst, wNext, wSeq, wSet, wAsg, wDrop, wRet, wRetN, wBrk, wCont, wIf, wiL, wiT, wiR, wFor, wCall0, wCall, wCB, wM0, wM1, wNo, wPart, wSl, wYes, wLc, wipeD, wNeg, wTru, wFmt, wJoined, wJs, wRaise1, wStw, wiS, wAug, wiR2, wSt3, wFind, wApp, wNewL, wFrzL, Sl.OL, wRaiseF, rdCints, rdRep, wPE, wPT, wPS, wSeqX, wNextX, wSetX, wAsgX, wDropX, wRetX, wIfX, wBX, wNotX, wAndX, wOrX, wConsX, wNilX, wTupX, wOpX, wCallX, wRat, wRws, wRinc, wNewL1, wAppX, wFrzX, EndsX.at, rdCtuple, rdInT, rdTabIn, rdTab, wTruO, wLenO, rdSlT, rdRepL, wNameEnd, wgName, wgNil, wgCons, wgTup,
  Sl.V, D.I, D.B, D.S, D.L, D.T, D.K, D.len, D.tru, rdI, rdI0, rdLt, rdLe, rdGt, rdGe, rdEq, rdNe, eqS, rdIsN, rdNotN, rdAdd, rdIx, rdSl, rdInS, rdLen, rdOrd, rdAll, rdAny, rdIsi, rdFmt, rdJoin, rdCint, tyN, ρ0, List.map_cons, List.map_nil, List.length_cons, List.length_nil, List.replicate, List.append, List.cons_append, List.nil_append, List.getElem?_cons_zero, List.getElem?_cons_succ, List.set_cons_zero, List.set_cons_succ, Nat.add_sub_cancel, Nat.sub_self, Nat.zero_add, Nat.reduceAdd, Nat.reduceSub, if_true, if_false, true_and, and_true, decide_true, decide_false, true_or, or_true, ia_NoneType_bool, ia_NoneType_int, ia_NoneType_str, ia_NoneType_list, ia_NoneType_tuple, ia_NoneType_dict, ia_bool_bool, ia_bool_int, ia_bool_str, ia_bool_list, ia_bool_tuple, ia_bool_dict, ia_int_bool, ia_int_int, ia_int_str, ia_int_list, ia_int_tuple, ia_int_dict, ia_str_bool, ia_str_int, ia_str_str, ia_str_list, ia_str_tuple, ia_str_dict, ia_list_bool, ia_list_int, ia_list_str, ia_list_list, ia_list_tuple, ia_list_dict, ia_tuple_bool, ia_tuple_int, ia_tuple_str, ia_tuple_list, ia_tuple_tuple, ia_tuple_dict, ia_dict_bool, ia_dict_int, ia_dict_str, ia_dict_list, ia_dict_tuple, ia_dict_dict, inT_bool, inT_int, inT_str, inT_list, inT_tuple, inT_dict, Bool.false_xor, Bool.true_xor, Bool.not_eq_true, Bool.not_true, Bool.not_false, Bool.false_eq_true, ite_false, ite_true, reduceCtorEq])
local macro_rules | `(tactic| walk_at "dy") => `(tactic| simp only [wSB, wSB1, wVar, wC, wOp, wB, wNotT, wAndT, wOrT, wAndV, wOrV, wNotV, wIfE, wChain, wNil, wCons, wTup, wLst, wNext, wSeq, wSet, wAsg, wDrop, wRet, wRetN, wBrk, wCont, wIf, wiL, wiT, wiR, wFor, wCall0, wCall, wCB, wM0, wM1, wNo, wPart, wSl, wYes, wLc, wipeD, wNeg, wTru, wFmt, wJoined, wJs, wRaise1, wStw, wiS, wAug, wiR2, wSt3, wFind, wApp, wNewL, wFrzL, Sl.OL, wRaiseF, rdCints, rdRep, wPE, wPT, wPS, wSeqX, wNextX, wSetX, wAsgX, wDropX, wRetX, wIfX, wBX, wNotX, wAndX, wOrX, wConsX, wNilX, wTupX, wOpX, wCallX, wRat, wRws, wRinc, wNewL1, wAppX, wFrzX, EndsX.at, rdCtuple, rdInT, rdTabIn, rdTab, wTruO, wLenO, rdSlT, rdRepL, wNameEnd, wgName, wgNil, wgCons, wgTup,
  Sl.V, D.I, D.B, D.S, D.L, D.T, D.K, D.len, D.tru, rdI, rdI0, rdLt, rdLe, rdGt, rdGe, rdIsN, rdNotN, rdAdd, rdIx, rdSl, rdInS, rdLen, rdOrd, rdAll, rdAny, rdIsi, rdFmt, rdJoin, rdCint, tyN, ρ0, List.map_cons, List.map_nil, List.length_cons, List.length_nil, List.replicate, List.append, List.cons_append, List.nil_append, List.getElem?_cons_zero, List.getElem?_cons_succ, List.set_cons_zero, List.set_cons_succ, Nat.add_sub_cancel, Nat.sub_self, Nat.zero_add, Nat.reduceAdd, Nat.reduceSub, if_true, if_false, true_and, and_true, decide_true, decide_false, true_or, or_true, ia_NoneType_bool, ia_NoneType_int, ia_NoneType_str, ia_NoneType_list, ia_NoneType_tuple, ia_NoneType_dict, ia_bool_bool, ia_bool_int, ia_bool_str, ia_bool_list, ia_bool_tuple, ia_bool_dict, ia_int_bool, ia_int_int, ia_int_str, ia_int_list, ia_int_tuple, ia_int_dict, ia_str_bool, ia_str_int, ia_str_str, ia_str_list, ia_str_tuple, ia_str_dict, ia_list_bool, ia_list_int, ia_list_str, ia_list_list, ia_list_tuple, ia_list_dict, ia_tuple_bool, ia_tuple_int, ia_tuple_str, ia_tuple_list, ia_tuple_tuple, ia_tuple_dict, ia_dict_bool, ia_dict_int, ia_dict_str, ia_dict_list, ia_dict_tuple, ia_dict_dict, inT_bool, inT_int, inT_str, inT_list, inT_tuple, inT_dict, Bool.false_xor, Bool.true_xor, Bool.not_eq_true, Bool.not_true, Bool.not_false, Bool.false_eq_true, ite_false, ite_true, reduceCtorEq])
theorem see_ne {wl : List W3} {n : Nat} {k k' w w' : Str} (h : see wl n k w = true) (hw : w ≠ w') : see wl n k' w' = false := by
  unfold see at h ⊢
  have h2 := (Bool.and_eq_true_iff.mp h).2
  cases q : wd wl n with
  | str s =>
    rw [q] at h2
    have h2 : decide (s = w) = true := h2
    have e := of_decide_eq_true h2
    subst e
    show (_ && decide (s = w')) = false
    rw [decide_eq_false hw, Bool.and_false]
  | _ => rw [q] at h2; cases h2
structure Rel (wl : List W3) (close : Str) (p pP : Nat → RR) : Prop where
  rel : ∀ n, pP n = p n ∨ ∃ d n', pP n = .ok d n' ∧ p n = .bad n' ∧ see wl n' "sign" close = false ∧ p n' = .bad n' ∧ n < n' ∧ n' ≤ wl.length
theorem part_rel {wl : List W3} {S : Nat → RR} : Rel wl "}" (pPart wl S) (pPartP wl S) := ⟨fun n => by
  unfold pPart pPartP
  by_cases q : see wl n "sign" "..." = true
  · rw [if_pos q, if_pos q]; exact .inl rfl
  · rw [if_neg q, if_neg q]
    unfold pField pFieldP
    by_cases q1 : kd wl n = "name"
    · rw [if_pos q1, if_pos q1]
      by_cases q2 : see wl (n + 1) "sign" ":" = true
      · rw [if_pos q2]
        by_cases q3 : isS (wd wl n) "_type" = true
        · right
          rw [if_pos q3, if_neg (fun z => by rw [q3] at z; cases z.1)]
          have e1 : pArgs wl (n + 1) = .ok (.tup []) (n + 1) := by
            unfold pArgs
            rw [see_ne q2 (by decide), if_neg Bool.false_ne_true]
          have e2 : pConds wl (n + 1) = .ok (.tup []) (n + 1) := by
            unfold pConds condsF
            rw [see_ne q2 (by decide), if_neg Bool.false_ne_true]
          refine ⟨.tup [.str "field", wd wl n, wd wl n, .tup [], .tup [], .non], n + 1, ?_, rfl, see_ne q2 (by decide), ?_, by omega, by have := see_lt q2; omega⟩
          · unfold pTail
            rw [e1]
            show (pConds wl (n + 1)).bind _ = _
            rw [e2]
            show (if see wl (n + 1) "sign" "{" = true then _ else _) = _
            rw [see_ne q2 (by decide), if_neg Bool.false_ne_true]
          · rw [see_ne q2 (by decide), if_neg Bool.false_ne_true]
            rw [if_neg (by rw [see_kd q2]; decide)]
        · left
          rw [if_neg q3, if_pos ⟨by simpa using q3, q2⟩]
      · left
        rw [if_neg q2, if_neg (fun z => q2 z.2)]
    · left
      rw [if_neg q1, if_neg q1]⟩
theorem loop_prog2 {wl : List W3} {e : Int} {Q : D → Nat → Prop} {E : Exn → Prop} {p pP : Nat → RR} {b : Nat} {close : Str} {w : WTx} {B : WSx} {d : EndsX} {mkρ : List D → En} (G : GoodW wl e) (hp : ∀ n, Fin wl b (n + 1) (p n)) (hr : Rel wl close p pP)
    (hw : ∀ acc n (K : Bool → Nat → Prop), n ≤ wl.length → (if see wl n "sign" close = true then K false (n + 1) else K true n) → w (mkρ acc) n K)
    (hB : ∀ acc n (N : En → Nat → Prop) d', d'.nx = N → n ≤ wl.length → see wl n "sign" close = false → acc.length ≤ 100000 → outR wl e (pP n) (fun v n' => N (mkρ (acc ++ [v])) n') E → B d' (mkρ acc) n)
    (hd : ∀ acc n, Q (.tup acc) n → d.nx (mkρ acc) n) :
    ∀ (f n : Nat) (acc : List D), wl.length - n < f → n ≤ wl.length → acc.length ≤ n → outR wl e (if see wl n "sign" close = true then .ok (.tup acc) (n + 1) else loopF wl p close f n acc) Q E → wWhileX w B d (mkρ acc) n := by
  intro f n acc hf hn hac hk
  have hlen := G.len
  refine whx_rule (fun m ρ n => ∃ (f : Nat) (acc : List D), ρ = mkρ acc ∧ m = wl.length + 1 - n ∧ n ≤ wl.length ∧ wl.length - n < f ∧ acc.length ≤ n ∧ outR wl e (if see wl n "sign" close = true then .ok (.tup acc) (n + 1) else loopF wl p close f n acc) Q E) ?_ (m := wl.length + 1 - n) ⟨f, acc, rfl, rfl, hn, hf, hac, hk⟩
  rintro m ρ n N ⟨f, acc, rfl, rfl, hn, hf, hac, hk⟩ ih
  refine hw acc n _ hn ?_
  cases q : see wl n "sign" close with
  | true =>
    rw [if_pos q] at hk
    rw [if_pos rfl, if_neg Bool.false_ne_true]
    exact hd acc (n + 1) hk
  | false =>
    rw [if_neg (by rw [q]; exact Bool.false_ne_true)] at hk
    rw [if_neg Bool.false_ne_true, if_pos rfl]
    refine hB acc n N _ rfl hn q (by omega) ?_
    cases f with
    | zero => omega
    | succ f =>
      unfold loopF at hk
      have F := hp n
      rcases hr.rel n with e1 | ⟨v, n', e1, e2, e3, e4, h1, h2⟩
      · rw [e1]
        cases q2 : p n with
        | bad m => rw [q2] at hk; exact hk
        | ok v n' =>
          rw [q2] at hk F
          have h1 := F.2.1
          have h2 := F.2.2
          exact ih (wl.length + 1 - n') _ n' (by omega) ⟨f, acc ++ [v], rfl, rfl, h2, by omega, by rw [List.length_append]; simp only [List.length_cons, List.length_nil]; omega, hk⟩
      · rw [e1]
        rw [e2] at hk
        refine ih (wl.length + 1 - n') _ n' (by omega) ⟨f, acc ++ [v], rfl, rfl, h2, by omega, by rw [List.length_append]; simp only [List.length_cons, List.length_nil]; omega, ?_⟩
        rw [if_neg (by rw [e3]; exact Bool.false_ne_true)]
        cases f with
        | zero => omega
        | succ f =>
          unfold loopF
          rw [e4]
          exact hk
theorem loop_first2 {wl : List W3} {e : Int} {p pP : Nat → RR} {close : Str} {n : Nat} {Q : D → Nat → Prop} {E : Exn → Prop} {f : Nat} (hr : Rel wl close p pP) (h : outR wl e (loopF wl p close (f + 2) n []) Q E) {Q' : D → Nat → Prop} {b : Nat} (hp : ∀ n, Fin wl b (n + 1) (p n)) (hq : ∀ v n', n < n' → n' ≤ wl.length → outR wl e (if see wl n' "sign" close = true then .ok (.tup [v]) (n' + 1) else loopF wl p close (f + 1) n' [v]) Q E → Q' v n') : outR wl e (pP n) Q' E := by
  unfold loopF at h
  have F := hp n
  rcases hr.rel n with e1 | ⟨v, n', e1, e2, e3, e4, h1, h2⟩
  · rw [e1]
    cases q : p n with
    | bad m => rw [q] at h; exact h
    | ok v n' =>
      rw [q] at h F
      exact hq v n' F.2.1 F.2.2 h
  · rw [e1]
    rw [e2] at h
    refine hq v n' h1 h2 ?_
    rw [if_neg (by rw [e3]; exact Bool.false_ne_true)]
    unfold loopF
    rw [e4]
    exact h
theorem hw_read_selection {m : Nat} : ∀ x ws ds n Q E, sp_read_selection m ws ds n Q E → W_read_selection m x ws E (eX Q) (ρ0 (["reader", "depth", "parts"] : List Str).length (.rf x :: ds)) n := by
  rintro x ws ds n Q E ⟨wl, e, rfl, G, hn, rfl, hm, h⟩
  unfold W_read_selection
  walk_at "dx"
  cases m with
  | zero =>
    rw [decide_eq_true (by omega)]
    walk_at "dx"
    exact ⟨wl, e, rfl, G, hn, rfl, h⟩
  | succ m =>
    rw [decide_eq_false (by omega)]
    walk_at "dx"
    refine ⟨wl, e, rfl, G, hn, _, _, rfl, by decide +kernel, by decide +kernel, by decide, ?_⟩
    unfold pSel at h
    by_cases q : see wl n "sign" "{" = true
    · rw [if_pos q] at h ⊢
      have hl := see_lt q
      have hlen := G.len
      have ed : [D.int (11 - ((m + 1 : Nat) : Int))] = [D.int (10 - (m : Int))] := by congr 2; omega
      walk_at "dx"
      rw [ed]
      refine ⟨wl, e, rfl, G, hl, rfl, ?_⟩
      obtain ⟨L, hL⟩ : ∃ L, wl.length = L + 1 := ⟨wl.length - 1, by omega⟩
      rw [show wl.length + 1 = L + 2 by omega] at h
      refine loop_first2 part_rel h (fin_part G (fin_sel G m) (by omega)) fun v n' h1 h2 h => ?_
      rw [show L + 1 = wl.length by omega] at h
      refine loop_prog2 (mkρ := fun acc => [.val (.rf x), .val (.int (11 - ((m + 1 : Nat) : Int))), .ol acc]) G (fin_part G (fin_sel G m) (by omega)) part_rel (Q := Q) (E := E) ?_ ?_ ?_ wl.length n' [v] (by omega) h2 (by show 1 ≤ n'; omega) h
      · intro acc n K hn hK
        walk_at "dx"
        refine ⟨wl, e, rfl, G, hn, _, _, rfl, by decide +kernel, by decide +kernel, by decide, ?_⟩
        by_cases q3 : see wl n "sign" "}" = true
        · rw [if_pos q3] at hK ⊢
          exact hK
        · rw [if_neg q3] at hK ⊢
          exact hK
      · intro acc n N d' hd hn hs ha hk
        unfold W_read_selection_b1
        walk_at "dx"
        rw [ed]
        refine ⟨wl, e, rfl, G, hn, rfl, ?_⟩
        cases q3 : pPartP wl (pSel wl m) n with
        | bad m => rw [q3] at hk; exact hk
        | ok v n' => rw [q3] at hk; rw [hd]; exact ⟨ha, hk⟩
      · intro acc n hq
        walk_at "dx"
        exact hq
    · rw [if_neg q] at h ⊢
      exact h
theorem len_read_fragment {ws ds : List D} {n : Nat} {Q : D → Nat → Prop} {E : Exn → Prop} (h : sp_read_fragment ws ds n Q E) : ds.length + 1 = (["reader"] : List Str).length := spP_len h
theorem hw_read_fragment : ∀ x ws ds n Q E, sp_read_fragment ws ds n Q E → W_read_fragment x ws E (eX Q) (ρ0 (["reader", "name", "type_name"] : List Str).length (.rf x :: ds)) n := by
  rintro x ws ds n Q E ⟨wl, e, rfl, G, hn, rfl, h⟩
  unfold W_read_fragment
  walk_at "dx"
  unfold pFrag at h
  refine ⟨wl, e, rfl, G, hn, _, _, rfl, by decide +kernel, by decide +kernel, by decide, ?_⟩
  by_cases q : see wl n "name" "fragment" = true
  · rw [if_pos q] at h ⊢
    have hl := see_lt q
    walk_at "dx"
    refine ⟨wl, e, rfl, G, hl, _, _, rfl, by decide +kernel, by decide +kernel, ?_⟩
    have eo : plainAt wl (n + 1) = true → see wl (n + 1) "name" "on" = isS (wd wl (n + 1)) "on" := fun z => by
      unfold plainAt at z
      unfold see
      rw [(Bool.and_eq_true_iff.mp z).1, Bool.true_and]
    by_cases q1 : see wl (n + 1) "name" "on" = true
    · rw [q1]
      walk_at "dx"
      rw [if_neg (fun z => by rw [← eo z.1, q1] at z; cases z.2)] at h
      exact ⟨wl, e, rfl, G, hl, rfl, h⟩
    · rw [Bool.not_eq_true] at q1
      rw [q1]
      walk_at "dx"
      refine ⟨wl, e, rfl, G, hl, rfl, ?_⟩
      by_cases q2 : plainAt wl (n + 1) = true
      · rw [if_pos ⟨q2, by rw [← eo q2]; exact q1⟩] at h
        rw [if_pos q2]
        refine ⟨wl, e, rfl, G, plain_lt q2, _, _, rfl, by decide +kernel, by decide +kernel, by decide, ?_⟩
        by_cases q3 : see wl (n + 2) "name" "on" = true
        · rw [if_pos q3] at h ⊢
          walk_at "dx"
          refine ⟨wl, e, rfl, G, see_lt q3, rfl, ?_⟩
          by_cases q4 : plainAt wl (n + 3) = true
          · rw [if_pos q4] at h ⊢
            refine ⟨wl, e, rfl, G, plain_lt q4, rfl, by decide, ?_⟩
            exact outR_bind (fin_sel G 10 (n + 4)) h fun d n' _ _ _ h => ⟨by show 3 ≤ 100000; decide, h⟩
          · rw [if_neg q4] at h ⊢
            exact h
        · rw [if_neg q3] at h ⊢
          exact h
      · rw [if_neg (fun z => q2 z.1)] at h
        rw [if_neg q2]
        exact h
  · rw [if_neg q] at h ⊢
    exact h
theorem len_read_fragments {ws ds : List D} {n : Nat} {Q : D → Nat → Prop} {E : Exn → Prop} (h : sp_read_fragments ws ds n Q E) : ds.length + 1 = (["reader"] : List Str).length := spP_len h
theorem hw_read_fragments : ∀ x ws ds n Q E, sp_read_fragments ws ds n Q E → W_read_fragments x ws E (eX Q) (ρ0 (["reader", "found"] : List Str).length (.rf x :: ds)) n := by
  rintro x ws ds n Q E ⟨wl, e, rfl, G, hn, rfl, h⟩
  unfold W_read_fragments
  walk_at "dx"
  have hlen := G.len
  refine whx_rule (fun m ρ n => ∃ (f : Nat) (acc : List D), ρ = [.val (.rf x), .ol acc] ∧ m = wl.length + 1 - n ∧ n ≤ wl.length ∧ wl.length - n < f ∧ acc.length ≤ 10 ∧ outR wl e (fragsF wl f n acc) Q E) ?_ (m := wl.length + 1 - n) ⟨wl.length + 1, [], rfl, rfl, hn, by omega, Nat.zero_le _, h⟩
  rintro m ρ n N ⟨f, acc, rfl, rfl, hn, hf, hac, hk⟩ ih
  walk_at "dx"
  refine ⟨wl, e, rfl, G, hn, _, _, rfl, by decide +kernel, by decide +kernel, ?_⟩
  rw [sees_end G]
  walk_at "dx"
  cases f with
  | zero => omega
  | succ f =>
    unfold fragsF at hk
    by_cases q : n < wl.length
    · rw [if_pos q] at hk
      rw [decide_eq_false (by omega)]
      walk_at "dx"
      unfold W_read_fragments_b1
      walk_at "dx"
      by_cases q1 : acc.length = 10
      · rw [if_pos q1] at hk
        rw [decide_eq_true (by omega)]
        walk_at "dx"
        exact ⟨wl, e, rfl, G, hn, rfl, hk⟩
      · rw [if_neg q1] at hk
        rw [decide_eq_false (by omega)]
        walk_at "dx"
        refine ⟨wl, e, rfl, G, hn, rfl, ?_⟩
        have F := fin_frag G n
        cases q2 : pFrag wl n with
        | bad m => rw [q2] at hk; exact hk
        | ok d n' =>
          rw [q2] at hk F
          have h1 := F.2.1
          have h2 := F.2.2
          exact ⟨by omega, ih (wl.length + 1 - n') _ n' (by omega) ⟨f, acc ++ [d], rfl, rfl, h2, by omega, by rw [List.length_append]; simp only [List.length_cons, List.length_nil]; omega, hk⟩⟩
    · rw [if_neg q] at hk
      rw [decide_eq_true (by omega)]
      walk_at "dx"
      exact hk
end K5
set_option Elab.async false
set_option linter.all false
set_option maxRecDepth 100000
set_option maxHeartbeats 4000000
namespace K5
open PySem L2 Dl
local macro_rules | `(tactic| walk_at "dx") => `(tactic| simp only [wSB, wSB1, wVar, wC, wOp, wB, wNotT, wAndT, wOrT, wAndV, wOrV, wNotV, wIfE, wChain, wNil, wCons, wTup, wLst, wNext, wSeq, wSet, wAsg, wDrop, wRet, wRetN, wBrk, wCont, wIf, wiL, wiT, wiR, wFor, wCall0, wCall, wCB, wM0, wM1, wNo, wPart, wSl, wYes, wLc, wipeD, wNeg, wTru, wFmt, wJoined, wJs, wRaise1, wStw, wiS, wAug, wiR2, wSt3, wFind, wApp, wNewL, wFrzL, Sl.OL, wRaiseF, rdCints, rdRep, wPE, wPT, wPS, wSeqX, wNextX, wSetX, wAsgX, wDropX, wRetX, wIfX, wBX, wNotX, wAndX, wOrX, wConsX, wNilX, wTupX, wOpX, wCallX, wRat, wRws, wRinc, wNewL1, wAppX, wFrzX, EndsX.at, rdCtuple, rdInT, rdTabIn, rdTab, wTruO, wLenO, rdSlT, rdRepL, wNameEnd, wgName, wgNil, wgCons, wgTup,
  Sl.V, D.I, D.B, D.S, D.L, D.T, D.K, D.len, D.tru, rdI, rdI0, rdLt, rdLe, rdGt, rdGe, rdEq, rdNe, eqS, rdIsN, rdNotN, rdAdd, rdIx, rdSl, rdInS, rdLen, rdOrd, rdAll, rdAny, rdIsi, rdFmt, rdJoin, rdCint, tyN, ρ0, List.map_cons, List.map_nil, List.length_cons, List.length_nil, List.replicate, List.append, List.cons_append, List.nil_append, List.getElem?_cons_zero, List.getElem?_cons_succ, List.set_cons_zero, List.set_cons_succ, Nat.add_sub_cancel, Nat.sub_self, Nat.zero_add, Nat.reduceAdd, Nat.reduceSub, if_true, if_false, true_and, and_true, decide_true, decide_false, true_or, or_true, ia_NoneType_bool, ia_NoneType_int, ia_NoneType_str, ia_NoneType_list, ia_NoneType_tuple, ia_NoneType_dict, ia_bool_bool, ia_bool_int, ia_bool_str, ia_bool_list, ia_bool_tuple, ia_bool_dict, ia_int_bool, ia_int_int, ia_int_str, ia_int_list, ia_int_tuple, ia_int_dict, ia_str_bool, ia_str_int, ia_str_str, ia_str_list, ia_str_tuple, ia_str_dict, ia_list_bool, ia_list_int, ia_list_str, ia_list_list, ia_list_tuple, ia_list_dict, ia_tuple_bool, ia_tuple_int, ia_tuple_str, ia_tuple_list, ia_tuple_tuple, ia_tuple_dict, ia_dict_bool, ia_dict_int, ia_dict_str, ia_dict_list, ia_dict_tuple, ia_dict_dict, inT_bool, inT_int, inT_str, inT_list, inT_tuple, inT_dict, Bool.false_xor, Bool.true_xor, Bool.not_eq_true, Bool.not_true, Bool.not_false, Bool.false_eq_true, ite_false, ite_true, reduceCtorEq])
local macro_rules | `(tactic| walk_at "dy") => `(tactic| simp only [wSB, wSB1, wVar, wC, wOp, wB, wNotT, wAndT, wOrT, wAndV, wOrV, wNotV, wIfE, wChain, wNil, wCons, wTup, wLst, wNext, wSeq, wSet, wAsg, wDrop, wRet, wRetN, wBrk, wCont, wIf, wiL, wiT, wiR, wFor, wCall0, wCall, wCB, wM0, wM1, wNo, wPart, wSl, wYes, wLc, wipeD, wNeg, wTru, wFmt, wJoined, wJs, wRaise1, wStw, wiS, wAug, wiR2, wSt3, wFind, wApp, wNewL, wFrzL, Sl.OL, wRaiseF, rdCints, rdRep, wPE, wPT, wPS, wSeqX, wNextX, wSetX, wAsgX, wDropX, wRetX, wIfX, wBX, wNotX, wAndX, wOrX, wConsX, wNilX, wTupX, wOpX, wCallX, wRat, wRws, wRinc, wNewL1, wAppX, wFrzX, EndsX.at, rdCtuple, rdInT, rdTabIn, rdTab, wTruO, wLenO, rdSlT, rdRepL, wNameEnd, wgName, wgNil, wgCons, wgTup,
  Sl.V, D.I, D.B, D.S, D.L, D.T, D.K, D.len, D.tru, rdI, rdI0, rdLt, rdLe, rdGt, rdGe, rdIsN, rdNotN, rdAdd, rdIx, rdSl, rdInS, rdLen, rdOrd, rdAll, rdAny, rdIsi, rdFmt, rdJoin, rdCint, tyN, ρ0, List.map_cons, List.map_nil, List.length_cons, List.length_nil, List.replicate, List.append, List.cons_append, List.nil_append, List.getElem?_cons_zero, List.getElem?_cons_succ, List.set_cons_zero, List.set_cons_succ, Nat.add_sub_cancel, Nat.sub_self, Nat.zero_add, Nat.reduceAdd, Nat.reduceSub, if_true, if_false, true_and, and_true, decide_true, decide_false, true_or, or_true, ia_NoneType_bool, ia_NoneType_int, ia_NoneType_str, ia_NoneType_list, ia_NoneType_tuple, ia_NoneType_dict, ia_bool_bool, ia_bool_int, ia_bool_str, ia_bool_list, ia_bool_tuple, ia_bool_dict, ia_int_bool, ia_int_int, ia_int_str, ia_int_list, ia_int_tuple, ia_int_dict, ia_str_bool, ia_str_int, ia_str_str, ia_str_list, ia_str_tuple, ia_str_dict, ia_list_bool, ia_list_int, ia_list_str, ia_list_list, ia_list_tuple, ia_list_dict, ia_tuple_bool, ia_tuple_int, ia_tuple_str, ia_tuple_list, ia_tuple_tuple, ia_tuple_dict, ia_dict_bool, ia_dict_int, ia_dict_str, ia_dict_list, ia_dict_tuple, ia_dict_dict, inT_bool, inT_int, inT_str, inT_list, inT_tuple, inT_dict, Bool.false_xor, Bool.true_xor, Bool.not_eq_true, Bool.not_true, Bool.not_false, Bool.false_eq_true, ite_false, ite_true, reduceCtorEq])
theorem mapw_len (wl : List W3) : (wl.map encW).length = wl.length := List.length_map _
theorem atW (wl : List W3) {n : Nat} (h : n < wl.length) : atI (wl.map encW) (n : Int) = some (.tup [.int (pl wl 0 n), .str (kd wl n), wd wl n]) := atI_nat (wl_at wl h)
theorem cut3 (a b c : D) : cutD [a, b, c] (some 1) none = [b, c] := rfl
theorem kd_out {wl : List W3} {n : Nat} (h : ¬ n < wl.length) : kd wl n = "end" := by
  unfold kd
  rw [List.getElem?_eq_none_iff.mpr (by omega)]
theorem see_out {wl : List W3} {n : Nat} {k w : Str} (h : ¬ n < wl.length) (hk : k ≠ "end") : see wl n k w = false := by
  unfold see
  rw [kd_out h, decide_eq_false (fun z => hk z.symm)]
  rfl
theorem len_l_is {ds : List D} {Q : D → Prop} {E : Exn → Prop} (h : sp_l_is ds Q E) : ds.length = (["words", "at", "kind", "word"] : List Str).length := by
  obtain ⟨wl, e, n, k, w, rfl, _⟩ := h
  rfl
theorem hw_l_is : ∀ ds Q E, sp_l_is ds Q E → W_l_is { nx := fun _ => Q .non, rt := Q } (ρ0 (["words", "at", "kind", "word"] : List Str).length ds) := by
  rintro ds Q E ⟨wl, e, n, k, w, rfl, G, hk, ok, ow, h⟩
  unfold W_l_is
  walk_at "dy"
  rw [mapw_len]
  by_cases hl : n < wl.length
  · rw [decide_eq_true (by omega)]
    walk_at "dy"
    rw [atW wl hl]
    walk_at "dy"
    rw [cut3]
    refine ⟨by decide, ?_⟩
    unfold rdEq
    show ((D.tup [D.str (kd wl n), wd wl n]).ok ∧ (D.tup [D.str k, D.str w]).ok) ∧ Q (D.bl (deq (.tup [.str (kd wl n), wd wl n]) (.tup [.str k, .str w])))
    rw [deq_kw (wd_wordy G n)]
    exact ⟨⟨kw_ok (kd_ok G n) (wd_wordy G n), kw_ok ok (.inr ⟨w, rfl, ow⟩)⟩, h⟩
  · rw [decide_eq_false (by omega)]
    walk_at "dy"
    rw [see_out hl hk] at h
    exact h
theorem len_l_kind_at {ds : List D} {Q : D → Prop} {E : Exn → Prop} (h : sp_l_kind_at ds Q E) : ds.length = (["words", "at", "kind"] : List Str).length := by
  obtain ⟨wl, e, n, k, rfl, _⟩ := h
  rfl
theorem at3_1' (a b c : D) : atI [a, b, c] 1 = some b := rfl
theorem at3_2' (a b c : D) : atI [a, b, c] 2 = some c := rfl
theorem at3_0' (a b c : D) : atI [a, b, c] 0 = some a := rfl
theorem hw_l_kind_at : ∀ ds Q E, sp_l_kind_at ds Q E → W_l_kind_at { nx := fun _ => Q .non, rt := Q } (ρ0 (["words", "at", "kind"] : List Str).length ds) := by
  rintro ds Q E ⟨wl, e, n, k, rfl, G, hk, h⟩
  unfold W_l_kind_at
  walk_at "dx"
  rw [mapw_len]
  by_cases hl : n < wl.length
  · rw [decide_eq_true (by omega)]
    walk_at "dx"
    rw [atW wl hl]
    walk_at "dx"
    rw [at3_1']
    walk_at "dx"
    exact h
  · rw [decide_eq_false (by omega)]
    walk_at "dx"
    rw [kd_out hl, decide_eq_false (fun z => hk z.symm)] at h
    exact h
theorem spL_len {p : List W3 → Nat → D} {ds : List D} {Q : D → Prop} {E : Exn → Prop} (h : spL p ds Q E) : ds.length = (["words", "at"] : List Str).length := by
  obtain ⟨wl, e, n, rfl, _⟩ := h
  rfl
theorem spLe_len {p : List W3 → Nat → D} {ds : List D} {Q : D → Prop} {E : Exn → Prop} (h : spLe p ds Q E) : ds.length = (["words", "at"] : List Str).length := by
  obtain ⟨wl, e, n, rfl, _⟩ := h
  rfl
theorem len_l_plain_at {ds : List D} {Q : D → Prop} {E : Exn → Prop} (h : sp_l_plain_at ds Q E) : ds.length = (["words", "at"] : List Str).length := spL_len h
theorem hw_l_plain_at : ∀ ds Q E, sp_l_plain_at ds Q E → W_l_plain_at { nx := fun _ => Q .non, rt := Q } (ρ0 (["words", "at"] : List Str).length ds) := by
  rintro ds Q E ⟨wl, e, n, rfl, G, hn, h⟩
  unfold W_l_plain_at
  walk_at "dx"
  refine ⟨wl, e, n, _, rfl, G, by decide, ?_⟩
  unfold plainAt at h
  dsimp only at h
  by_cases q : kd wl n = "name"
  · rw [decide_eq_true q] at h ⊢
    walk_at "dx"
    rw [atW wl (kd_lt q (by decide))]
    walk_at "dx"
    rw [at3_2']
    walk_at "dx"
    obtain ⟨s, hs⟩ := wd_str G (n := n) (by rw [q]; decide)
    rw [hs] at h ⊢
    walk_at "dx"
    rw [Bool.true_and] at h
    exact h
  · rw [decide_eq_false q] at h ⊢
    walk_at "dx"
    exact h
theorem len_l_constant {ds : List D} {Q : D → Prop} {E : Exn → Prop} (h : sp_l_constant ds Q E) : ds.length = (["words", "at"] : List Str).length := spL_len h
abbrev tabK : List (Key × D) := [(.inr "true", D.tup [.str "truth", .bl true]), (.inr "false", D.tup [.str "truth", .bl false]), (.inr "null", D.tup [.str "null"])]
theorem tabK_get (s : Str) : getT tabK (.inr s) = constT.lookup s := by
  unfold getT constT
  simp only [List.find?_cons, List.find?_nil, List.lookup]
  by_cases h1 : s = "true"
  · subst h1; rfl
  · have e1 : (decide ((Sum.inr "true" : Key) = Sum.inr s)) = false := decide_eq_false fun z => h1 (by injection z with z; exact z.symm)
    have b1 : (s == ("true" : Str)) = false := beq_eq_false_iff_ne.mpr h1
    rw [e1, b1]
    by_cases h2 : s = "false"
    · subst h2; rfl
    · have e2 : (decide ((Sum.inr "false" : Key) = Sum.inr s)) = false := decide_eq_false fun z => h2 (by injection z with z; exact z.symm)
      have b2 : (s == ("false" : Str)) = false := beq_eq_false_iff_ne.mpr h2
      simp only [e2, b2]
      by_cases h3 : s = "null"
      · subst h3; rfl
      · have e3 : (decide ((Sum.inr "null" : Key) = Sum.inr s)) = false := decide_eq_false fun z => h3 (by injection z with z; exact z.symm)
        have b3 : (s == ("null" : Str)) = false := beq_eq_false_iff_ne.mpr h3
        simp only [e3, b3]
        rfl
theorem putAll_tab : putAll [] [(.inr "true", D.tup [.str "truth", .bl true]), (.inr "false", D.tup [.str "truth", .bl false]), (.inr "null", D.tup [.str "null"])] = tabK := by
  rfl
theorem hw_l_constant : ∀ ds Q E, sp_l_constant ds Q E → W_l_constant { nx := fun _ => Q .non, rt := Q } (ρ0 (["words", "at", "table"] : List Str).length ds) := by
  rintro ds Q E ⟨wl, e, n, rfl, G, hn, h⟩
  unfold W_l_constant wDisp
  simp only [wPairs]
  walk_at "dx"
  rw [putAll_tab]
  refine ⟨by decide, by decide, by decide, wl, e, n, _, rfl, G, by decide, ?_⟩
  unfold pConst at h
  dsimp only at h
  have ret : n < wl.length → (match atI (wl.map encW) (n : Int) with
      | some d => True
      | none => False) := fun hl => by rw [atW wl hl]; trivial
  by_cases q1 : kd wl n = "number"
  · rw [if_pos (.inl q1)] at h
    rw [decide_eq_true q1]
    walk_at "dx"
    rw [atW wl (kd_lt q1 (by decide))]
    walk_at "dx"
    rw [at3_1', at3_2']
    walk_at "dx"
    exact ⟨by decide, by decide, h⟩
  · rw [decide_eq_false q1]
    walk_at "dx"
    refine ⟨wl, e, n, _, rfl, G, by decide, ?_⟩
    by_cases q2 : kd wl n = "text"
    · rw [if_pos (.inr q2)] at h
      rw [decide_eq_true q2]
      walk_at "dx"
      rw [atW wl (kd_lt q2 (by decide))]
      walk_at "dx"
      rw [at3_1', at3_2']
      walk_at "dx"
      exact ⟨by decide, by decide, h⟩
    · rw [if_neg (by rintro (z | z); exact q1 z; exact q2 z)] at h
      rw [decide_eq_false q2]
      walk_at "dx"
      refine ⟨wl, e, n, _, rfl, G, by decide, ?_⟩
      by_cases q3 : kd wl n = "name"
      · rw [if_pos q3] at h
        rw [decide_eq_true q3]
        walk_at "dx"
        rw [atW wl (kd_lt q3 (by decide))]
        walk_at "dx"
        rw [at3_2']
        walk_at "dx"
        obtain ⟨s, hs⟩ := wd_str G (n := n) (by rw [q3]; decide)
        rw [hs] at h ⊢
        have hlk : look (.str s) = constT.lookup s := rfl
        rw [hlk] at h
        simp only [rdDIn, rdDGet, D.K, D.key]
        refine ⟨_, rfl, ?_⟩
        rw [tabK_get]
        cases q4 : constT.lookup s with
        | none =>
          rw [q4] at h
          simp only [Option.isSome]
          walk_at "dx"
          exact ⟨by decide, h⟩
        | some v =>
          rw [q4] at h
          simp only [Option.isSome]
          walk_at "dx"
          refine ⟨_, v, rfl, by rw [tabK_get]; exact q4, by decide, h⟩
      · rw [if_neg q3] at h
        rw [decide_eq_false q3]
        walk_at "dx"
        exact ⟨by decide, h⟩
theorem len_l_value_at {ds : List D} {Q : D → Prop} {E : Exn → Prop} (h : sp_l_value_at ds Q E) : ds.length = (["words", "at"] : List Str).length := spL_len h
theorem hw_l_value_at : ∀ ds Q E, sp_l_value_at ds Q E → W_l_value_at { nx := fun _ => Q .non, rt := Q } (ρ0 (["words", "at"] : List Str).length ds) := by
  rintro ds Q E ⟨wl, e, n, rfl, G, hn, h⟩
  unfold W_l_value_at
  walk_at "dx"
  refine ⟨wl, e, n, _, rfl, G, by decide, ?_⟩
  unfold pVal at h
  dsimp only at h
  by_cases q : kd wl n = "variable"
  · rw [if_pos q] at h
    rw [decide_eq_true q]
    walk_at "dx"
    rw [atW wl (kd_lt q (by decide))]
    walk_at "dx"
    rw [at3_2']
    walk_at "dx"
    exact ⟨by decide, by decide, h⟩
  · rw [if_neg q] at h
    rw [decide_eq_false q]
    walk_at "dx"
    exact ⟨wl, e, n, rfl, G, hn, h⟩
end K5
set_option Elab.async false
set_option linter.all false
set_option maxRecDepth 100000
set_option maxHeartbeats 4000000
namespace K5
open PySem L2 Dl
theorem dob : decide (("ok" : Str) = "bad") = false := by decide
theorem dbb : decide (("bad" : Str) = "bad") = true := by decide
local macro_rules | `(tactic| walk_at "dx") => `(tactic| simp only [wSB, wSB1, wVar, wC, wOp, wB, wNotT, wAndT, wOrT, wAndV, wOrV, wNotV, wIfE, wChain, wNil, wCons, wTup, wLst, wNext, wSeq, wSet, wAsg, wDrop, wRet, wRetN, wBrk, wCont, wIf, wiL, wiT, wiR, wFor, wCall0, wCall, wCB, wM0, wM1, wNo, wPart, wSl, wYes, wLc, wipeD, wNeg, wTru, wFmt, wJoined, wJs, wRaise1, wStw, wiS, wAug, wiR2, wSt3, wFind, wApp, wNewL, wFrzL, Sl.OL, wRaiseF, rdCints, rdRep, wPE, wPT, wPS, wSeqX, wNextX, wSetX, wAsgX, wDropX, wRetX, wIfX, wBX, wNotX, wAndX, wOrX, wConsX, wNilX, wTupX, wOpX, wCallX, wRat, wRws, wRinc, wNewL1, wAppX, wFrzX, EndsX.at, rdCtuple, rdInT, rdTabIn, rdTab, wTruO, wLenO, rdSlT, rdRepL, wNameEnd, wgName, wgNil, wgCons, wgTup,
  Sl.V, D.I, D.B, D.S, D.L, D.T, D.K, D.len, D.tru, rdI, rdI0, rdLt, rdLe, rdGt, rdGe, rdEq, rdNe, eqS, rdIsN, rdNotN, rdAdd, rdIx, rdSl, rdInS, rdLen, rdOrd, rdAll, rdAny, rdIsi, rdFmt, rdJoin, rdCint, tyN, ρ0, List.map_cons, List.map_nil, List.length_cons, List.length_nil, List.replicate, List.append, List.cons_append, List.nil_append, List.getElem?_cons_zero, List.getElem?_cons_succ, List.set_cons_zero, List.set_cons_succ, Nat.add_sub_cancel, Nat.sub_self, Nat.zero_add, Nat.reduceAdd, Nat.reduceSub, if_true, if_false, true_and, and_true, decide_true, decide_false, true_or, or_true, ia_NoneType_bool, ia_NoneType_int, ia_NoneType_str, ia_NoneType_list, ia_NoneType_tuple, ia_NoneType_dict, ia_bool_bool, ia_bool_int, ia_bool_str, ia_bool_list, ia_bool_tuple, ia_bool_dict, ia_int_bool, ia_int_int, ia_int_str, ia_int_list, ia_int_tuple, ia_int_dict, ia_str_bool, ia_str_int, ia_str_str, ia_str_list, ia_str_tuple, ia_str_dict, ia_list_bool, ia_list_int, ia_list_str, ia_list_list, ia_list_tuple, ia_list_dict, ia_tuple_bool, ia_tuple_int, ia_tuple_str, ia_tuple_list, ia_tuple_tuple, ia_tuple_dict, ia_dict_bool, ia_dict_int, ia_dict_str, ia_dict_list, ia_dict_tuple, ia_dict_dict, inT_bool, inT_int, inT_str, inT_list, inT_tuple, inT_dict, Bool.false_xor, Bool.true_xor, Bool.not_eq_true, Bool.not_true, Bool.not_false, Bool.false_eq_true, ite_false, ite_true, reduceCtorEq])
local macro_rules | `(tactic| walk_at "dz") => `(tactic| simp only [wSB, wSB1, wVar, wC, wOp, wB, wNotT, wAndT, wOrT, wAndV, wOrV, wNotV, wIfE, wChain, wNil, wCons, wTup, wLst, wNext, wSeq, wSet, wAsg, wDrop, wRet, wRetN, wBrk, wCont, wIf, wiL, wiT, wiR, wFor, wCall0, wCall, wCB, wM0, wM1, wNo, wPart, wSl, wYes, wLc, wipeD, wNeg, wTru, wFmt, wJoined, wJs, wRaise1, wStw, wiS, wAug, wiR2, wSt3, wFind, wApp, wNewL, wFrzL, Sl.OL, wRaiseF, rdCints, rdRep, wPE, wPT, wPS, wSeqX, wNextX, wSetX, wAsgX, wDropX, wRetX, wIfX, wBX, wNotX, wAndX, wOrX, wConsX, wNilX, wTupX, wOpX, wCallX, wRat, wRws, wRinc, wNewL1, wAppX, wFrzX, EndsX.at, rdCtuple, rdInT, rdTabIn, rdTab, wTruO, wLenO, rdSlT, rdRepL, wNameEnd, wgName, wgNil, wgCons, wgTup,
  Sl.V, D.I, D.B, D.S, D.L, D.T, D.K, D.len, D.tru, rdI, rdI0, rdLt, rdLe, rdGt, rdGe, rdEq, rdNe, eqS, rdIsN, rdNotN, rdAdd, rdIx, rdSl, rdInS, rdLen, rdOrd, rdAll, rdAny, rdIsi, rdFmt, rdJoin, rdCint, tyN, ρ0, List.map_cons, List.map_nil, List.length_cons, List.length_nil, List.replicate, List.append, List.cons_append, List.nil_append, List.getElem?_cons_zero, List.getElem?_cons_succ, List.set_cons_zero, List.set_cons_succ, Nat.add_sub_cancel, Nat.sub_self, Nat.zero_add, Nat.reduceAdd, Nat.reduceSub, if_true, if_false, true_and, and_true, decide_true, decide_false, true_or, or_true, ia_NoneType_bool, ia_NoneType_int, ia_NoneType_str, ia_NoneType_list, ia_NoneType_tuple, ia_NoneType_dict, ia_bool_bool, ia_bool_int, ia_bool_str, ia_bool_list, ia_bool_tuple, ia_bool_dict, ia_int_bool, ia_int_int, ia_int_str, ia_int_list, ia_int_tuple, ia_int_dict, ia_str_bool, ia_str_int, ia_str_str, ia_str_list, ia_str_tuple, ia_str_dict, ia_list_bool, ia_list_int, ia_list_str, ia_list_list, ia_list_tuple, ia_list_dict, ia_tuple_bool, ia_tuple_int, ia_tuple_str, ia_tuple_list, ia_tuple_tuple, ia_tuple_dict, ia_dict_bool, ia_dict_int, ia_dict_str, ia_dict_list, ia_dict_tuple, ia_dict_dict, inT_bool, inT_int, inT_str, inT_list, inT_tuple, inT_dict, Bool.false_xor, Bool.true_xor, Bool.not_eq_true, Bool.not_true, Bool.not_false, Bool.false_eq_true, ite_false, ite_true, reduceCtorEq, at3_0', at3_1', at3_2', at2_0, at2_1, encR, dob, dbb])
theorem len_l_type_at {m : Nat} {ds : List D} {Q : D → Prop} {E : Exn → Prop} (h : sp_l_type_at m ds Q E) : ds.length = (["words", "at", "depth"] : List Str).length := by
  cases m with
  | zero => exact h.elim
  | succ m =>
    obtain ⟨wl, e, n, rfl, _⟩ := h
    rfl
theorem bang_ok {wl : List W3} {d : D} {n : Nat} : bang wl (.ok d n) = if see wl n "sign" "!" = true then .ok (.tup [.str "must", d]) (n + 1) else .ok d n := rfl
theorem sign_plain {wl : List W3} {n : Nat} {w : Str} (h : see wl n "sign" w = true) : plainAt wl n = false := by
  unfold plainAt
  rw [see_kd h]
  rfl
theorem nat1 (n : Nat) : ((n : Int) + 1) = ((n + 1 : Nat) : Int) := by omega
theorem nat2 (n : Nat) : ((n : Int) + 2) = ((n + 2 : Nat) : Int) := by omega
theorem nat3 (n : Nat) : ((n : Int) + 3) = ((n + 3 : Nat) : Int) := by omega
theorem nat4 (n : Nat) : ((n : Int) + 4) = ((n + 4 : Nat) : Int) := by omega
theorem hw_l_type_at {m : Nat} : ∀ ds Q E, sp_l_type_at (m + 1) ds Q E → W_l_type_at m { nx := fun _ => Q .non, rt := Q } (ρ0 (["words", "at", "depth", "inner", "kind"] : List Str).length ds) := by
  rintro ds Q E ⟨wl, e, n, rfl, G, hm, hn, h⟩
  unfold W_l_type_at
  walk_at "dz"
  refine ⟨wl, e, n, _, _, rfl, G, by decide, by decide +kernel, by decide +kernel, ?_⟩
  have hlen := G.len
  unfold pType at h
  by_cases q : see wl n "sign" "[" = true
  · rw [q]
    walk_at "dz"
    cases m with
    | zero =>
      rw [decide_eq_true (by omega)]
      unfold pBare pName at h
      rw [sign_plain q] at h
      walk_at "dz"
      exact ⟨by decide, h⟩
    | succ m =>
      rw [decide_eq_false (by omega)]
      walk_at "dz"
      unfold pBare at h
      rw [if_pos q] at h
      refine ⟨wl, e, n + 1, by rw [nat1, show (5 - ((m + 1 : Nat) : Int) + 1) = 5 - (m : Int) by omega], G, by omega, by have := see_lt q; omega, ?_⟩
      have F := fin_type G m (n + 1)
      cases q1 : pType wl m (n + 1) with
      | bad j =>
        rw [q1] at h
        walk_at "dz"
        exact h
      | ok d n' =>
        rw [q1] at h F
        have hn' : n' ≤ wl.length := F.2.2
        walk_at "dz"
        refine ⟨wl, e, n', _, _, rfl, G, by decide, by decide +kernel, by decide +kernel, ?_⟩
        by_cases q2 : see wl n' "sign" "]" = true
        · have h : Q (encR (bang wl (if see wl n' "sign" "]" = true then .ok (.tup [.str "list", d]) (n' + 1) else .bad n'))) := h
          rw [if_pos q2, bang_ok] at h
          rw [q2]
          walk_at "dz"
          refine ⟨by decide, wl, e, n' + 1, _, _, by rw [nat1], G, by decide, by decide +kernel, by decide +kernel, ?_⟩
          by_cases q3 : see wl (n' + 1) "sign" "!" = true
          · rw [if_pos q3] at h
            rw [q3]
            walk_at "dz"
            exact ⟨by decide, by decide, h⟩
          · rw [if_neg q3] at h
            rw [Bool.not_eq_true] at q3
            rw [q3]
            walk_at "dz"
            exact ⟨by decide, h⟩
        · have h : Q (encR (bang wl (if see wl n' "sign" "]" = true then .ok (.tup [.str "list", d]) (n' + 1) else .bad n'))) := h
          rw [if_neg q2] at h
          rw [Bool.not_eq_true] at q2
          rw [q2]
          walk_at "dz"
          exact ⟨by decide, h⟩
  · have hb : pBare wl m n = pName wl n := by
      cases m with
      | zero => unfold pBare; rfl
      | succ m => unfold pBare; rw [if_neg q]
    rw [hb] at h
    rw [Bool.not_eq_true] at q
    rw [q]
    walk_at "dz"
    refine ⟨wl, e, n, rfl, G, hn, ?_⟩
    unfold pName at h
    dsimp only
    by_cases q1 : plainAt wl n = true
    · rw [if_pos q1, bang_ok] at h
      rw [q1]
      have hl := plain_lt q1
      walk_at "dz"
      rw [atW wl hl]
      walk_at "dz"
      refine ⟨by decide, wl, e, n + 1, _, _, by rw [nat1], G, by decide, by decide +kernel, by decide +kernel, ?_⟩
      by_cases q3 : see wl (n + 1) "sign" "!" = true
      · rw [if_pos q3] at h
        rw [q3]
        walk_at "dz"
        exact ⟨by decide, by decide, h⟩
      · rw [if_neg q3] at h
        rw [Bool.not_eq_true] at q3
        rw [q3]
        walk_at "dz"
        exact ⟨by decide, h⟩
    · rw [if_neg q1] at h
      rw [Bool.not_eq_true] at q1
      rw [q1]
      walk_at "dz"
      exact ⟨by decide, h⟩
end K5
set_option Elab.async false
set_option linter.all false
set_option maxRecDepth 100000
set_option maxHeartbeats 4000000
namespace K5
open PySem L2 Dl
local macro_rules | `(tactic| walk_at "dx") => `(tactic| simp only [wSB, wSB1, wVar, wC, wOp, wB, wNotT, wAndT, wOrT, wAndV, wOrV, wNotV, wIfE, wChain, wNil, wCons, wTup, wLst, wNext, wSeq, wSet, wAsg, wDrop, wRet, wRetN, wBrk, wCont, wIf, wiL, wiT, wiR, wFor, wCall0, wCall, wCB, wM0, wM1, wNo, wPart, wSl, wYes, wLc, wipeD, wNeg, wTru, wFmt, wJoined, wJs, wRaise1, wStw, wiS, wAug, wiR2, wSt3, wFind, wApp, wNewL, wFrzL, Sl.OL, wRaiseF, rdCints, rdRep, wPE, wPT, wPS, wSeqX, wNextX, wSetX, wAsgX, wDropX, wRetX, wIfX, wBX, wNotX, wAndX, wOrX, wConsX, wNilX, wTupX, wOpX, wCallX, wRat, wRws, wRinc, wNewL1, wAppX, wFrzX, EndsX.at, rdCtuple, rdInT, rdTabIn, rdTab, wTruO, wLenO, rdSlT, rdRepL, wNameEnd, wgName, wgNil, wgCons, wgTup,
  Sl.V, D.I, D.B, D.S, D.L, D.T, D.K, D.len, D.tru, rdI, rdI0, rdLt, rdLe, rdGt, rdGe, rdEq, rdNe, eqS, rdIsN, rdNotN, rdAdd, rdIx, rdSl, rdInS, rdLen, rdOrd, rdAll, rdAny, rdIsi, rdFmt, rdJoin, rdCint, tyN, ρ0, List.map_cons, List.map_nil, List.length_cons, List.length_nil, List.replicate, List.append, List.cons_append, List.nil_append, List.getElem?_cons_zero, List.getElem?_cons_succ, List.set_cons_zero, List.set_cons_succ, Nat.add_sub_cancel, Nat.sub_self, Nat.zero_add, Nat.reduceAdd, Nat.reduceSub, if_true, if_false, true_and, and_true, decide_true, decide_false, true_or, or_true, ia_NoneType_bool, ia_NoneType_int, ia_NoneType_str, ia_NoneType_list, ia_NoneType_tuple, ia_NoneType_dict, ia_bool_bool, ia_bool_int, ia_bool_str, ia_bool_list, ia_bool_tuple, ia_bool_dict, ia_int_bool, ia_int_int, ia_int_str, ia_int_list, ia_int_tuple, ia_int_dict, ia_str_bool, ia_str_int, ia_str_str, ia_str_list, ia_str_tuple, ia_str_dict, ia_list_bool, ia_list_int, ia_list_str, ia_list_list, ia_list_tuple, ia_list_dict, ia_tuple_bool, ia_tuple_int, ia_tuple_str, ia_tuple_list, ia_tuple_tuple, ia_tuple_dict, ia_dict_bool, ia_dict_int, ia_dict_str, ia_dict_list, ia_dict_tuple, ia_dict_dict, inT_bool, inT_int, inT_str, inT_list, inT_tuple, inT_dict, Bool.false_xor, Bool.true_xor, Bool.not_eq_true, Bool.not_true, Bool.not_false, Bool.false_eq_true, ite_false, ite_true, reduceCtorEq])
local macro_rules | `(tactic| walk_at "dz") => `(tactic| simp only [wSB, wSB1, wVar, wC, wOp, wB, wNotT, wAndT, wOrT, wAndV, wOrV, wNotV, wIfE, wChain, wNil, wCons, wTup, wLst, wNext, wSeq, wSet, wAsg, wDrop, wRet, wRetN, wBrk, wCont, wIf, wiL, wiT, wiR, wFor, wCall0, wCall, wCB, wM0, wM1, wNo, wPart, wSl, wYes, wLc, wipeD, wNeg, wTru, wFmt, wJoined, wJs, wRaise1, wStw, wiS, wAug, wiR2, wSt3, wFind, wApp, wNewL, wFrzL, Sl.OL, wRaiseF, rdCints, rdRep, wPE, wPT, wPS, wSeqX, wNextX, wSetX, wAsgX, wDropX, wRetX, wIfX, wBX, wNotX, wAndX, wOrX, wConsX, wNilX, wTupX, wOpX, wCallX, wRat, wRws, wRinc, wNewL1, wAppX, wFrzX, EndsX.at, rdCtuple, rdInT, rdTabIn, rdTab, wTruO, wLenO, rdSlT, rdRepL, wNameEnd, wgName, wgNil, wgCons, wgTup,
  Sl.V, D.I, D.B, D.S, D.L, D.T, D.K, D.len, D.tru, rdI, rdI0, rdLt, rdLe, rdGt, rdGe, rdEq, rdNe, eqS, rdIsN, rdNotN, rdAdd, rdIx, rdSl, rdInS, rdLen, rdOrd, rdAll, rdAny, rdIsi, rdFmt, rdJoin, rdCint, tyN, ρ0, List.map_cons, List.map_nil, List.length_cons, List.length_nil, List.replicate, List.append, List.cons_append, List.nil_append, List.getElem?_cons_zero, List.getElem?_cons_succ, List.set_cons_zero, List.set_cons_succ, Nat.add_sub_cancel, Nat.sub_self, Nat.zero_add, Nat.reduceAdd, Nat.reduceSub, if_true, if_false, true_and, and_true, decide_true, decide_false, true_or, or_true, ia_NoneType_bool, ia_NoneType_int, ia_NoneType_str, ia_NoneType_list, ia_NoneType_tuple, ia_NoneType_dict, ia_bool_bool, ia_bool_int, ia_bool_str, ia_bool_list, ia_bool_tuple, ia_bool_dict, ia_int_bool, ia_int_int, ia_int_str, ia_int_list, ia_int_tuple, ia_int_dict, ia_str_bool, ia_str_int, ia_str_str, ia_str_list, ia_str_tuple, ia_str_dict, ia_list_bool, ia_list_int, ia_list_str, ia_list_list, ia_list_tuple, ia_list_dict, ia_tuple_bool, ia_tuple_int, ia_tuple_str, ia_tuple_list, ia_tuple_tuple, ia_tuple_dict, ia_dict_bool, ia_dict_int, ia_dict_str, ia_dict_list, ia_dict_tuple, ia_dict_dict, inT_bool, inT_int, inT_str, inT_list, inT_tuple, inT_dict, Bool.false_xor, Bool.true_xor, Bool.not_eq_true, Bool.not_true, Bool.not_false, Bool.false_eq_true, ite_false, ite_true, reduceCtorEq, at3_0', at3_1', at3_2', at2_0, at2_1, encR, dob, dbb])
theorem loop_law {wl : List W3} {e : Int} {p : Nat → RR} {b : Nat} {close : Str} {g : WG} {u : WS} {d : DEnds} (G : GoodW wl e) (hp : ∀ n, Fin wl b (n + 1) (p n)) (mk : En → Nat → List D → Prop)
    (step : ∀ (x : D) (ρ : En) (n : Nat) (acc : List D) (N : En → Prop), mk ρ n acc → n ≤ wl.length → acc.length ≤ 1000 →
      (if (!acc.isEmpty && see wl n "sign" close) = true then d.rt (encR (.ok (.tup acc) (n + 1))) else match p n with
        | .bad m => d.rt (encR (.bad m))
        | .ok v n' => ∀ ρ', mk ρ' n' (acc ++ [v]) → N ρ') → g x ρ fun ρ1 => u { nx := N, rt := d.rt, bk := d.nx, ct := N } ρ1) :
    ∀ (xs : List D) (ρ : En) (n : Nat) (acc : List D) (f : Nat), mk ρ n acc → n ≤ wl.length → wl.length + 1 ≤ n + xs.length → wl.length + 2 ≤ n + f → acc.length ≤ n →
      d.rt (encR (if (!acc.isEmpty && see wl n "sign" close) = true then .ok (.tup acc) (n + 1) else loopF wl p close f n acc)) → wForL g u xs d ρ
  | [], ρ, n, acc, f, _, h1, h2, _, _, _ => by
    simp only [List.length_nil] at h2
    omega
  | x :: xs, ρ, n, acc, f, hm, h1, h2, h3, h4, h => by
    have hlen := G.len
    refine step x ρ n acc _ hm h1 (by omega) ?_
    by_cases q : (!acc.isEmpty && see wl n "sign" close) = true
    · rw [if_pos q] at h ⊢
      exact h
    · rw [if_neg q] at h ⊢
      cases f with
      | zero => omega
      | succ f =>
        unfold loopF at h
        have F := hp n
        cases q2 : p n with
        | bad m => rw [q2] at h; exact h
        | ok v n' =>
          rw [q2] at h F
          intro ρ' hm'
          simp only [List.length_cons] at h2
          have f1 := F.2.1
          have f2 := F.2.2
          refine loop_law G hp mk step xs ρ' n' (acc ++ [v]) f hm' f2 (by omega) (by omega) (by rw [List.length_append]; simp only [List.length_cons, List.length_nil]; omega) ?_
          have e1 : (!(acc ++ [v]).isEmpty) = true := by cases acc <;> rfl
          rw [e1, Bool.true_and]
          exact h
theorem rngD_len1 (k : Nat) : (rngD ((k : Int) + 1)).length = k + 1 := by
  unfold rngD
  rw [List.length_map, List.length_range]
  omega
theorem rngD_len0 (k : Nat) : (rngD (k : Int)).length = k := by
  unfold rngD
  rw [List.length_map, List.length_range]
  omega
theorem isI {wl : List W3} {e : Int} (G : GoodW wl e) (n : Nat) {i : Int} {k w : Str} {Q : D → Prop} {E : Exn → Prop} (hi : i = (n : Nat)) (h : Q (.bl (see wl n k w))) (hk : k ≠ "end" := by decide) (h1 : PyData.strOk k = true := by decide +kernel) (h2 : PyData.strOk w = true := by decide +kernel) : sp_l_is [.lst (wl.map encW), .int i, .str k, .str w] Q E := by
  subst hi
  exact ⟨wl, e, n, _, _, rfl, G, hk, h1, h2, h⟩
theorem kindI {wl : List W3} {e : Int} (G : GoodW wl e) (n : Nat) {i : Int} {k : Str} {Q : D → Prop} {E : Exn → Prop} (hi : i = (n : Nat)) (h : Q (.bl (decide (kd wl n = k)))) (hk : k ≠ "end" := by decide) : sp_l_kind_at [.lst (wl.map encW), .int i, .str k] Q E := by
  subst hi
  exact ⟨wl, e, n, _, rfl, G, hk, h⟩
theorem spLI {wl : List W3} {e : Int} (G : GoodW wl e) (n : Nat) {i : Int} {p : List W3 → Nat → D} {Q : D → Prop} {E : Exn → Prop} (hi : i = (n : Nat)) (hn : n ≤ wl.length + 9) (h : Q (p wl n)) : spL p [.lst (wl.map encW), .int i] Q E := by
  subst hi
  exact ⟨wl, e, n, rfl, G, hn, h⟩
theorem spLeI {wl : List W3} {e : Int} (G : GoodW wl e) (n : Nat) {i : Int} {p : List W3 → Nat → D} {Q : D → Prop} {E : Exn → Prop} (hi : i = (n : Nat)) (hn : n ≤ wl.length) (h : Q (p wl n)) : spLe p [.lst (wl.map encW), .int i] Q E := by
  subst hi
  exact ⟨wl, e, n, rfl, G, hn, h⟩
theorem spLmI {wl : List W3} {e : Int} (G : GoodW wl e) (m n : Nat) {i j off : Int} {p : List W3 → Nat → Nat → D} {Q : D → Prop} {E : Exn → Prop} (hi : i = (n : Nat)) (hj : j = off - (m : Int)) (hn : n ≤ wl.length) (h : Q (p wl m n)) : spLm off p (m + 1) [.lst (wl.map encW), .int i, .int j] Q E := by
  subst hi hj
  exact ⟨wl, e, n, rfl, G, hn, h⟩
theorem typI {wl : List W3} {e : Int} (G : GoodW wl e) (m n : Nat) {i j : Int} {Q : D → Prop} {E : Exn → Prop} (hi : i = (n : Nat)) (hj : j = 5 - (m : Int)) (hm : m ≤ 5) (hn : n ≤ wl.length + 9) (h : Q (encR (pType wl m n))) : sp_l_type_at (m + 1) [.lst (wl.map encW), .int i, .int j] Q E := by
  subst hi hj
  exact ⟨wl, e, n, rfl, G, hm, hn, h⟩
theorem atWI (wl : List W3) (n : Nat) {i : Int} (hi : i = (n : Nat)) (h : n < wl.length) : atI (wl.map encW) i = some (.tup [.int (pl wl 0 n), .str (kd wl n), wd wl n]) := by
  subst hi
  exact atW wl h
theorem bind_ok {d : D} {n : Nat} {f : D → Nat → RR} : (RR.ok d n).bind f = f d n := rfl
theorem bind_bad {n : Nat} {f : D → Nat → RR} : (RR.bad n).bind f = .bad n := rfl
def W_l_conditions_at_b2 : WS :=
  (wSeq (wIf (wNotT (wB (wCall0 sp_l_is (wCons (wVar 0) (wCons (wOp rdAdd (wVar 1) (wC (.int 2))) (wCons (wC (.str "sign")) (wCons (wC (.str "(")) wNil))))))) (wRet (wTup (wCons (wC (.str "bad")) (wCons (wOp rdAdd (wVar 1) (wC (.int 2))) wNil)))) wNext)
  (wSeq (wSet 4 (wCall0 sp_l_value_at (wCons (wVar 0) (wCons (wOp rdAdd (wVar 1) (wC (.int 3))) wNil))))
  (wSeq (wIf (wB (wOp rdEq (wOp rdIx (wVar 4) (wC (.int 0))) (wC (.str "bad")))) (wRet (wVar 4)) wNext)
  (wSeq (wIf (wNotT (wB (wCall0 sp_l_is (wCons (wVar 0) (wCons (wOp rdIx (wVar 4) (wC (.int 2))) (wCons (wC (.str "sign")) (wCons (wC (.str ")")) wNil))))))) (wRet (wTup (wCons (wC (.str "bad")) (wCons (wOp rdIx (wVar 4) (wC (.int 2))) wNil)))) wNext)
  (wSeq (wApp 2 (wTup (wCons (wOp rdIx (wOp rdIx (wVar 0) (wOp rdAdd (wVar 1) (wC (.int 1)))) (wC (.int 2))) (wCons (wOp rdIx (wVar 4) (wC (.int 1))) wNil))))
  (wSet 1 (wOp rdAdd (wOp rdIx (wVar 4) (wC (.int 2))) (wC (.int 1)))))))))
theorem len_l_conditions_at {ds : List D} {Q : D → Prop} {E : Exn → Prop} (h : sp_l_conditions_at ds Q E) : ds.length = (["words", "at"] : List Str).length := spLe_len h
theorem hw_l_conditions_at : ∀ ds Q E, sp_l_conditions_at ds Q E → W_l_conditions_at { nx := fun _ => Q .non, rt := Q } (ρ0 (["words", "at", "found", "k", "value"] : List Str).length ds) := by
  rintro ds Q E ⟨wl, e, n, rfl, G, hn, h⟩
  have hlen := G.len
  unfold W_l_conditions_at
  walk_at "dz"
  rw [mapw_len]
  refine ⟨by omega, ?_⟩
  refine for_rule (fun xs ρ => ∃ (n : Nat) (acc : List D) (a b : Sl), ρ = [.val (.lst (wl.map encW)), .val (.int (n : Nat)), .ol acc, a, b] ∧ n ≤ wl.length ∧ acc.length + xs.length ≤ wl.length + 1 ∧ Q (encR (condsF wl xs.length n acc))) ?_ ?_ _ _ ⟨n, [], _, _, rfl, hn, ?_, ?_⟩
  · rintro x xs ρ N ⟨n, acc, a, b, rfl, h1, h2, hk⟩ ih
    simp only [List.length_cons] at h2 hk
    unfold W_l_conditions_at_b1
    walk_at "dz"
    refine ⟨wl, e, n, _, _, rfl, G, by decide, by decide +kernel, by decide +kernel, ?_⟩
    unfold condsF at hk
    by_cases q : see wl n "sign" "@" = true
    · rw [if_pos q] at hk
      rw [q]
      have hl := see_lt q
      walk_at "dz"
      refine isI G (n + 1) (by omega) ?_
      have F := fin_cond G (n + 1)
      have body : (see wl (n + 1) "name" "if" = true ∨ see wl (n + 1) "name" "unless" = true) → W_l_conditions_at_b2 { nx := N, rt := Q, bk := fun _ => True, ct := N } [.val (.lst (wl.map encW)), .val (.int (n : Nat)), .ol acc, .val x, b] := fun hc => by
        unfold W_l_conditions_at_b2
        walk_at "dz"
        unfold pCond at hk F
        rw [if_pos hc] at hk F
        refine isI G (n + 2) (by omega) ?_
        cases q1 : see wl (n + 2) "sign" "(" with
        | false =>
          rw [q1] at hk
          walk_at "dz"
          exact ⟨by decide, hk⟩
        | true =>
          rw [q1] at hk F
          have hl2 := see_lt q1
          walk_at "dz"
          refine spLI G (n + 3) (by omega) (by omega) ?_
          have F2 := fin_val G (n + 3)
          cases q2 : pVal wl (n + 3) with
          | bad m =>
            rw [q2] at hk
            walk_at "dz"
            exact hk
          | ok v n' =>
            rw [q2] at hk F F2
            walk_at "dz"
            refine isI G n' rfl ?_
            cases q3 : see wl n' "sign" ")" with
            | false =>
              simp only [if_true, RR.bind, q3] at hk
              walk_at "dz"
              exact ⟨by decide, hk⟩
            | true =>
              simp only [if_true, RR.bind, q3] at hk
              have hl3 := see_lt q3
              walk_at "dz"
              rw [atWI wl (n + 1) (by omega) (by omega)]
              walk_at "dz"
              refine ⟨by decide, by omega, ?_⟩
              exact ih _ ⟨n' + 1, acc ++ [.tup [wd wl (n + 1), v]], _, _, by rw [nat1], hl3, by rw [List.length_append]; simp only [List.length_cons, List.length_nil]; omega, hk⟩
      cases q1 : see wl (n + 1) "name" "if" with
      | true =>
        walk_at "dz"
        have z := body (.inl q1)
        revert z
        unfold W_l_conditions_at_b2
        walk_at "dz"
        exact id
      | false =>
        walk_at "dz"
        refine isI G (n + 1) (by omega) ?_
        cases q2 : see wl (n + 1) "name" "unless" with
        | true =>
          walk_at "dz"
          have z := body (.inr q2)
          revert z
          unfold W_l_conditions_at_b2
          walk_at "dz"
          exact id
        | false =>
          walk_at "dz"
          unfold pCond at hk
          rw [if_neg (by rw [q1, q2]; decide)] at hk
          exact ⟨by decide, hk⟩
    · rw [if_neg q] at hk
      rw [Bool.not_eq_true] at q
      rw [q]
      walk_at "dz"
      exact ⟨by decide, hk⟩
  · rintro ρ ⟨n, acc, a, b, rfl, h1, h2, hk⟩
    walk_at "dz"
    exact ⟨by decide, hk⟩
  · rw [rngD_len1]; simp only [List.length_nil]; omega
  · rw [rngD_len1]; exact h
theorem seq_if {w : WT} {u v z : WS} {d : DEnds} {ρ : En} (c : Bool) (hc : ∀ Q : Bool → Prop, Q c → w ρ Q) (h1 : c = true → u { d with nx := z d } ρ) (h0 : c = false → v { d with nx := z d } ρ) : wSeq (wIf w u v) z d ρ := by
  refine hc _ ?_
  cases c with
  | true => exact h1 rfl
  | false => exact h0 rfl
theorem seq_ifn {w : WT} {u z : WS} {d : DEnds} {ρ : En} (c : Bool) (hc : ∀ Q : Bool → Prop, Q c → w ρ Q) (h1 : c = true → u { d with nx := z d } ρ) (h0 : c = false → z d ρ) : wSeq (wIf w u wNext) z d ρ := seq_if c hc h1 h0
theorem seq_g {u v : WS} {d : DEnds} {ρ : En} (h : ∀ V : En → Prop, V = v d → u { d with nx := V } ρ) : wSeq u v d ρ := h _ rfl
theorem and_t {w u : WT} {ρ : En} {Q : Bool → Prop} (a b : Bool) (ha : ∀ Q : Bool → Prop, Q a → w ρ Q) (hb : a = true → ∀ Q : Bool → Prop, Q b → u ρ Q) (h : Q (a && b)) : wAndT w u ρ Q := by
  refine ha _ ?_
  cases a with
  | true => exact hb rfl _ h
  | false => exact h
theorem len_l_arguments_at {ds : List D} {Q : D → Prop} {E : Exn → Prop} (h : sp_l_arguments_at ds Q E) : ds.length = (["words", "at"] : List Str).length := spLe_len h
theorem hw_l_arguments_at : ∀ ds Q E, sp_l_arguments_at ds Q E → W_l_arguments_at { nx := fun _ => Q .non, rt := Q } (ρ0 (["words", "at", "found", "k", "value"] : List Str).length ds) := by
  rintro ds Q E ⟨wl, e, n, rfl, G, hn, h⟩
  have hlen := G.len
  unfold W_l_arguments_at
  walk_at "dz"
  refine isI G n rfl ?_
  unfold pArgs at h
  dsimp only at h
  cases q : see wl n "sign" "(" with
  | false =>
    rw [q] at h
    walk_at "dz"
    exact ⟨by decide, by decide, h⟩
  | true =>
    rw [q] at h
    have hl := see_lt q
    walk_at "dz"
    rw [mapw_len]
    refine ⟨by omega, ?_⟩
    refine loop_law (p := pArg wl) (b := 2) (close := ")") G (fin_arg1 G) (fun ρ n acc => ∃ a b, ρ = [.val (.lst (wl.map encW)), .val (.int (n : Nat)), .ol acc, a, b]) ?_ _ _ (n + 1) [] (wl.length + 1) ⟨_, _, by rw [nat1]⟩ hl (by rw [rngD_len0]; omega) (by omega) (Nat.zero_le _) ?_
    · rintro x ρ n acc N ⟨a, b, rfl⟩ h1 h2 hk
      unfold W_l_arguments_at_b1
      refine seq_if (!acc.isEmpty && see wl n "sign" ")") (fun Q hQ => and_t _ _ (fun Q hQ => by walk_at "dz"; exact hQ) (fun _ Q hQ => by walk_at "dz"; exact isI G n rfl (by walk_at "dz"; exact hQ)) hQ) (fun hc => ?_) (fun hc => ?_)
      · rw [if_pos hc] at hk
        walk_at "dz"
        rw [Bool.and_eq_true_iff] at hc
        exact ⟨by decide, hk⟩
      · rw [if_neg (by rw [hc]; decide)] at hk
        walk_at "dz"
        refine spLI G n rfl (by omega) ?_
        unfold pArg at hk
        dsimp only
        cases q1 : plainAt wl n with
        | false =>
          rw [q1] at hk
          walk_at "dz"
          exact ⟨by decide, hk⟩
        | true =>
          rw [q1] at hk
          have hl1 := plain_lt q1
          walk_at "dz"
          refine isI G (n + 1) (by omega) ?_
          cases q2 : see wl (n + 1) "sign" ":" with
          | false =>
            rw [q2] at hk
            walk_at "dz"
            exact ⟨by decide, hk⟩
          | true =>
            rw [q2] at hk
            have hl2 := see_lt q2
            walk_at "dz"
            refine spLI G (n + 2) (by omega) (by omega) ?_
            cases q3 : pVal wl (n + 2) with
            | bad m =>
              rw [q3] at hk
              walk_at "dz"
              exact hk
            | ok v n' =>
              rw [q3] at hk
              walk_at "dz"
              rw [atWI wl n rfl hl1]
              walk_at "dz"
              refine ⟨by decide, by omega, ?_⟩
              exact hk _ ⟨_, _, rfl⟩
    · exact h
end K5
set_option Elab.async false
set_option linter.all false
set_option maxRecDepth 100000
set_option maxHeartbeats 4000000
namespace K5
open PySem L2 Dl
local macro_rules | `(tactic| walk_at "dz") => `(tactic| simp only [wSB, wSB1, wVar, wC, wOp, wB, wNotT, wAndT, wOrT, wAndV, wOrV, wNotV, wIfE, wChain, wNil, wCons, wTup, wLst, wNext, wSeq, wSet, wAsg, wDrop, wRet, wRetN, wBrk, wCont, wIf, wiL, wiT, wiR, wFor, wCall0, wCall, wCB, wM0, wM1, wNo, wPart, wSl, wYes, wLc, wipeD, wNeg, wTru, wFmt, wJoined, wJs, wRaise1, wStw, wiS, wAug, wiR2, wSt3, wFind, wApp, wNewL, wFrzL, Sl.OL, wRaiseF, rdCints, rdRep, wPE, wPT, wPS, wSeqX, wNextX, wSetX, wAsgX, wDropX, wRetX, wIfX, wBX, wNotX, wAndX, wOrX, wConsX, wNilX, wTupX, wOpX, wCallX, wRat, wRws, wRinc, wNewL1, wAppX, wFrzX, EndsX.at, rdCtuple, rdInT, rdTabIn, rdTab, wTruO, wLenO, rdSlT, rdRepL, wNameEnd, wgName, wgNil, wgCons, wgTup,
  Sl.V, D.I, D.B, D.S, D.L, D.T, D.K, D.len, D.tru, rdI, rdI0, rdLt, rdLe, rdGt, rdGe, rdEq, rdNe, eqS, rdIsN, rdNotN, rdAdd, rdIx, rdSl, rdInS, rdLen, rdOrd, rdAll, rdAny, rdIsi, rdFmt, rdJoin, rdCint, tyN, ρ0, List.map_cons, List.map_nil, List.length_cons, List.length_nil, List.replicate, List.append, List.cons_append, List.nil_append, List.getElem?_cons_zero, List.getElem?_cons_succ, List.set_cons_zero, List.set_cons_succ, Nat.add_sub_cancel, Nat.sub_self, Nat.zero_add, Nat.reduceAdd, Nat.reduceSub, if_true, if_false, true_and, and_true, decide_true, decide_false, true_or, or_true, ia_NoneType_bool, ia_NoneType_int, ia_NoneType_str, ia_NoneType_list, ia_NoneType_tuple, ia_NoneType_dict, ia_bool_bool, ia_bool_int, ia_bool_str, ia_bool_list, ia_bool_tuple, ia_bool_dict, ia_int_bool, ia_int_int, ia_int_str, ia_int_list, ia_int_tuple, ia_int_dict, ia_str_bool, ia_str_int, ia_str_str, ia_str_list, ia_str_tuple, ia_str_dict, ia_list_bool, ia_list_int, ia_list_str, ia_list_list, ia_list_tuple, ia_list_dict, ia_tuple_bool, ia_tuple_int, ia_tuple_str, ia_tuple_list, ia_tuple_tuple, ia_tuple_dict, ia_dict_bool, ia_dict_int, ia_dict_str, ia_dict_list, ia_dict_tuple, ia_dict_dict, inT_bool, inT_int, inT_str, inT_list, inT_tuple, inT_dict, Bool.false_xor, Bool.true_xor, Bool.not_eq_true, Bool.not_true, Bool.not_false, Bool.false_eq_true, ite_false, ite_true, reduceCtorEq, at3_0', at3_1', at3_2', at2_0, at2_1, encR, dob, dbb])
def W_l_spread_tail (m : Nat) : WS :=
  (wSeq (wSet 4 (wCall0 sp_l_conditions_at (wCons (wVar 0) (wCons (wVar 1) wNil))))
  (wSeq (wIf (wB (wOp rdEq (wOp rdIx (wVar 4) (wC (.int 0))) (wC (.str "bad")))) (wRet (wVar 4)) wNext)
  (wSeq (wSet 5 (wCall0 (sp_l_selection_at m) (wCons (wVar 0) (wCons (wOp rdIx (wVar 4) (wC (.int 2))) (wCons (wOp rdAdd (wVar 2) (wC (.int 1))) wNil)))))
  (wSeq (wIf (wB (wOp rdEq (wOp rdIx (wVar 5) (wC (.int 0))) (wC (.str "bad")))) (wRet (wVar 5)) wNext)
  (wRet (wTup (wCons (wC (.str "ok")) (wCons (wTup (wCons (wC (.str "on")) (wCons (wVar 3) (wCons (wOp rdIx (wVar 4) (wC (.int 1))) (wCons (wOp rdIx (wVar 5) (wC (.int 1))) wNil))))) (wCons (wOp rdIx (wVar 5) (wC (.int 2))) wNil)))))))))
theorem len_l_declared {ds : List D} {Q : D → Prop} {E : Exn → Prop} (h : sp_l_declared ds Q E) : ds.length = (["words", "at"] : List Str).length := spLe_len h
theorem hw_l_declared : ∀ ds Q E, sp_l_declared ds Q E → W_l_declared { nx := fun _ => Q .non, rt := Q } (ρ0 (["words", "at", "found", "k", "kind", "default"] : List Str).length ds) := by
  rintro ds Q E ⟨wl, e, n, rfl, G, hn, h⟩
  have hlen := G.len
  unfold W_l_declared
  walk_at "dz"
  refine isI G n rfl ?_
  unfold pDecls at h
  dsimp only at h
  cases q : see wl n "sign" "(" with
  | false =>
    rw [q] at h
    walk_at "dz"
    exact ⟨by decide, by decide, h⟩
  | true =>
    rw [q] at h
    have hl := see_lt q
    walk_at "dz"
    rw [mapw_len]
    refine ⟨by omega, ?_⟩
    refine loop_law (p := pDecl wl) (b := 13) (close := ")") G (fin_decl G) (fun ρ n acc => ∃ a b c, ρ = [.val (.lst (wl.map encW)), .val (.int (n : Nat)), .ol acc, a, b, c]) ?_ _ _ (n + 1) [] (wl.length + 1) ⟨_, _, _, by rw [nat1]⟩ hl (by rw [rngD_len0]; omega) (by omega) (Nat.zero_le _) ?_
    · rintro x ρ n acc N ⟨a, b, c, rfl⟩ h1 h2 hk
      unfold W_l_declared_b1
      refine seq_ifn (!acc.isEmpty && see wl n "sign" ")") (fun Q hQ => and_t _ _ (fun Q hQ => by walk_at "dz"; exact hQ) (fun _ Q hQ => by walk_at "dz"; exact isI G n rfl (by walk_at "dz"; exact hQ)) hQ) (fun hc => ?_) (fun hc => ?_)
      · rw [if_pos hc] at hk
        walk_at "dz"
        rw [Bool.and_eq_true_iff] at hc
        exact ⟨by decide, hk⟩
      rw [if_neg (by rw [hc]; decide)] at hk
      unfold pDecl at hk
      refine seq_g fun V hV => ?_
      walk_at "dz"
      refine kindI G n rfl ?_
      by_cases q1 : kd wl n = "variable"
      case neg =>
        rw [if_neg q1] at hk
        rw [decide_eq_false q1]
        walk_at "dz"
        exact ⟨by decide, hk⟩
      rw [if_pos q1] at hk
      rw [decide_eq_true q1]
      have hl1 := kd_lt q1 (by decide)
      walk_at "dz"
      subst hV
      refine seq_g fun V hV => ?_
      walk_at "dz"
      refine isI G (n + 1) (by omega) ?_
      cases q2 : see wl (n + 1) "sign" ":" with
      | false =>
        rw [q2] at hk
        walk_at "dz"
        exact ⟨by decide, hk⟩
      | true =>
      rw [q2] at hk
      have hl2 := see_lt q2
      walk_at "dz"
      subst hV
      refine seq_g fun V hV => ?_
      walk_at "dz"
      refine typI G 5 (n + 2) (by omega) (by decide) (by decide) (by omega) ?_
      subst hV
      have F := fin_type G 5 (n + 2)
      cases q3 : pType wl 5 (n + 2) with
      | bad m =>
        rw [q3] at hk
        refine seq_g fun V hV => ?_
        walk_at "dz"
        exact hk
      | ok k n' =>
      rw [q3] at hk F
      have F1 := F.2.2
      simp only [if_true, bind_ok] at hk
      refine seq_g fun V hV => ?_
      walk_at "dz"
      subst hV
      refine seq_g fun V hV => ?_
      walk_at "dz"
      subst hV
      refine ⟨by decide, ?_⟩
      refine seq_g fun V hV => ?_
      walk_at "dz"
      refine isI G n' rfl ?_
      subst hV
      cases q4 : see wl n' "sign" "=" with
      | false =>
        rw [q4] at hk
        walk_at "dz"
        rw [atWI wl n rfl hl1]
        walk_at "dz"
        exact ⟨by decide, by omega, hk _ ⟨_, _, _, rfl⟩⟩
      | true =>
        rw [q4] at hk
        have hl3 := see_lt q4
        walk_at "dz"
        refine spLI G (n' + 1) (by omega) (by omega) ?_
        cases q5 : pConst wl (n' + 1) with
        | bad m =>
          rw [q5] at hk
          walk_at "dz"
          exact hk
        | ok c n2 =>
          rw [q5] at hk
          walk_at "dz"
          rw [atWI wl n rfl hl1]
          walk_at "dz"
          exact ⟨by decide, by omega, hk _ ⟨_, _, _, rfl⟩⟩
    · exact h
theorem spLm_len {off : Int} {p : List W3 → Nat → Nat → D} {m : Nat} {ds : List D} {Q : D → Prop} {E : Exn → Prop} (h : spLm off p m ds Q E) : ds.length = (["words", "at", "depth"] : List Str).length := by
  cases m with
  | zero => exact h.elim
  | succ m =>
    obtain ⟨wl, e, n, rfl, _⟩ := h
    rfl
theorem len_l_field_at {m : Nat} {ds : List D} {Q : D → Prop} {E : Exn → Prop} (h : sp_l_field_at m ds Q E) : ds.length = (["words", "at", "depth"] : List Str).length := spLm_len h
theorem len_l_spread_at {m : Nat} {ds : List D} {Q : D → Prop} {E : Exn → Prop} (h : sp_l_spread_at m ds Q E) : ds.length = (["words", "at", "depth"] : List Str).length := spLm_len h
theorem len_l_selection_at {m : Nat} {ds : List D} {Q : D → Prop} {E : Exn → Prop} (h : sp_l_selection_at m ds Q E) : ds.length = (["words", "at", "depth"] : List Str).length := by
  obtain ⟨wl, e, n, rfl, _⟩ := h
  rfl
theorem selI {wl : List W3} {e : Int} (G : GoodW wl e) (m n : Nat) {i j : Int} {Q : D → Prop} {E : Exn → Prop} (hi : i = (n : Nat)) (hj : j = 11 - (m : Int)) (hm : m ≤ 10) (hn : n ≤ wl.length) (h : Q (encR (pSel wl m n))) : sp_l_selection_at m [.lst (wl.map encW), .int i, .int j] Q E := by
  subst hi hj
  exact ⟨wl, e, n, rfl, G, hm, hn, h⟩
theorem hw_l_spread_at {m : Nat} (hm : m ≤ 10) : ∀ ds Q E, sp_l_spread_at (m + 1) ds Q E → W_l_spread_at m { nx := fun _ => Q .non, rt := Q } (ρ0 (["words", "at", "depth", "name", "conditions", "inner"] : List Str).length ds) := by
  rintro ds Q E ⟨wl, e, n, rfl, G, hn, h⟩
  have hlen := G.len
  unfold W_l_spread_at
  walk_at "dz"
  refine isI G n rfl ?_
  unfold pSpread at h
  dsimp only at h
  have tailc : ∀ (n0 : Nat) (nm : D), n0 ≤ wl.length → Q (encR ((pConds wl n0).bind fun c n1 => (pSel wl m n1).bind fun s n2 => .ok (.tup [.str "on", nm, c, s]) n2)) → W_l_spread_tail m { nx := fun _ => Q .non, rt := Q } [.val (.lst (wl.map encW)), .val (.int (n0 : Nat)), .val (.int (10 - (m : Int))), .val nm, .un, .un] := by
    intro n0 nm hn0 h
    unfold W_l_spread_tail
    walk_at "dz"
    refine spLeI G n0 rfl hn0 ?_
    have F := fin_conds G hn0
    cases q1 : pConds wl n0 with
    | bad j =>
      rw [q1] at h
      walk_at "dz"
      exact h
    | ok c n1 =>
      rw [q1] at h F
      walk_at "dz"
      refine selI G m n1 rfl (by omega) hm F.2.2 ?_
      cases q2 : pSel wl m n1 with
      | bad j =>
        rw [bind_ok, q2] at h
        walk_at "dz"
        exact h
      | ok v n2 =>
        rw [bind_ok, q2] at h
        walk_at "dz"
        exact ⟨by decide, by decide, h⟩
  cases q : see wl n "name" "on" with
  | true =>
    rw [q] at h
    have hl := see_lt q
    walk_at "dz"
    refine spLI G (n + 1) (by omega) (by omega) ?_
    cases q1 : plainAt wl (n + 1) with
    | false =>
      rw [q1] at h
      walk_at "dz"
      exact ⟨by decide, h⟩
    | true =>
      rw [q1] at h
      have hl1 := plain_lt q1
      walk_at "dz"
      rw [atWI wl (n + 1) (by omega) hl1]
      have z := tailc (n + 2) (wd wl (n + 1)) hl1 h
      revert z
      unfold W_l_spread_tail
      walk_at "dz"
      rw [nat2]
      exact id
  | false =>
    rw [q] at h
    walk_at "dz"
    refine kindI G n rfl ?_
    by_cases q1 : kd wl n = "name"
    · rw [decide_eq_true q1]
      rw [if_neg (by decide), if_pos q1] at h
      walk_at "dz"
      refine spLI G n rfl (by omega) ?_
      cases q2 : plainAt wl n with
      | false =>
        rw [q2] at h
        walk_at "dz"
        exact ⟨by decide, h⟩
      | true =>
        rw [q2] at h
        have hl2 := plain_lt q2
        walk_at "dz"
        refine spLeI G (n + 1) (by omega) hl2 ?_
        cases q3 : pConds wl (n + 1) with
        | bad j =>
          rw [q3] at h
          walk_at "dz"
          exact h
        | ok c n1 =>
          rw [q3] at h
          walk_at "dz"
          rw [atWI wl n rfl hl2]
          walk_at "dz"
          exact ⟨by decide, by decide, h⟩
    · rw [decide_eq_false q1]
      rw [if_neg (by decide), if_neg q1] at h
      have z := tailc n .non hn h
      revert z
      unfold W_l_spread_tail
      walk_at "dz"
      exact id
end K5
set_option Elab.async false
set_option linter.all false
set_option maxRecDepth 100000
set_option maxHeartbeats 4000000
namespace K5
open PySem L2 Dl
local macro_rules | `(tactic| walk_at "dz") => `(tactic| simp only [wSB, wSB1, wVar, wC, wOp, wB, wNotT, wAndT, wOrT, wAndV, wOrV, wNotV, wIfE, wChain, wNil, wCons, wTup, wLst, wNext, wSeq, wSet, wAsg, wDrop, wRet, wRetN, wBrk, wCont, wIf, wiL, wiT, wiR, wFor, wCall0, wCall, wCB, wM0, wM1, wNo, wPart, wSl, wYes, wLc, wipeD, wNeg, wTru, wFmt, wJoined, wJs, wRaise1, wStw, wiS, wAug, wiR2, wSt3, wFind, wApp, wNewL, wFrzL, Sl.OL, wRaiseF, rdCints, rdRep, wPE, wPT, wPS, wSeqX, wNextX, wSetX, wAsgX, wDropX, wRetX, wIfX, wBX, wNotX, wAndX, wOrX, wConsX, wNilX, wTupX, wOpX, wCallX, wRat, wRws, wRinc, wNewL1, wAppX, wFrzX, EndsX.at, rdCtuple, rdInT, rdTabIn, rdTab, wTruO, wLenO, rdSlT, rdRepL, wNameEnd, wgName, wgNil, wgCons, wgTup,
  Sl.V, D.I, D.B, D.S, D.L, D.T, D.K, D.len, D.tru, rdI, rdI0, rdLt, rdLe, rdGt, rdGe, rdEq, rdNe, eqS, rdIsN, rdNotN, rdAdd, rdIx, rdSl, rdInS, rdLen, rdOrd, rdAll, rdAny, rdIsi, rdFmt, rdJoin, rdCint, tyN, ρ0, List.map_cons, List.map_nil, List.length_cons, List.length_nil, List.replicate, List.append, List.cons_append, List.nil_append, List.getElem?_cons_zero, List.getElem?_cons_succ, List.set_cons_zero, List.set_cons_succ, Nat.add_sub_cancel, Nat.sub_self, Nat.zero_add, Nat.reduceAdd, Nat.reduceSub, if_true, if_false, true_and, and_true, decide_true, decide_false, true_or, or_true, ia_NoneType_bool, ia_NoneType_int, ia_NoneType_str, ia_NoneType_list, ia_NoneType_tuple, ia_NoneType_dict, ia_bool_bool, ia_bool_int, ia_bool_str, ia_bool_list, ia_bool_tuple, ia_bool_dict, ia_int_bool, ia_int_int, ia_int_str, ia_int_list, ia_int_tuple, ia_int_dict, ia_str_bool, ia_str_int, ia_str_str, ia_str_list, ia_str_tuple, ia_str_dict, ia_list_bool, ia_list_int, ia_list_str, ia_list_list, ia_list_tuple, ia_list_dict, ia_tuple_bool, ia_tuple_int, ia_tuple_str, ia_tuple_list, ia_tuple_tuple, ia_tuple_dict, ia_dict_bool, ia_dict_int, ia_dict_str, ia_dict_list, ia_dict_tuple, ia_dict_dict, inT_bool, inT_int, inT_str, inT_list, inT_tuple, inT_dict, Bool.false_xor, Bool.true_xor, Bool.not_eq_true, Bool.not_true, Bool.not_false, Bool.false_eq_true, ite_false, ite_true, reduceCtorEq, at3_0', at3_1', at3_2', at2_0, at2_1, encR, dob, dbb])
def W_l_field_tail (m : Nat) : WS :=
  (wSeq (wSet 5 (wCall0 sp_l_arguments_at (wCons (wVar 0) (wCons (wVar 1) wNil))))
  (wSeq (wIf (wB (wOp rdEq (wOp rdIx (wVar 5) (wC (.int 0))) (wC (.str "bad")))) (wRet (wVar 5)) wNext)
  (wSeq (wSet 6 (wCall0 sp_l_conditions_at (wCons (wVar 0) (wCons (wOp rdIx (wVar 5) (wC (.int 2))) wNil))))
  (wSeq (wIf (wB (wOp rdEq (wOp rdIx (wVar 6) (wC (.int 0))) (wC (.str "bad")))) (wRet (wVar 6)) wNext)
  (wSeq (wSet 7 (wTup (wCons (wC (.str "ok")) (wCons (wC .non) (wCons (wOp rdIx (wVar 6) (wC (.int 2))) wNil)))))
  (wSeq (wIf (wB (wCall0 sp_l_is (wCons (wVar 0) (wCons (wOp rdIx (wVar 6) (wC (.int 2))) (wCons (wC (.str "sign")) (wCons (wC (.str "{")) wNil)))))) (wSeq (wSet 7 (wCall0 (sp_l_selection_at m) (wCons (wVar 0) (wCons (wOp rdIx (wVar 6) (wC (.int 2))) (wCons (wOp rdAdd (wVar 2) (wC (.int 1))) wNil)))))
  (wIf (wB (wOp rdEq (wOp rdIx (wVar 7) (wC (.int 0))) (wC (.str "bad")))) (wRet (wVar 7)) wNext)) wNext)
  (wRet (wTup (wCons (wC (.str "ok")) (wCons (wTup (wCons (wC (.str "field")) (wCons (wVar 3) (wCons (wVar 4) (wCons (wOp rdIx (wVar 5) (wC (.int 1))) (wCons (wOp rdIx (wVar 6) (wC (.int 1))) (wCons (wOp rdIx (wVar 7) (wC (.int 1))) wNil))))))) (wCons (wOp rdIx (wVar 7) (wC (.int 2))) wNil)))))))))))
theorem field_tail {wl : List W3} {e : Int} (G : GoodW wl e) {m : Nat} (hm : m ≤ 10) (n : Nat) (key nm : D) (hn : n ≤ wl.length) {Q : D → Prop} (h : Q (encR (pTail wl (pSel wl m) key nm n))) :
    W_l_field_tail m { nx := fun _ => Q .non, rt := Q } [.val (.lst (wl.map encW)), .val (.int (n : Nat)), .val (.int (10 - (m : Int))), .val key, .val nm, .un, .un, .un] := by
  have hlen := G.len
  unfold W_l_field_tail
  unfold pTail at h
  refine seq_g fun V hV => ?_
  walk_at "dz"
  refine spLeI G n rfl hn ?_
  have F := fin_args G hn
  subst hV
  cases q1 : pArgs wl n with
  | bad j =>
    rw [q1] at h
    refine seq_g fun V hV => ?_
    walk_at "dz"
    exact h
  | ok a n1 =>
  rw [q1] at h F
  have F1 := F.2.2
  refine seq_g fun V hV => ?_
  walk_at "dz"
  subst hV
  refine seq_g fun V hV => ?_
  walk_at "dz"
  refine spLeI G n1 rfl F1 ?_
  have F2 := fin_conds G F1
  subst hV
  rw [bind_ok] at h
  cases q2 : pConds wl n1 with
  | bad j =>
    rw [q2] at h
    refine seq_g fun V hV => ?_
    walk_at "dz"
    exact h
  | ok c n2 =>
  rw [q2, bind_ok] at h
  rw [q2] at F2
  refine seq_g fun V hV => ?_
  walk_at "dz"
  subst hV
  refine seq_g fun V hV => ?_
  walk_at "dz"
  subst hV
  refine ⟨by decide, ?_⟩
  refine seq_g fun V hV => ?_
  walk_at "dz"
  refine isI G n2 rfl ?_
  cases q3 : see wl n2 "sign" "{" with
  | false =>
    rw [q3] at h
    walk_at "dz"
    subst hV
    walk_at "dz"
    exact ⟨by decide, by decide, h⟩
  | true =>
    rw [q3] at h
    walk_at "dz"
    refine selI G m n2 rfl (by omega) hm F2.2.2 ?_
    cases q4 : pSel wl m n2 with
    | bad j =>
      rw [q4] at h
      walk_at "dz"
      exact h
    | ok s n3 =>
      rw [q4] at h
      walk_at "dz"
      subst hV
      walk_at "dz"
      exact ⟨by decide, by decide, h⟩
theorem hw_l_field_at {m : Nat} (hm : m ≤ 10) : ∀ ds Q E, sp_l_field_at (m + 1) ds Q E → W_l_field_at m { nx := fun _ => Q .non, rt := Q } (ρ0 (["words", "at", "depth", "key", "name", "arguments", "conditions", "inner"] : List Str).length ds) := by
  rintro ds Q E ⟨wl, e, n, rfl, G, hn, h⟩
  have hlen := G.len
  unfold W_l_field_at
  unfold pField at h
  dsimp only at h
  refine seq_g fun V hV => ?_
  walk_at "dz"
  refine kindI G n rfl ?_
  by_cases q1 : kd wl n = "name"
  case neg =>
    rw [if_neg q1] at h
    rw [decide_eq_false q1]
    walk_at "dz"
    exact ⟨by decide, h⟩
  rw [if_pos q1] at h
  rw [decide_eq_true q1]
  have hl1 := kd_lt q1 (by decide)
  walk_at "dz"
  subst hV
  refine seq_g fun V hV => ?_
  walk_at "dz"
  rw [atWI wl n rfl hl1]
  walk_at "dz"
  subst hV
  refine seq_g fun V hV => ?_
  walk_at "dz"
  subst hV
  refine seq_g fun V hV => ?_
  walk_at "dz"
  subst hV
  refine seq_g fun V hV => ?_
  walk_at "dz"
  refine isI G (n + 1) (by omega) ?_
  cases q2 : see wl (n + 1) "sign" ":" with
  | false =>
    rw [q2] at h
    walk_at "dz"
    subst hV
    rw [nat1]
    exact field_tail G hm (n + 1) _ _ hl1 h
  | true =>
    rw [q2] at h
    have hl2 := see_lt q2
    walk_at "dz"
    obtain ⟨s, hs⟩ := wd_str G (n := n) (by rw [q1]; decide)
    rw [hs] at h ⊢
    walk_at "dz"
    by_cases q3 : s = "_type"
    · subst q3
      rw [if_pos rfl, if_pos (by rfl)] at h
      rw [decide_eq_true rfl]
      walk_at "dz"
      exact ⟨by decide, h⟩
    · rw [if_pos rfl, if_neg (by show ¬ decide (s = "_type") = true; rw [decide_eq_true_iff]; exact q3)] at h
      rw [decide_eq_false q3]
      walk_at "dz"
      refine kindI G (n + 2) (by omega) ?_
      by_cases q4 : kd wl (n + 2) = "name"
      · rw [if_pos q4] at h
        rw [decide_eq_true q4]
        have hl3 := kd_lt q4 (by decide)
        walk_at "dz"
        rw [atWI wl (n + 2) (by omega) hl3]
        walk_at "dz"
        subst hV
        rw [show ((n : Int) + 1 + 2) = ((n + 3 : Nat) : Int) by omega]
        exact field_tail G hm (n + 3) _ _ hl3 h
      · rw [if_neg q4] at h
        rw [decide_eq_false q4]
        walk_at "dz"
        exact ⟨by decide, by rw [show ((n : Int) + 1 + 1) = ((n + 2 : Nat) : Int) by omega]; exact h⟩
end K5
set_option Elab.async false
set_option linter.all false
set_option maxRecDepth 100000
set_option maxHeartbeats 4000000
namespace K5
open PySem L2 Dl
local macro_rules | `(tactic| walk_at "dz") => `(tactic| simp only [wSB, wSB1, wVar, wC, wOp, wB, wNotT, wAndT, wOrT, wAndV, wOrV, wNotV, wIfE, wChain, wNil, wCons, wTup, wLst, wNext, wSeq, wSet, wAsg, wDrop, wRet, wRetN, wBrk, wCont, wIf, wiL, wiT, wiR, wFor, wCall0, wCall, wCB, wM0, wM1, wNo, wPart, wSl, wYes, wLc, wipeD, wNeg, wTru, wFmt, wJoined, wJs, wRaise1, wStw, wiS, wAug, wiR2, wSt3, wFind, wApp, wNewL, wFrzL, Sl.OL, wRaiseF, rdCints, rdRep, wPE, wPT, wPS, wSeqX, wNextX, wSetX, wAsgX, wDropX, wRetX, wIfX, wBX, wNotX, wAndX, wOrX, wConsX, wNilX, wTupX, wOpX, wCallX, wRat, wRws, wRinc, wNewL1, wAppX, wFrzX, EndsX.at, rdCtuple, rdInT, rdTabIn, rdTab, wTruO, wLenO, rdSlT, rdRepL, wNameEnd, wgName, wgNil, wgCons, wgTup,
  Sl.V, D.I, D.B, D.S, D.L, D.T, D.K, D.len, D.tru, rdI, rdI0, rdLt, rdLe, rdGt, rdGe, rdEq, rdNe, eqS, rdIsN, rdNotN, rdAdd, rdIx, rdSl, rdInS, rdLen, rdOrd, rdAll, rdAny, rdIsi, rdFmt, rdJoin, rdCint, tyN, ρ0, List.map_cons, List.map_nil, List.length_cons, List.length_nil, List.replicate, List.append, List.cons_append, List.nil_append, List.getElem?_cons_zero, List.getElem?_cons_succ, List.set_cons_zero, List.set_cons_succ, Nat.add_sub_cancel, Nat.sub_self, Nat.zero_add, Nat.reduceAdd, Nat.reduceSub, if_true, if_false, true_and, and_true, decide_true, decide_false, true_or, or_true, ia_NoneType_bool, ia_NoneType_int, ia_NoneType_str, ia_NoneType_list, ia_NoneType_tuple, ia_NoneType_dict, ia_bool_bool, ia_bool_int, ia_bool_str, ia_bool_list, ia_bool_tuple, ia_bool_dict, ia_int_bool, ia_int_int, ia_int_str, ia_int_list, ia_int_tuple, ia_int_dict, ia_str_bool, ia_str_int, ia_str_str, ia_str_list, ia_str_tuple, ia_str_dict, ia_list_bool, ia_list_int, ia_list_str, ia_list_list, ia_list_tuple, ia_list_dict, ia_tuple_bool, ia_tuple_int, ia_tuple_str, ia_tuple_list, ia_tuple_tuple, ia_tuple_dict, ia_dict_bool, ia_dict_int, ia_dict_str, ia_dict_list, ia_dict_tuple, ia_dict_dict, inT_bool, inT_int, inT_str, inT_list, inT_tuple, inT_dict, Bool.false_xor, Bool.true_xor, Bool.not_eq_true, Bool.not_true, Bool.not_false, Bool.false_eq_true, ite_false, ite_true, reduceCtorEq, at3_0', at3_1', at3_2', at2_0, at2_1, encR, dob, dbb])
theorem hw_l_selection_at {m : Nat} : ∀ ds Q E, sp_l_selection_at m ds Q E → W_l_selection_at m { nx := fun _ => Q .non, rt := Q } (ρ0 (["words", "at", "depth", "parts", "k", "part"] : List Str).length ds) := by
  rintro ds Q E ⟨wl, e, n, rfl, G, hm, hn, h⟩
  have hlen := G.len
  unfold W_l_selection_at
  refine seq_ifn (!see wl n "sign" "{" || decide (m = 0)) (fun Q hQ => ?_) (fun hc => ?_) (fun hc => ?_)
  · walk_at "dz"
    refine isI G n rfl ?_
    cases q : see wl n "sign" "{" with
    | false =>
      rw [q] at hQ
      walk_at "dz"
      exact hQ
    | true =>
      rw [q] at hQ
      walk_at "dz"
      have : decide ((10 : Int) < 11 - (m : Int)) = decide (m = 0) := by
        by_cases z : m = 0
        · rw [decide_eq_true z, decide_eq_true (by omega)]
        · rw [decide_eq_false z, decide_eq_false (by omega)]
      first
        | (rw [this]; exact hQ)
        | (have this2 : decide (11 - (m : Int) > (10 : Int)) = decide (m = 0) := this; rw [this2]; exact hQ)
  · walk_at "dz"
    refine ⟨by decide, ?_⟩
    have : pSel wl m n = .bad n := by
      cases m with
      | zero => rfl
      | succ m =>
        unfold pSel
        rw [if_neg]
        intro z
        rw [z, decide_eq_false (Nat.succ_ne_zero m)] at hc
        exact absurd hc (by decide)
    rw [this] at h
    exact h
  cases m with
  | zero => exact absurd hc (by rw [decide_eq_true rfl, Bool.or_true]; decide)
  | succ m =>
  have q : see wl n "sign" "{" = true := by
    cases q : see wl n "sign" "{" with
    | true => rfl
    | false => rw [q] at hc; exact absurd (show true = false from hc) (by decide)
  have hl := see_lt q
  unfold pSel at h
  rw [if_pos q] at h
  refine seq_g fun V hV => ?_
  walk_at "dz"
  subst hV
  refine seq_g fun V hV => ?_
  walk_at "dz"
  subst hV
  walk_at "dz"
  rw [mapw_len]
  refine ⟨by omega, ?_⟩
  refine loop_law (p := pPart wl (pSel wl m)) (b := 2 * m + 3 + 1) (close := "}") G (fin_part G (fin_sel G m) (by omega)) (fun ρ n acc => ∃ a b, ρ = [.val (.lst (wl.map encW)), .val (.int (n : Nat)), .val (.int (11 - ((m + 1 : Nat) : Int))), .ol acc, a, b]) ?_ _ _ (n + 1) [] (wl.length + 1) ⟨_, _, by rw [nat1]⟩ hl (by rw [rngD_len0]; omega) (by omega) (Nat.zero_le _) h
  rintro x ρ n acc N ⟨a, b, rfl⟩ h1 h2 hk
  unfold W_l_selection_at_b1
  refine seq_ifn (!acc.isEmpty && see wl n "sign" "}") (fun Q hQ => and_t _ _ (fun Q hQ => by walk_at "dz"; exact hQ) (fun _ Q hQ => by walk_at "dz"; exact isI G n rfl (by walk_at "dz"; exact hQ)) hQ) (fun hc => ?_) (fun hc => ?_)
  · rw [if_pos hc] at hk
    walk_at "dz"
    exact ⟨by decide, hk⟩
  rw [if_neg (by rw [hc]; decide)] at hk
  refine seq_g fun V hV => ?_
  walk_at "dz"
  refine isI G n rfl ?_
  unfold pPart at hk
  have go : ∀ r : RR, (match r with | .bad m => Q (encR (.bad m)) | .ok v n' => ∀ ρ', (∃ a b, ρ' = [.val (.lst (wl.map encW)), .val (.int (n' : Nat)), .val (.int (11 - ((m + 1 : Nat) : Int))), .ol (acc ++ [v]), a, b]) → N ρ') → V [.val (.lst (wl.map encW)), .val (.int (n : Nat)), .val (.int (11 - ((m + 1 : Nat) : Int))), .ol acc, .val x, .val (encR r)] := by
    intro r hr
    subst hV
    refine seq_g fun V hV => ?_
    cases r with
    | bad j =>
      walk_at "dz"
      exact hr
    | ok v n' =>
      walk_at "dz"
      subst hV
      walk_at "dz"
      exact ⟨by omega, hr _ ⟨_, _, rfl⟩⟩
  cases q1 : see wl n "sign" "..." with
  | true =>
    rw [q1] at hk
    have hl1 := see_lt q1
    walk_at "dz"
    exact spLmI G m (n + 1) (by omega) (by omega) hl1 (go _ hk)
  | false =>
    rw [q1] at hk
    walk_at "dz"
    exact spLmI G m n rfl (by omega) h1 (go _ hk)
theorem len_l_fragment_at {ds : List D} {Q : D → Prop} {E : Exn → Prop} (h : sp_l_fragment_at ds Q E) : ds.length = (["words", "at", "count"] : List Str).length := by
  obtain ⟨wl, e, n, c, rfl, _⟩ := h
  rfl
theorem hw_l_fragment_at : ∀ ds Q E, sp_l_fragment_at ds Q E → W_l_fragment_at { nx := fun _ => Q .non, rt := Q } (ρ0 (["words", "at", "count", "inner"] : List Str).length ds) := by
  rintro ds Q E ⟨wl, e, n, c, rfl, G, hn, h⟩
  have hlen := G.len
  unfold W_l_fragment_at
  unfold pFrag at h
  refine seq_ifn (!see wl n "name" "fragment" || decide (c = 10)) (fun Q hQ => ?_) (fun hc => ?_) (fun hc => ?_)
  · walk_at "dz"
    refine isI G n rfl ?_
    cases q : see wl n "name" "fragment" with
    | false =>
      rw [q] at hQ
      walk_at "dz"
      exact hQ
    | true =>
      rw [q] at hQ
      walk_at "dz"
      have : decide ((c : Int) = 10) = decide (c = 10) := by
        by_cases z : c = 10
        · rw [decide_eq_true z, decide_eq_true (by omega)]
        · rw [decide_eq_false z, decide_eq_false (by omega)]
      rw [this]
      exact hQ
  · walk_at "dz"
    refine ⟨by decide, ?_⟩
    by_cases z : c = 10
    · rw [if_pos z] at h
      exact h
    · rw [decide_eq_false z, Bool.or_false] at hc
      rw [if_neg z, if_neg (by intro y; rw [y] at hc; exact absurd hc (by decide))] at h
      exact h
  have z : c ≠ 10 := by
    intro z
    rw [decide_eq_true z, Bool.or_true] at hc
    exact absurd hc (by decide)
  have q : see wl n "name" "fragment" = true := by
    cases q : see wl n "name" "fragment" with
    | true => rfl
    | false => rw [q] at hc; exact absurd (show true = false from hc) (by decide)
  have hl := see_lt q
  rw [if_neg z, if_pos q] at h
  refine seq_ifn (!plainAt wl (n + 1) || isS (wd wl (n + 1)) "on") (fun Q hQ => ?_) (fun hc => ?_) (fun hc => ?_)
  · walk_at "dz"
    refine spLI G (n + 1) (by omega) (by omega) ?_
    cases q1 : plainAt wl (n + 1) with
    | false =>
      rw [q1] at hQ
      walk_at "dz"
      exact hQ
    | true =>
      rw [q1] at hQ
      have hl1 := plain_lt q1
      walk_at "dz"
      rw [atWI wl (n + 1) (by omega) hl1]
      walk_at "dz"
      obtain ⟨s, hs⟩ := wd_str G (n := n + 1) (by unfold plainAt at q1; rw [of_decide_eq_true (Bool.and_eq_true_iff.mp q1).1]; decide)
      rw [hs] at hQ ⊢
      walk_at "dz"
      exact hQ
  · walk_at "dz"
    refine ⟨by decide, ?_⟩
    rw [if_neg] at h
    · exact h
    · rintro ⟨y1, y2⟩
      rw [y1, y2] at hc
      exact absurd hc (by decide)
  have q1 : plainAt wl (n + 1) = true ∧ isS (wd wl (n + 1)) "on" = false := by
    cases y1 : plainAt wl (n + 1) <;> cases y2 : isS (wd wl (n + 1)) "on" <;> rw [y1, y2] at hc <;> first | exact ⟨rfl, rfl⟩ | exact absurd hc (by decide)
  have hl1 := plain_lt q1.1
  rw [if_pos q1] at h
  refine seq_g fun V hV => ?_
  walk_at "dz"
  refine isI G (n + 2) (by omega) ?_
  cases q2 : see wl (n + 2) "name" "on" with
  | false =>
    rw [q2] at h
    walk_at "dz"
    exact ⟨by decide, h⟩
  | true =>
  rw [q2] at h
  have hl2 := see_lt q2
  walk_at "dz"
  subst hV
  refine seq_g fun V hV => ?_
  walk_at "dz"
  refine spLI G (n + 3) (by omega) (by omega) ?_
  cases q3 : plainAt wl (n + 3) with
  | false =>
    rw [q3] at h
    walk_at "dz"
    exact ⟨by decide, h⟩
  | true =>
  rw [q3] at h
  have hl3 := plain_lt q3
  walk_at "dz"
  subst hV
  refine seq_g fun V hV => ?_
  walk_at "dz"
  refine selI G 10 (n + 4) (by omega) (by decide) (by decide) (by omega) ?_
  subst hV
  cases q4 : pSel wl 10 (n + 4) with
  | bad j =>
    rw [q4] at h
    walk_at "dz"
    exact h
  | ok s n1 =>
    rw [q4] at h
    walk_at "dz"
    rw [atWI wl (n + 1) (by omega) hl1]
    walk_at "dz"
    rw [atWI wl (n + 3) (by omega) hl3]
    walk_at "dz"
    exact ⟨by decide, by decide, h⟩
end K5
set_option Elab.async false
set_option linter.all false
set_option maxRecDepth 100000
set_option maxHeartbeats 4000000
namespace K5
open PySem L2 Dl
local macro_rules | `(tactic| walk_at "dz") => `(tactic| simp only [wSB, wSB1, wVar, wC, wOp, wB, wNotT, wAndT, wOrT, wAndV, wOrV, wNotV, wIfE, wChain, wNil, wCons, wTup, wLst, wNext, wSeq, wSet, wAsg, wDrop, wRet, wRetN, wBrk, wCont, wIf, wiL, wiT, wiR, wFor, wCall0, wCall, wCB, wM0, wM1, wNo, wPart, wSl, wYes, wLc, wipeD, wNeg, wTru, wFmt, wJoined, wJs, wRaise1, wStw, wiS, wAug, wiR2, wSt3, wFind, wApp, wNewL, wFrzL, Sl.OL, wRaiseF, rdCints, rdRep, wPE, wPT, wPS, wSeqX, wNextX, wSetX, wAsgX, wDropX, wRetX, wIfX, wBX, wNotX, wAndX, wOrX, wConsX, wNilX, wTupX, wOpX, wCallX, wRat, wRws, wRinc, wNewL1, wAppX, wFrzX, EndsX.at, rdCtuple, rdInT, rdTabIn, rdTab, wTruO, wLenO, rdSlT, rdRepL, wNameEnd, wgName, wgNil, wgCons, wgTup,
  Sl.V, D.I, D.B, D.S, D.L, D.T, D.K, D.len, D.tru, rdI, rdI0, rdLt, rdLe, rdGt, rdGe, rdEq, rdNe, eqS, rdIsN, rdNotN, rdAdd, rdIx, rdSl, rdInS, rdLen, rdOrd, rdAll, rdAny, rdIsi, rdFmt, rdJoin, rdCint, tyN, ρ0, List.map_cons, List.map_nil, List.length_cons, List.length_nil, List.replicate, List.append, List.cons_append, List.nil_append, List.getElem?_cons_zero, List.getElem?_cons_succ, List.set_cons_zero, List.set_cons_succ, Nat.add_sub_cancel, Nat.sub_self, Nat.zero_add, Nat.reduceAdd, Nat.reduceSub, if_true, if_false, true_and, and_true, decide_true, decide_false, true_or, or_true, ia_NoneType_bool, ia_NoneType_int, ia_NoneType_str, ia_NoneType_list, ia_NoneType_tuple, ia_NoneType_dict, ia_bool_bool, ia_bool_int, ia_bool_str, ia_bool_list, ia_bool_tuple, ia_bool_dict, ia_int_bool, ia_int_int, ia_int_str, ia_int_list, ia_int_tuple, ia_int_dict, ia_str_bool, ia_str_int, ia_str_str, ia_str_list, ia_str_tuple, ia_str_dict, ia_list_bool, ia_list_int, ia_list_str, ia_list_list, ia_list_tuple, ia_list_dict, ia_tuple_bool, ia_tuple_int, ia_tuple_str, ia_tuple_list, ia_tuple_tuple, ia_tuple_dict, ia_dict_bool, ia_dict_int, ia_dict_str, ia_dict_list, ia_dict_tuple, ia_dict_dict, inT_bool, inT_int, inT_str, inT_list, inT_tuple, inT_dict, Bool.false_xor, Bool.true_xor, Bool.not_eq_true, Bool.not_true, Bool.not_false, Bool.false_eq_true, ite_false, ite_true, reduceCtorEq, at3_0', at3_1', at3_2', at2_0, at2_1, encR, dob, dbb])
theorem spl_w3 : ∀ (m : Nat) (l : List Nat) (i : Nat) (ws : List D), l.length ≤ m → i + l.length ≤ 1000 → (∀ c ∈ l, gd c = true) → spl i l = .inr ws → ∃ wl : List W3, ws = wl.map encW ∧ wl.length ≤ l.length ∧ ∀ x ∈ wl, (0 ≤ x.1 ∧ x.1 ≤ 1000) ∧ x.2.1 ∈ kinds ∧ wordy x.2.2 ∧ (x.2.1 ≠ "number" → ∃ s, x.2.2 = .str s)
  | _, [], i, ws, _, _, _, e => by
    rw [spl_nil] at e
    cases e
    exact ⟨[], rfl, Nat.le_refl _, fun x h => (nomatch h)⟩
  | 0, c :: r, i, ws, h, _, _, _ => by simp at h
  | m + 1, c :: r, i, ws, h, hi, hg, e => by
    simp only [List.length_cons] at h hi
    cases hb : isBlk c with
    | true =>
      rw [spl_blk hb] at e
      obtain ⟨wl, h1, h2, h3⟩ := spl_w3 m r (i + 1) ws (by omega) (by omega) (fun c h => hg c (List.mem_cons_of_mem _ h)) e
      exact ⟨wl, h1, by simp only [List.length_cons]; omega, h3⟩
    | false =>
      rw [spl_word hb] at e
      cases hw : wordL (c :: r) with
      | none => rw [hw] at e; cases e
      | some x =>
        obtain ⟨k, d, n⟩ := x
        rw [hw] at e
        simp only at e
        obtain ⟨n1, n2, hk, hkk⟩ := wordL_ok hw
        cases hs : spl (i + n) ((c :: r).drop n) with
        | inl j => rw [hs] at e; cases e
        | inr us =>
          rw [hs] at e
          simp only [Sum.inr.injEq] at e
          subst e
          simp only [List.length_cons] at n2
          obtain ⟨wl, h1, h2, h3⟩ := spl_w3 m ((c :: r).drop n) (i + n) us (by rw [List.length_drop, List.length_cons]; omega) (by rw [List.length_drop, List.length_cons]; omega) (fun c h => hg c (List.mem_of_mem_drop h)) hs
          rw [List.length_drop, List.length_cons] at h2
          refine ⟨((i : Nat), k, d) :: wl, by rw [h1]; rfl, by simp only [List.length_cons]; omega, fun x hx => ?_⟩
          rcases List.mem_cons.mp hx with rfl | hx
          · refine ⟨⟨by show (0 : Int) ≤ (i : Nat); omega, by show ((i : Nat) : Int) ≤ 1000; omega⟩, ?_, ?_, ?_⟩
            · show k ∈ kinds
              rcases hkk with rfl | rfl | rfl | rfl | rfl <;> decide
            · rcases hk with ⟨_, j, rfl⟩ | ⟨_, s, rfl, hs⟩
              · exact .inl ⟨j, rfl⟩
              · refine .inr ⟨s, rfl, strOk_lt fun c hc => ?_⟩
                rcases hs c hc with h | h
                · exact gd_lt (hg c h)
                · omega
            · intro hn
              rcases hk with ⟨z, _⟩ | ⟨_, s, e, _⟩
              · exact absurd z hn
              · exact ⟨s, e⟩
          · exact h3 x hx
theorem toW_enc (wl : List W3) : (wl.map encW).map toW = wl := by
  induction wl with
  | nil => rfl
  | cons x r ih =>
    obtain ⟨i, k, d⟩ := x
    show (i, k, d) :: (r.map encW).map toW = _
    rw [ih]
theorem spl_good {t : Str} {ws : List D} (hl : t.length ≤ 1000) (hg : ∀ c ∈ cs t, gd c = true) (h : spl 0 (cs t) = .inr ws) : ws = (ws.map toW).map encW ∧ GoodW (ws.map toW) t.length := by
  have e : (cs t).length = t.length := cs_len t
  obtain ⟨wl, h1, h2, h3⟩ := spl_w3 _ (cs t) 0 ws (Nat.le_refl _) (by omega) hg h
  have : ws.map toW = wl := by rw [h1, toW_enc]
  rw [this]
  refine ⟨h1, ?_⟩
  exact ⟨by omega, by omega, by omega, fun x hx => (h3 x hx).1, fun x hx => (h3 x hx).2.1, fun x hx => (h3 x hx).2.2.1, fun x hx => (h3 x hx).2.2.2⟩
theorem len_l_document_at {ds : List D} {Q : D → Prop} {E : Exn → Prop} (h : sp_l_document_at ds Q E) : ds.length = (["words"] : List Str).length := by
  obtain ⟨wl, e, rfl, _⟩ := h
  rfl
theorem frags_more {wl : List W3} {e : Int} (G : GoodW wl e) : ∀ (f g n : Nat) (acc : List D), wl.length + 1 ≤ n + f → wl.length + 1 ≤ n + g → n ≤ wl.length → fragsF wl f n acc = fragsF wl g n acc
  | 0, g, n, acc, h1, h2, h3 => by omega
  | f + 1, 0, n, acc, h1, h2, h3 => by omega
  | f + 1, g + 1, n, acc, h1, h2, h3 => by
    unfold fragsF
    by_cases q : n < wl.length
    · rw [if_pos q, if_pos q]
      by_cases q1 : acc.length = 10
      · rw [if_pos q1, if_pos q1]
      · rw [if_neg q1, if_neg q1]
        have F := fin_frag G n
        cases q2 : pFrag wl n with
        | bad m => rfl
        | ok d n' =>
          rw [q2] at F
          have f1 := F.2.1
          have f2 := F.2.2
          exact frags_more G f g n' _ (by omega) (by omega) f2
    · rw [if_neg q, if_neg q]
theorem fin_frag_lo {wl : List W3} {e : Int} (G : GoodW wl e) {n n' : Nat} {d : D} (h : pFrag wl n = .ok d n') : n < n' ∧ n' ≤ wl.length := by
  have F := fin_frag G n
  rw [h] at F
  exact ⟨F.2.1, F.2.2⟩
theorem hw_l_document_at : ∀ ds Q E, sp_l_document_at ds Q E → W_l_document_at { nx := fun _ => Q .non, rt := Q } (ρ0 (["words", "declared", "selection", "fragments", "at", "k", "found"] : List Str).length ds) := by
  rintro ds Q E ⟨wl, e, rfl, G, h⟩
  have hlen := G.len
  unfold W_l_document_at
  unfold pDoc at h
  refine seq_g fun V hV => ?_
  walk_at "dz"
  refine isI G 0 rfl ?_
  cases q : see wl 0 "name" "query" with
  | false =>
    rw [q] at h
    walk_at "dz"
    exact ⟨by decide, h⟩
  | true =>
  rw [q] at h
  have hl := see_lt q
  walk_at "dz"
  subst hV
  refine seq_g fun V hV => ?_
  walk_at "dz"
  refine spLeI G 1 rfl hl ?_
  subst hV
  have F1 := fin_decls G (n := 1) hl
  cases q1 : pDecls wl 1 with
  | bad j =>
    rw [q1] at h
    refine seq_g fun V hV => ?_
    walk_at "dz"
    exact h
  | ok vs n1 =>
  rw [q1] at h F1
  rw [if_pos rfl, bind_ok] at h
  refine seq_g fun V hV => ?_
  walk_at "dz"
  subst hV
  refine seq_g fun V hV => ?_
  walk_at "dz"
  refine selI G 10 n1 rfl (by decide) (by decide) F1.2.2 ?_
  subst hV
  have F2 := fin_sel G 10 n1
  cases q2 : pSel wl 10 n1 with
  | bad j =>
    rw [q2] at h
    refine seq_g fun V hV => ?_
    walk_at "dz"
    exact h
  | ok sl n2 =>
  rw [q2] at F2
  rw [q2, bind_ok] at h
  refine seq_g fun V hV => ?_
  walk_at "dz"
  subst hV
  refine seq_g fun V hV => ?_
  walk_at "dz"
  subst hV
  refine seq_g fun V hV => ?_
  walk_at "dz"
  subst hV
  refine seq_g fun V hV => ?_
  walk_at "dz"
  rw [mapw_len]
  refine ⟨by omega, ?_⟩
  refine for_rule (fun xs ρ => ∃ (n : Nat) (acc : List D) (a b : Sl), ρ = [.val (.lst (wl.map encW)), .val (encR (.ok vs n1)), .val (encR (.ok sl n2)), .ol acc, .val (.int (n : Nat)), a, b] ∧ n ≤ wl.length ∧ acc.length ≤ n ∧ wl.length ≤ n + xs.length ∧ Q (encR ((fragsF wl (wl.length + 1) n acc).bind fun fr n3 => .ok (.tup [vs, sl, fr]) n3))) ?_ ?_ _ _ ⟨n2, [], _, _, rfl, F2.2.2, Nat.zero_le _, by rw [rngD_len0]; omega, h⟩
  · rintro x xs ρ N ⟨n, acc, a, b, rfl, h1, h2, h3, hk⟩ ih
    simp only [List.length_cons] at h3
    unfold W_l_document_at_b1
    walk_at "dz"
    rw [mapw_len]
    by_cases q3 : n < wl.length
    · rw [decide_eq_true (by omega)]
      walk_at "dz"
      refine ⟨wl, e, n, acc.length, rfl, G, h1, ?_⟩
      unfold fragsF at hk
      rw [if_pos q3] at hk
      by_cases q4 : acc.length = 10
      · rw [if_pos q4] at hk
        rw [if_pos q4]
        walk_at "dz"
        exact hk
      · rw [if_neg q4] at hk
        rw [if_neg q4]
        cases q5 : pFrag wl n with
        | bad j =>
          rw [q5] at hk
          walk_at "dz"
          exact hk
        | ok d n' =>
          rw [q5] at hk
          obtain ⟨f1, f2⟩ := fin_frag_lo G q5
          dsimp only at hk
          rw [frags_more G wl.length (wl.length + 1) n' _ (by omega) (by omega) f2] at hk
          walk_at "dz"
          refine ⟨by omega, ?_⟩
          exact ih _ ⟨n', acc ++ [d], .val x, .val (encR (.ok d n')), rfl, f2, by rw [List.length_append]; simp only [List.length_cons, List.length_nil]; omega, by omega, hk⟩
    · rw [decide_eq_false (by omega)]
      walk_at "dz"
      exact ih _ ⟨n, acc, _, _, rfl, h1, h2, by omega, hk⟩
  · rintro ρ ⟨n, acc, a, b, rfl, h1, h2, h3, hk⟩
    subst hV
    simp only [List.length_nil] at h3
    unfold fragsF at hk
    rw [if_neg (by omega), bind_ok] at hk
    walk_at "dz"
    exact ⟨by decide, by decide, hk⟩
theorem len_l_expected {ds : List D} {Q : D → Prop} {E : Exn → Prop} (h : sp_l_expected ds Q E) : ds.length = (["text"] : List Str).length := by
  obtain ⟨t, rfl, _⟩ := h
  rfl
theorem dff : decide (("fault" : Str) = "fault") = true := by decide
theorem dwf : decide (("words" : Str) = "fault") = false := by decide
theorem dbo : decide (("bad" : Str) = "ok") = false := by decide
theorem doo : decide (("ok" : Str) = "ok") = true := by decide
theorem pl_any {wl : List W3} {n : Nat} {e e' : Int} (h : n < wl.length) : pl wl e n = pl wl e' n := by
  unfold pl
  rw [List.getElem?_eq_getElem h]
theorem pl_end {wl : List W3} {n : Nat} {e : Int} (h : ¬ n < wl.length) : pl wl e n = e := by
  unfold pl
  rw [List.getElem?_eq_none_iff.mpr (by omega)]
theorem hw_l_expected : ∀ ds Q E, sp_l_expected ds Q E → W_l_expected { nx := fun _ => Q .non, rt := Q } (ρ0 (["text", "words", "found", "place"] : List Str).length ds) := by
  rintro ds Q E ⟨t, rfl, hl, hg, h⟩
  unfold W_l_expected
  refine seq_g fun V hV => ?_
  walk_at "dz"
  refine ⟨t, rfl, hl, hg, ?_⟩
  subst hV
  unfold W_l_expected_s1
  unfold resD at h
  cases hs : spl 0 (cs t) with
  | inl j =>
    rw [hs] at h
    refine seq_g fun V hV => ?_
    unfold encS
    walk_at "dz"
    exact h
  | inr ws =>
    rw [hs] at h
    dsimp only at h
    obtain ⟨hw, G⟩ := spl_good hl hg hs
    generalize ws.map toW = wl at hw G h
    subst hw
    unfold encS
    refine seq_g fun V hV => ?_
    walk_at "dz"
    rw [dwf]
    walk_at "dz"
    subst hV
    unfold W_l_expected_s2
    refine seq_g fun V hV => ?_
    walk_at "dz"
    refine ⟨wl, _, rfl, G, ?_⟩
    subst hV
    unfold W_l_expected_s3
    cases hp : pDoc wl with
    | ok d n =>
      rw [hp] at h
      refine seq_g fun V hV => ?_
      walk_at "dz"
      exact ⟨by decide, h⟩
    | bad m =>
      rw [hp] at h
      refine seq_g fun V hV => ?_
      walk_at "dz"
      rw [dbo]
      walk_at "dz"
      subst hV
      unfold W_l_expected_s4
      refine seq_g fun V hV => ?_
      walk_at "dz"
      subst hV
      unfold W_l_expected_s5
      rw [if_pos (show t.length ≤ 1000000 by omega)]
      walk_at "dz"
      rw [mapw_len]
      dsimp only at h
      by_cases q : m < wl.length
      · rw [decide_eq_true (by omega)]
        walk_at "dz"
        rw [atW wl q]
        walk_at "dz"
        unfold W_l_expected_s6
        walk_at "dz"
        rw [pl_any (e' := 0) q] at h
        exact ⟨by decide, h⟩
      · rw [decide_eq_false (by omega)]
        walk_at "dz"
        unfold W_l_expected_s6
        walk_at "dz"
        rw [pl_end q] at h
        exact ⟨by decide, h⟩
end K5
set_option Elab.async false
set_option linter.all false
set_option maxRecDepth 100000
set_option maxHeartbeats 4000000
namespace K5
open PySem L2 Dl
local macro_rules | `(tactic| walk_at "dz") => `(tactic| simp only [wSB, wSB1, wVar, wC, wOp, wB, wNotT, wAndT, wOrT, wAndV, wOrV, wNotV, wIfE, wChain, wNil, wCons, wTup, wLst, wNext, wSeq, wSet, wAsg, wDrop, wRet, wRetN, wBrk, wCont, wIf, wiL, wiT, wiR, wFor, wCall0, wCall, wCB, wM0, wM1, wNo, wPart, wSl, wYes, wLc, wipeD, wNeg, wTru, wFmt, wJoined, wJs, wRaise1, wStw, wiS, wAug, wiR2, wSt3, wFind, wApp, wNewL, wFrzL, Sl.OL, wRaiseF, rdCints, rdRep, wPE, wPT, wPS, wSeqX, wNextX, wSetX, wAsgX, wDropX, wRetX, wIfX, wBX, wNotX, wAndX, wOrX, wConsX, wNilX, wTupX, wOpX, wCallX, wRat, wRws, wRinc, wNewL1, wAppX, wFrzX, EndsX.at, rdCtuple, rdInT, rdTabIn, rdTab, wTruO, wLenO, rdSlT, rdRepL, wNameEnd, wgName, wgNil, wgCons, wgTup,
  Sl.V, D.I, D.B, D.S, D.L, D.T, D.K, D.len, D.tru, rdI, rdI0, rdLt, rdLe, rdGt, rdGe, rdEq, rdNe, eqS, rdIsN, rdNotN, rdAdd, rdIx, rdSl, rdInS, rdLen, rdOrd, rdAll, rdAny, rdIsi, rdFmt, rdJoin, rdCint, tyN, ρ0, List.map_cons, List.map_nil, List.length_cons, List.length_nil, List.replicate, List.append, List.cons_append, List.nil_append, List.getElem?_cons_zero, List.getElem?_cons_succ, List.set_cons_zero, List.set_cons_succ, Nat.add_sub_cancel, Nat.sub_self, Nat.zero_add, Nat.reduceAdd, Nat.reduceSub, if_true, if_false, true_and, and_true, decide_true, decide_false, true_or, or_true, ia_NoneType_bool, ia_NoneType_int, ia_NoneType_str, ia_NoneType_list, ia_NoneType_tuple, ia_NoneType_dict, ia_bool_bool, ia_bool_int, ia_bool_str, ia_bool_list, ia_bool_tuple, ia_bool_dict, ia_int_bool, ia_int_int, ia_int_str, ia_int_list, ia_int_tuple, ia_int_dict, ia_str_bool, ia_str_int, ia_str_str, ia_str_list, ia_str_tuple, ia_str_dict, ia_list_bool, ia_list_int, ia_list_str, ia_list_list, ia_list_tuple, ia_list_dict, ia_tuple_bool, ia_tuple_int, ia_tuple_str, ia_tuple_list, ia_tuple_tuple, ia_tuple_dict, ia_dict_bool, ia_dict_int, ia_dict_str, ia_dict_list, ia_dict_tuple, ia_dict_dict, inT_bool, inT_int, inT_str, inT_list, inT_tuple, inT_dict, Bool.false_xor, Bool.true_xor, Bool.not_eq_true, Bool.not_true, Bool.not_false, Bool.false_eq_true, ite_false, ite_true, reduceCtorEq, at3_0', at3_1', at3_2', at2_0, at2_1, encR, dob, dbb])
theorem cutD_take (xs : List D) (n : Nat) : cutD xs none (some (n : Int)) = xs.take n := by
  unfold cutD
  rw [HT.sIx_none, HT.sIx_nat, List.drop_zero, Nat.sub_zero, List.take_eq_take_iff]
  omega
theorem cutD_drop (xs : List D) (n : Nat) : cutD xs (some (n : Int)) none = xs.drop n := by
  unfold cutD
  rw [HT.sIx_none, HT.sIx_nat]
  by_cases h : n ≤ xs.length
  · rw [Nat.min_eq_left h, List.take_of_length_le (by rw [List.length_drop]; exact Nat.le_refl _)]
  · rw [Nat.min_eq_right (by omega), List.drop_eq_nil_of_le (Nat.le_refl _), List.drop_eq_nil_of_le (show xs.length ≤ n by omega), List.take_nil]
theorem siz_app (a b : List D) : siz (a ++ b) = siz a + siz b := by
  unfold siz
  rw [List.map_append, List.sum_append]
theorem siz_cons (d : D) (r : List D) : siz (d :: r) = sizW d + siz r := rfl
theorem siz_td (l : List D) (n : Nat) : siz (l.take n) + siz (l.drop n) = siz l := by
  rw [← siz_app, List.take_append_drop]
theorem siz_d1 (l : List D) (n : Nat) : siz (l.drop (n + 1)) ≤ siz (l.drop n) := by
  by_cases h : n < l.length
  · rw [List.drop_eq_getElem_cons h, siz_cons]
    omega
  · rw [List.drop_eq_nil_of_le (by omega)]
    exact Nat.zero_le _
theorem siz_rep (n : Nat) (l : List D) : siz (List.replicate n l).flatten = n * siz l := by
  induction n with
  | zero => rw [List.replicate_zero]; simp [siz]
  | succ n ih => rw [List.replicate_succ, List.flatten_cons, siz_app, ih, Nat.succ_mul, Nat.add_comm]
theorem len_rep (n : Nat) (l : List D) : (List.replicate n l).flatten.length = n * l.length := by
  induction n with
  | zero => simp
  | succ n ih => rw [List.replicate_succ, List.flatten_cons, List.length_append, ih, Nat.succ_mul, Nat.add_comm]
theorem okP_app {a b : List D} (h1 : okP a) (h2 : okP b) : okP (a ++ b) := fun d hd => (List.mem_append.mp hd).elim (h1 d) (h2 d)
theorem okP_take {l : List D} (h : okP l) (n : Nat) : okP (l.take n) := fun d hd => h d (List.mem_of_mem_take hd)
theorem okP_drop {l : List D} (h : okP l) (n : Nat) : okP (l.drop n) := fun d hd => h d (List.mem_of_mem_drop hd)
theorem okP_rep {l : List D} (h : okP l) (n : Nat) : okP (List.replicate n l).flatten := fun d hd => by
  obtain ⟨x, hx, hd⟩ := List.mem_flatten.mp hd
  rw [List.eq_of_mem_replicate hx] at hd
  exact h d hd
theorem okP_map {ss : List Str} (h : ∀ s ∈ ss, s.length ≤ 8 ∧ ∀ c ∈ cs s, gd c = true) : okP (ss.map .str) := fun d hd => by
  obtain ⟨s, hs, rfl⟩ := List.mem_map.mp hd
  exact ⟨s, rfl, (h s hs).1, (h s hs).2⟩
theorem okW_siz {d : D} (h : okW d) : sizW d ≤ 9 := by
  obtain ⟨s, rfl, h1, _⟩ := h
  show s.length + 1 ≤ 9
  omega
def base0 : List Str := [("query" : Str), ("{" : Str), ("a" : Str), (":" : Str), ("b" : Str), ("(" : Str), ("n" : Str), (":" : Str), ("$v" : Str), ("t" : Str), (":" : Str), ("true" : Str), (")" : Str), ("@" : Str), ("if" : Str), ("(" : Str), ("$w" : Str), (")" : Str), ("{" : Str), ("c" : Str), ("}" : Str), ("..." : Str), ("on" : Str), ("A" : Str), ("{" : Str), ("d" : Str), ("_type" : Str), ("}" : Str), ("..." : Str), ("F" : Str), ("@" : Str), ("unless" : Str), ("(" : Str), ("false" : Str), (")" : Str), ("..." : Str), ("{" : Str), ("e" : Str), ("}" : Str), ("}" : Str), ("fragment" : Str), ("F" : Str), ("on" : Str), ("A" : Str), ("{" : Str), ("g" : Str), ("}" : Str)]
def base1 : List Str := [("query" : Str), ("(" : Str), ("$v" : Str), (":" : Str), ("Int" : Str), ("!" : Str), ("=" : Str), ("7" : Str), ("$w" : Str), (":" : Str), ("[" : Str), ("[" : Str), ("A" : Str), ("!" : Str), ("]" : Str), ("]" : Str), (")" : Str)]
def base3 : List Str := [("fragment" : Str), ("G" : Str), ("on" : Str), ("B" : Str), ("{" : Str), ("a" : Str), ("}" : Str)]
def newW : List Str := [("{" : Str), ("}" : Str), ("(" : Str), (")" : Str), (":" : Str), ("=" : Str), ("!" : Str), ("[" : Str), ("]" : Str), ("@" : Str), ("..." : Str), ("a" : Str), ("on" : Str), ("if" : Str), ("true" : Str), ("null" : Str), ("$v" : Str), ("7" : Str), ("\"x\"" : Str), ("_type" : Str), ("query" : Str), ("fragment" : Str), ("[[[[[[" : Str), ("." : Str)]
theorem base0_ok : ∀ s ∈ base0, s.length ≤ 8 ∧ ∀ c ∈ cs s, gd c = true := by decide +kernel
theorem base1_ok : ∀ s ∈ base1, s.length ≤ 8 ∧ ∀ c ∈ cs s, gd c = true := by decide +kernel
theorem base3_ok : ∀ s ∈ base3, s.length ≤ 8 ∧ ∀ c ∈ cs s, gd c = true := by decide +kernel
theorem newW_ok : ∀ s ∈ newW, s.length ≤ 8 ∧ ∀ c ∈ cs s, gd c = true := by decide +kernel
theorem opn_ok : okP [D.str "{", D.str "a"] := okP_map (ss := [("{" : Str), ("a" : Str)]) (by decide +kernel)
theorem cls_ok : okP [D.str "}"] := okP_map (ss := [("}" : Str)]) (by decide +kernel)
theorem qry_ok : okP [D.str "query"] := okP_map (ss := [("query" : Str)]) (by decide +kernel)
theorem siz_base0 : siz (base0.map .str) = 132 := by decide +kernel
theorem siz_base1 : siz (base1.map .str) = 42 := by decide +kernel
theorem siz_base3 : siz (base3.map .str) = 22 := by decide +kernel
theorem len_l_start {ds : List D} {Q : D → Prop} {E : Exn → Prop} (h : sp_l_start ds Q E) : ds.length = (["state", "script"] : List Str).length := by
  obtain ⟨ns, rfl, _⟩ := h
  rfl
theorem nat_of {d : Int} (h : 0 ≤ d) : ∃ j : Nat, d = (j : Int) := ⟨d.toNat, by omega⟩
theorem hw_l_start : ∀ ds Q E, sp_l_start ds Q E → W_l_start { nx := fun _ => Q .non, rt := Q } (ρ0 (["state", "script", "texts", "kind", "depth"] : List Str).length ds) := by
  rintro ds Q E ⟨ns, rfl, h⟩
  unfold W_l_start
  refine seq_g fun V hV => ?_
  walk_at "dz"
  refine ⟨by decide, ?_⟩
  subst hV
  show wSeq _ _ _ [.val .drw, .val (.scr ns), .val (.lst (base0.map .str)), .un, .un]
  generalize hb : base0.map D.str = bs
  have b1 : okP bs := by rw [← hb]; exact okP_map base0_ok
  have b2 : siz bs = 132 := by rw [← hb]; exact siz_base0
  have b3 : bs.length = 47 := by rw [← hb]; rfl
  refine seq_g fun V hV => ?_
  walk_at "dz"
  refine ⟨ns, 4, rfl, by decide, by decide, fun kind k0 k1 => ?_⟩
  walk_at "dz"
  subst hV
  refine seq_g fun V hV => ?_
  walk_at "dz"
  by_cases q1 : kind = 1
  · rw [decide_eq_true q1]
    walk_at "dz"
    rw [show cutD bs (some 1) none = bs.drop 1 from cutD_drop bs 1]
    have e := siz_td bs 1
    refine ⟨by decide, by rw [List.length_drop]; omega, ?_⟩
    refine h (base1.map D.str ++ bs.drop 1) (okP_app (okP_map base1_ok) (okP_drop b1 1)) ?_ ?_
    · rw [siz_app, siz_base1]
      omega
    · rw [List.length_append]
      exact Nat.le_trans (by decide : 1 ≤ 17) (Nat.le_add_right _ _)
  rw [decide_eq_false q1]
  walk_at "dz"
  subst hV
  refine seq_g fun V hV => ?_
  walk_at "dz"
  by_cases q2 : kind = 2
  · rw [decide_eq_true q2]
    walk_at "dz"
    refine ⟨ns, 6, rfl, by decide, by decide, fun dd d0 d1 => ?_⟩
    walk_at "dz"
    obtain ⟨j, rfl⟩ := nat_of d0
    have e8 : (8 + (j : Int)).toNat = 8 + j := by omega
    rw [e8]
    have l1 : (List.replicate (8 + j) [D.str "{", D.str "a"]).flatten.length = (8 + j) * 2 := len_rep _ _
    have l2 : (List.replicate (8 + j) [D.str "}"]).flatten.length = (8 + j) * 1 := len_rep _ _
    rw [l1, l2]
    have s1 := siz_rep (8 + j) [D.str "{", D.str "a"]
    have s2 := siz_rep (8 + j) [D.str "}"]
    have t1 : siz [D.str "{", D.str "a"] = 4 := by decide +kernel
    have t2 : siz [D.str "}"] = 2 := by decide +kernel
    have t3 : siz [D.str "query"] = 6 := by decide +kernel
    rw [t1] at s1
    rw [t2] at s2
    refine ⟨by decide, by decide, ⟨by omega, by omega, by decide⟩, by omega, by decide, ⟨by omega, by omega, by decide⟩, by omega, ?_⟩
    refine h ([D.str "query"] ++ (List.replicate (8 + j) [D.str "{", D.str "a"]).flatten ++ (List.replicate (8 + j) [D.str "}"]).flatten) (okP_app (okP_app qry_ok (okP_rep opn_ok _)) (okP_rep cls_ok _)) ?_ ?_
    · rw [siz_app, siz_app, s1, s2, t3]
      omega
    · rw [List.length_append, List.length_append]
      exact Nat.le_trans (by decide : 1 ≤ 1) (Nat.le_trans (Nat.le_add_right _ _) (Nat.le_add_right _ _))
  rw [decide_eq_false q2]
  walk_at "dz"
  subst hV
  refine seq_g fun V hV => ?_
  walk_at "dz"
  by_cases q3 : kind = 3
  · rw [decide_eq_true q3]
    walk_at "dz"
    refine ⟨by decide, ns, 5, rfl, by decide, by decide, fun dd d0 d1 => ?_⟩
    walk_at "dz"
    obtain ⟨j, rfl⟩ := nat_of d0
    have e8 : (7 + (j : Int)).toNat = 7 + j := by omega
    rw [e8]
    show (0 ≤ 7 + (j : Int) ∧ 7 + (j : Int) ≤ 1000 ∧ 7 ≤ 1000) ∧ bs.length + (List.replicate (7 + j) (base3.map D.str)).flatten.length ≤ 1000000 ∧ Q (.lst (bs ++ (List.replicate (7 + j) (base3.map D.str)).flatten))
    have l1 : (List.replicate (7 + j) (base3.map D.str)).flatten.length = (7 + j) * 7 := len_rep _ _
    have s1 := siz_rep (7 + j) (base3.map D.str)
    rw [siz_base3] at s1
    refine ⟨⟨by omega, by omega, by decide⟩, by omega, ?_⟩
    refine h _ (okP_app b1 (okP_rep (okP_map base3_ok) _)) ?_ ?_
    · rw [siz_app, s1, b2]
      omega
    · rw [List.length_append]
      omega
  rw [decide_eq_false q3]
  walk_at "dz"
  subst hV
  walk_at "dz"
  exact h _ b1 (by omega) (by omega)
theorem glue_ok : ∀ (r : List Str), (PySem.StrLaws.glueL [32] r).length = (r.map fun s => s.length + 1).sum ∧ ∀ c ∈ PySem.StrLaws.glueL [32] r, c = 32 ∨ ∃ s ∈ r, c ∈ cs s
  | [] => ⟨rfl, fun c hc => nomatch hc⟩
  | p :: r => by
    obtain ⟨h1, h2⟩ := glue_ok r
    have e : PySem.StrLaws.glueL [32] (p :: r) = [32] ++ cs p ++ PySem.StrLaws.glueL [32] r := rfl
    rw [e]
    refine ⟨?_, fun c hc => ?_⟩
    · rw [List.length_append, List.length_append, h1, List.map_cons, List.sum_cons, cs_len]
      simp only [List.length_cons, List.length_nil]
      omega
    · rcases List.mem_append.mp hc with hc | hc
      · rcases List.mem_append.mp hc with hc | hc
        · exact .inl (by simpa using hc)
        · exact .inr ⟨p, List.mem_cons_self, hc⟩
      · rcases h2 c hc with h | ⟨s, hs, h⟩
        · exact .inl h
        · exact .inr ⟨s, List.mem_cons_of_mem _ hs, h⟩
theorem join_ok {ys : List Str} (h : ∀ s ∈ ys, ∀ c ∈ cs s, gd c = true) : (Txt.join " " ys).length ≤ (ys.map fun s => s.length + 1).sum ∧ ∀ c ∈ cs (Txt.join " " ys), gd c = true := by
  cases ys with
  | nil => exact ⟨Nat.le_refl _, fun c hc => nomatch hc⟩
  | cons p r =>
    have e : cs (Txt.join " " (p :: r)) = PySem.StrLaws.glueT (" " : Str).cps.toList (p :: r) := PySem.StrLaws.glued_list " " p r
    have e2 : PySem.StrLaws.glueT (" " : Str).cps.toList (p :: r) = cs p ++ PySem.StrLaws.glueL [32] r := rfl
    obtain ⟨h1, h2⟩ := glue_ok r
    refine ⟨?_, fun c hc => ?_⟩
    · rw [← cs_len, e, e2, List.length_append, h1, cs_len, List.map_cons, List.sum_cons]
      omega
    · rw [e, e2] at hc
      rcases List.mem_append.mp hc with hc | hc
      · exact h p List.mem_cons_self c hc
      · rcases h2 c hc with z | ⟨s, hs, z⟩
        · rw [z]; decide
        · exact h s (List.mem_cons_of_mem _ hs) c z
theorem okP_strs : ∀ {l : List D}, okP l → ∃ ss : List Str, D.strA l = some ss ∧ (ss.map fun s => s.length + 1).sum = siz l ∧ ss.length = l.length ∧ ∀ s ∈ ss, ∀ c ∈ cs s, gd c = true
  | [], _ => ⟨[], rfl, rfl, rfl, fun s hs => nomatch hs⟩
  | d :: r, h => by
    obtain ⟨s, rfl, h1, h2⟩ := h d List.mem_cons_self
    obtain ⟨ss, e1, e2, e3, e4⟩ := okP_strs fun x hx => h x (List.mem_cons_of_mem _ hx)
    refine ⟨s :: ss, ?_, ?_, ?_, fun x hx => ?_⟩
    · simp only [D.strA, e1]
      rfl
    · rw [List.map_cons, List.sum_cons, e2]
      rfl
    · rw [List.length_cons, List.length_cons, e3]
    · rcases List.mem_cons.mp hx with rfl | hx
      · exact h2
      · exact e4 x hx
theorem eq_same {d : D} {Q : D → Prop} (h : d.ok) (q : Q (.bl true)) : rdEq d d Q := by
  unfold rdEq
  cases d with
  | str x => simpa [eqS] using q
  | int x => simpa [eqS] using q
  | bl x => simpa [eqS] using q
  | non => simpa [eqS] using q
  | lst xs =>
    refine ⟨⟨h, h⟩, ?_⟩
    rw [deq_refl h.1]
    exact q
  | tup xs =>
    refine ⟨⟨h, h⟩, ?_⟩
    rw [deq_refl h.1]
    exact q
  | dic _ => exact absurd h.1 (by simp [D.fit])
  | ins _ _ => exact absurd h.1 (by simp [D.fit])
  | drw => exact absurd h.1 (by simp [D.fit])
  | scr _ => exact absurd h.1 (by simp [D.fit])
  | ty _ => exact absurd h.1 (by simp [D.fit])
  | rf _ => exact absurd h.1 (by simp [D.fit])
  | exc _ _ _ => exact absurd h.1 (by simp [D.fit])
theorem resD_ok {t : Str} (hl : t.length ≤ 1000) (hg : ∀ c ∈ cs t, gd c = true) : (resD t).ok := by
  unfold resD
  cases hs : spl 0 (cs t) with
  | inl j => exact ⟨by simp only [D.fit, D.fitA]; decide +kernel, by simp only [D.dep, D.depA]; omega⟩
  | inr ws =>
    obtain ⟨_, G⟩ := spl_good hl hg hs
    dsimp only
    have F := fin_doc G
    cases hp : pDoc (ws.map toW) with
    | bad m => exact ⟨by simp only [D.fit, D.fitA]; decide +kernel, by simp only [D.dep, D.depA]; omega⟩
    | ok d n =>
      rw [hp] at F
      obtain ⟨f1, f2⟩ := F.1
      exact ⟨by simp only [D.fit, D.fitA, f1]; decide +kernel, by simp only [D.dep, D.depA]; omega⟩
def seps7 : List Str := [("" : Str), (" " : Str), ("\n" : Str)]
theorem seps7_ok : ∀ s ∈ seps7, s.length ≤ 1 ∧ ∀ c ∈ cs s, gd c = true := by decide +kernel
local macro_rules | `(tactic| walk_at "dy") => `(tactic| simp only [wSB, wSB1, wVar, wC, wOp, wB, wNotT, wAndT, wOrT, wAndV, wOrV, wNotV, wIfE, wChain, wNil, wCons, wTup, wLst, wNext, wSeq, wSet, wAsg, wDrop, wRet, wRetN, wBrk, wCont, wIf, wiL, wiT, wiR, wFor, wCall0, wCall, wCB, wM0, wM1, wNo, wPart, wSl, wYes, wLc, wipeD, wNeg, wTru, wFmt, wJoined, wJs, wRaise1, wStw, wiS, wAug, wiR2, wSt3, wFind, wApp, wNewL, wFrzL, Sl.OL, wRaiseF, rdCints, rdRep, wPE, wPT, wPS, wSeqX, wNextX, wSetX, wAsgX, wDropX, wRetX, wIfX, wBX, wNotX, wAndX, wOrX, wConsX, wNilX, wTupX, wOpX, wCallX, wRat, wRws, wRinc, wNewL1, wAppX, wFrzX, EndsX.at, rdCtuple, rdInT, rdTabIn, rdTab, wTruO, wLenO, rdSlT, rdRepL, wNameEnd, wgName, wgNil, wgCons, wgTup,
  Sl.V, D.I, D.B, D.S, D.L, D.T, D.K, D.len, D.tru, rdI, rdI0, rdLt, rdLe, rdGt, rdGe, rdIsN, rdNotN, rdAdd, rdIx, rdSl, rdInS, rdLen, rdOrd, rdAll, rdAny, rdIsi, rdFmt, rdJoin, rdCint, tyN, ρ0, List.map_cons, List.map_nil, List.length_cons, List.length_nil, List.replicate, List.append, List.cons_append, List.nil_append, List.getElem?_cons_zero, List.getElem?_cons_succ, List.set_cons_zero, List.set_cons_succ, Nat.add_sub_cancel, Nat.sub_self, Nat.zero_add, Nat.reduceAdd, Nat.reduceSub, if_true, if_false, true_and, and_true, decide_true, decide_false, true_or, or_true, ia_NoneType_bool, ia_NoneType_int, ia_NoneType_str, ia_NoneType_list, ia_NoneType_tuple, ia_NoneType_dict, ia_bool_bool, ia_bool_int, ia_bool_str, ia_bool_list, ia_bool_tuple, ia_bool_dict, ia_int_bool, ia_int_int, ia_int_str, ia_int_list, ia_int_tuple, ia_int_dict, ia_str_bool, ia_str_int, ia_str_str, ia_str_list, ia_str_tuple, ia_str_dict, ia_list_bool, ia_list_int, ia_list_str, ia_list_list, ia_list_tuple, ia_list_dict, ia_tuple_bool, ia_tuple_int, ia_tuple_str, ia_tuple_list, ia_tuple_tuple, ia_tuple_dict, ia_dict_bool, ia_dict_int, ia_dict_str, ia_dict_list, ia_dict_tuple, ia_dict_dict, inT_bool, inT_int, inT_str, inT_list, inT_tuple, inT_dict, Bool.false_xor, Bool.true_xor, Bool.not_eq_true, Bool.not_true, Bool.not_false, Bool.false_eq_true, ite_false, ite_true, reduceCtorEq])
theorem law7_4 {t : Str} {a b c d e f g h : Sl} (hl : t.length ≤ 1000) (hg : ∀ c ∈ cs t, gd c = true) : W7_law_s4 dL [a, b, c, d, e, f, g, h, .val (.str t)] := by
  unfold W7_law_s4
  walk_at "dy"
  refine ⟨t, rfl, hl, hg, ?_⟩
  refine ⟨t, rfl, hl, hg, ?_⟩
  exact eq_same (resD_ok hl hg) rfl
theorem law7_3 {ns : List Int} {l : List D} {d e f g h i : Sl} (hl : okP l) (hs : siz l ≤ 500) : W7_law_s3 dL [.val (.scr ns), .val .drw, .val (.lst l), d, e, f, g, h, i] := by
  unfold W7_law_s3
  obtain ⟨ss, e1, e2, e3, e4⟩ := okP_strs hl
  obtain ⟨j1, j2⟩ := join_ok e4
  refine seq_g fun V hV => ?_
  walk_at "dz"
  rw [e1]
  walk_at "dz"
  have sum_le : ∀ ss : List Str, (ss.map fun x => x.length).sum + ss.length = (ss.map fun s => s.length + 1).sum := by
    intro ss
    induction ss with
    | nil => rfl
    | cons p r ih =>
      rw [List.map_cons, List.map_cons, List.sum_cons, List.sum_cons, List.length_cons]
      omega
  have sl := sum_le ss
  have one : (" " : Str).length = 1 := rfl
  rw [one]
  refine ⟨by omega, by decide, ns, 3, rfl, by decide, by decide, fun dd d0 d1 => ?_⟩
  obtain ⟨j, rfl⟩ := nat_of d0
  have hj : j < seps7.length := by
    show j < 3
    omega
  have e : atI [D.str "", D.str " ", D.str "\n"] (j : Int) = some (.str seps7[j]) := atI_nat (xs := seps7.map D.str) (v := D.str seps7[j]) (by rw [List.getElem?_map, List.getElem?_eq_getElem hj]; rfl)
  walk_at "dz"
  rw [e]
  walk_at "dz"
  obtain ⟨o1, o2⟩ := seps7_ok _ (List.getElem_mem hj)
  subst hV
  refine ⟨by omega, law7_4 (by rw [len_app]; omega) fun c hc => ?_⟩
  rw [cs_app] at hc
  rcases List.mem_append.mp hc with hc | hc
  · exact j2 c hc
  · exact o2 c hc
theorem hw7_law (ns : List Int) (h : ns.length ≤ 63) : W7_law { nx := fun _ => False, rt := fun d => d = .bl true } (.val (.scr ns) :: .val .drw :: List.replicate ((["script", "state", "pieces", "new", "k", "at", "kind", "word", "text"] : List Str).length - 2) .un) := by
  unfold W7_law
  refine seq_g fun V hV => ?_
  walk_at "dz"
  refine ⟨ns, rfl, fun l h1 h2 h3 => ?_⟩
  subst hV
  unfold W7_law_s1
  refine seq_g fun V hV => ?_
  walk_at "dz"
  refine ⟨by decide, ?_⟩
  subst hV
  show W7_law_s2 dL [.val (.scr ns), .val .drw, .val (.lst l), .val (.lst (newW.map .str)), .un, .un, .un, .un, .un]
  generalize hn : newW.map D.str = nw
  have n1 : okP nw := by rw [← hn]; exact okP_map newW_ok
  have n2 : nw.length = 24 := by rw [← hn]; rfl
  unfold W7_law_s2
  refine seq_g fun V hV => ?_
  walk_at "dz"
  refine ⟨ns, 4, rfl, by decide, by decide, fun m m0 m1 => ?_⟩
  walk_at "dz"
  refine ⟨by omega, ?_⟩
  have hlen : (rngD m).length ≤ 3 := by
    unfold rngD
    rw [List.length_map, List.length_range]
    omega
  refine for_rule (fun xs ρ => ∃ (l : List D) (a b c d e : Sl), ρ = [.val (.scr ns), .val .drw, .val (.lst l), .val (.lst nw), a, b, c, d, e] ∧ okP l ∧ siz l + 9 * xs.length ≤ 450 ∧ 1 ≤ l.length) ?_ ?_ _ _ ⟨l, _, _, _, _, _, rfl, h1, by omega, h3⟩
  · rintro x xs ρ N ⟨l, a, b, c, d, e, rfl, h1, h2, h3⟩ ih
    simp only [List.length_cons] at h2
    have len_siz : ∀ l : List D, okP l → l.length ≤ siz l := by
      intro l
      induction l with
      | nil => exact fun _ => Nat.le_refl _
      | cons d r ih =>
        intro h
        have := ih fun x hx => h x (List.mem_cons_of_mem _ hx)
        obtain ⟨s, rfl, _⟩ := h d List.mem_cons_self
        rw [siz_cons, List.length_cons]
        show r.length + 1 ≤ s.length + 1 + siz r
        omega
    have hls := len_siz l h1
    unfold W7_law_b1
    refine seq_g fun V1 hV1 => ?_
    walk_at "dz"
    refine ⟨ns, _, rfl, by omega, by omega, fun at' a0 a1 => ?_⟩
    walk_at "dz"
    subst hV1
    refine seq_g fun V1 hV1 => ?_
    walk_at "dz"
    refine ⟨ns, 4, rfl, by decide, by decide, fun kind k0 k1 => ?_⟩
    walk_at "dz"
    subst hV1
    refine seq_g fun V1 hV1 => ?_
    walk_at "dz"
    refine ⟨ns, 24, rfl, by decide, by decide, fun w w0 w1 => ?_⟩
    walk_at "dz"
    obtain ⟨j, rfl⟩ := nat_of a0
    obtain ⟨i, rfl⟩ := nat_of w0
    have hi : i < nw.length := by omega
    rw [atI_nat (List.getElem?_eq_getElem hi)]
    have okw : okW nw[i] := n1 _ (List.getElem_mem hi)
    generalize nw[i] = wd at okw
    have sw := okW_siz okw
    walk_at "dz"
    subst hV1
    have hj : j < l.length := by omega
    have t1 := siz_td l j
    have t2 := siz_d1 l j
    have t3 := siz_td l (j + 1)
    have okl : okP [wd] := fun d hd => by rw [List.mem_singleton.mp hd]; exact okw
    have ll := List.length_take (i := j) (l := l)
    have ld := List.length_drop (i := j) (l := l)
    have ld1 := List.length_drop (i := j + 1) (l := l)
    have lt1 := List.length_take (i := j + 1) (l := l)
    have go : ∀ l' : List D, okP l' → siz l' ≤ siz l + 9 → 1 ≤ l'.length → N [.val (.scr ns), .val .drw, .val (.lst l'), .val (.lst nw), .val x, .val (.int (j : Nat)), .val (.int kind), .val wd, e] := fun l' g1 g2 g3 => ih _ ⟨l', _, _, _, _, _, rfl, g1, by omega, g3⟩
    walk_at "dz"
    rw [nat1, cutD_take, cutD_drop, cutD_drop, cutD_take]
    have len1 : ∀ d : D, siz [d] = sizW d := fun d => rfl
    by_cases q0 : kind = 0
    · rw [decide_eq_true q0]
      walk_at "dz"
      split
      · rename_i hlt
        have hlt := of_decide_eq_true hlt
        exact ⟨by omega, go _ (okP_app (okP_take h1 _) (okP_drop h1 _)) (by rw [siz_app]; omega) (by rw [List.length_append]; omega)⟩
      · split
        · simp only [List.length_append, List.length_cons, List.length_nil]
          refine ⟨by decide, by omega, by omega, go _ (okP_app (okP_app (okP_take h1 _) okl) (okP_drop h1 _)) (by rw [siz_app, siz_app, len1]; omega) (by simp only [List.length_append, List.length_cons, List.length_nil]; omega)⟩
        · split
          · simp only [List.length_append, List.length_cons, List.length_nil]
            refine ⟨by decide, by omega, by omega, go _ (okP_app (okP_app (okP_take h1 _) okl) (okP_drop h1 _)) (by rw [siz_app, siz_app, len1]; omega) (by simp only [List.length_append, List.length_cons, List.length_nil]; omega)⟩
          · exact go _ (okP_take h1 _) (by omega) (by rw [lt1]; omega)
    · rw [decide_eq_false q0]
      walk_at "dz"
      split
      · simp only [List.length_append, List.length_cons, List.length_nil]
        refine ⟨by decide, by omega, by omega, go _ (okP_app (okP_app (okP_take h1 _) okl) (okP_drop h1 _)) (by rw [siz_app, siz_app, len1]; omega) (by simp only [List.length_append, List.length_cons, List.length_nil]; omega)⟩
      · split
        · simp only [List.length_append, List.length_cons, List.length_nil]
          refine ⟨by decide, by omega, by omega, go _ (okP_app (okP_app (okP_take h1 _) okl) (okP_drop h1 _)) (by rw [siz_app, siz_app, len1]; omega) (by simp only [List.length_append, List.length_cons, List.length_nil]; omega)⟩
        · exact go _ (okP_take h1 _) (by omega) (by rw [lt1]; omega)
  · rintro ρ ⟨l, a, b, c, d, e, rfl, h1, h2, h3⟩
    simp only [List.length_nil] at h2
    subst hV
    exact law7_3 h1 (by omega)
end K5
set_option Elab.async false
set_option linter.all false
set_option maxRecDepth 100000
set_option maxHeartbeats 4000000
namespace K5
open PySem L2 Dl
local macro_rules | `(tactic| walk_at "dz") => `(tactic| simp only [wSB, wSB1, wVar, wC, wOp, wB, wNotT, wAndT, wOrT, wAndV, wOrV, wNotV, wIfE, wChain, wNil, wCons, wTup, wLst, wNext, wSeq, wSet, wAsg, wDrop, wRet, wRetN, wBrk, wCont, wIf, wiL, wiT, wiR, wFor, wCall0, wCall, wCB, wM0, wM1, wNo, wPart, wSl, wYes, wLc, wipeD, wNeg, wTru, wFmt, wJoined, wJs, wRaise1, wStw, wiS, wAug, wiR2, wSt3, wFind, wApp, wNewL, wFrzL, Sl.OL, wRaiseF, rdCints, rdRep, wPE, wPT, wPS, wSeqX, wNextX, wSetX, wAsgX, wDropX, wRetX, wIfX, wBX, wNotX, wAndX, wOrX, wConsX, wNilX, wTupX, wOpX, wCallX, wRat, wRws, wRinc, wNewL1, wAppX, wFrzX, EndsX.at, rdCtuple, rdInT, rdTabIn, rdTab, wTruO, wLenO, rdSlT, rdRepL, wNameEnd, wgName, wgNil, wgCons, wgTup,
  Sl.V, D.I, D.B, D.S, D.L, D.T, D.K, D.len, D.tru, rdI, rdI0, rdLt, rdLe, rdGt, rdGe, rdEq, rdNe, eqS, rdIsN, rdNotN, rdAdd, rdIx, rdSl, rdInS, rdLen, rdOrd, rdAll, rdAny, rdIsi, rdFmt, rdJoin, rdCint, tyN, ρ0, List.map_cons, List.map_nil, List.length_cons, List.length_nil, List.replicate, List.append, List.cons_append, List.nil_append, List.getElem?_cons_zero, List.getElem?_cons_succ, List.set_cons_zero, List.set_cons_succ, Nat.add_sub_cancel, Nat.sub_self, Nat.zero_add, Nat.reduceAdd, Nat.reduceSub, if_true, if_false, true_and, and_true, decide_true, decide_false, true_or, or_true, ia_NoneType_bool, ia_NoneType_int, ia_NoneType_str, ia_NoneType_list, ia_NoneType_tuple, ia_NoneType_dict, ia_bool_bool, ia_bool_int, ia_bool_str, ia_bool_list, ia_bool_tuple, ia_bool_dict, ia_int_bool, ia_int_int, ia_int_str, ia_int_list, ia_int_tuple, ia_int_dict, ia_str_bool, ia_str_int, ia_str_str, ia_str_list, ia_str_tuple, ia_str_dict, ia_list_bool, ia_list_int, ia_list_str, ia_list_list, ia_list_tuple, ia_list_dict, ia_tuple_bool, ia_tuple_int, ia_tuple_str, ia_tuple_list, ia_tuple_tuple, ia_tuple_dict, ia_dict_bool, ia_dict_int, ia_dict_str, ia_dict_list, ia_dict_tuple, ia_dict_dict, inT_bool, inT_int, inT_str, inT_list, inT_tuple, inT_dict, Bool.false_xor, Bool.true_xor, Bool.not_eq_true, Bool.not_true, Bool.not_false, Bool.false_eq_true, ite_false, ite_true, reduceCtorEq, at3_0', at3_1', at3_2', at2_0, at2_1, encR, dob, dbb])
def sp_R_init : SpecI := fun ds Q E => ∃ t : Str, ds = [.str t] ∧ t.length ≤ 1000 ∧ (∀ c ∈ cs t, gd c = true) ∧ match spl 0 (cs t) with
  | .inl j => E (flt j)
  | .inr ws => Q (full (ws.map toW) t.length)
def W_R_init (xd : Exn → Prop) : WE := (wOp rdAdd (wCall sp_split_words xd (wCons (wVar 1) wNil)) (wLst (wCons (wTup (wCons (wCB rdLen (wCons (wVar 1) wNil)) (wCons (wC (.str "end")) (wCons (wC (.str "")) wNil)))) wNil)))
theorem len_R_init {ds : List D} {Q : List D → Prop} {E : Exn → Prop} (h : sp_R_init ds Q E) : ds.length + 1 = (["self", "text"] : List Str).length := by
  obtain ⟨t, rfl, _⟩ := h
  rfl
theorem hw_R_init : ∀ (x : Addr) ds Q E, sp_R_init ds Q E → W_R_init E (ρ0 (["self", "text"] : List Str).length (.rf x :: ds)) fun d => d.L Q := by
  rintro x ds Q E ⟨t, rfl, hl, hg, h⟩
  unfold W_R_init
  walk_at "dz"
  refine ⟨t, rfl, hl, ?_⟩
  cases hs : spl 0 (cs t) with
  | inl j =>
    rw [hs] at h
    exact h
  | inr ws =>
    rw [hs] at h
    dsimp only at h ⊢
    obtain ⟨hw, G⟩ := spl_good hl hg hs
    generalize ws.map toW = wl at hw G h
    subst hw
    have hlen := G.len
    walk_at "dz"
    rw [if_pos (show t.length ≤ 1000000 by omega)]
    walk_at "dz"
    refine ⟨by decide, by decide, by rw [mapw_len]; omega, h⟩
def W_parse_rest (x : Addr) (ws : List D) (xd : Exn → Prop) : WSx := (wSeqX (wDropX (wCallX 1 x ws xd sp_R_expect (wCons (wC (.str "name")) (wCons (wC (.str "query")) wNil))))
  (wSeqX (wSetX 2 (wCallX 1 x ws xd sp_read_declarations wNil))
  (wSeqX (wSetX 3 (wCallX 1 x ws xd (sp_read_selection 10) (wCons (wC (.int 1)) wNil)))
  (wSeqX (wSetX 4 (wCallX 1 x ws xd sp_read_fragments wNil))
  (wPS (wRet (wMake "Document" ["variables", "selection", "fragments"] (wCons (wVar 2) (wCons (wVar 3) (wCons (wVar 4) wNil))))))))))
def W_parse_document (xd : Exn → Prop) : WS := wReader 1 sp_R_init (wCons (wVar 0) wNil) xd W_parse_rest
theorem len_parse_document {ds : List D} {Q : D → Prop} {E : Exn → Prop} (h : sp_parse_document ds Q E) : ds.length = (["text"] : List Str).length := by
  obtain ⟨t, rfl, _⟩ := h
  rfl
theorem hw_parse_document : ∀ ds Q E, sp_parse_document ds Q E → W_parse_document E { nx := fun _ => Q .non, rt := Q } (ρ0 (["text", "reader", "variables", "selection", "fragments"] : List Str).length ds) := by
  rintro ds Q E ⟨t, rfl, hl, hg, h⟩
  unfold W_parse_document wReader
  walk_at "dz"
  refine ⟨t, rfl, hl, hg, ?_⟩
  cases hs : spl 0 (cs t) with
  | inl j =>
    rw [hs] at h
    exact h
  | inr ws =>
    rw [hs] at h
    dsimp only at h ⊢
    obtain ⟨hw, G⟩ := spl_good hl hg hs
    generalize ws.map toW = wl at hw G h
    intro x
    unfold W_parse_rest
    walk_at "dz"
    unfold pDoc at h
    refine ⟨wl, _, rfl, G, Nat.zero_le _, _, _, rfl, by decide +kernel, by decide +kernel, by decide, ?_⟩
    cases q : see wl 0 "name" "query" with
    | false =>
      rw [q] at h
      exact h
    | true =>
    rw [q] at h
    have hl0 := see_lt q
    walk_at "dz"
    refine ⟨wl, _, rfl, G, hl0, rfl, ?_⟩
    have F1 := fin_decls G (n := 1) hl0
    simp only [if_true] at h
    cases q1 : pDecls wl 1 with
    | bad j =>
      rw [q1] at h
      exact h
    | ok v n1 =>
    rw [q1, bind_ok] at h
    rw [q1] at F1
    show sp_read_selection 10 _ _ _ _ _
    refine ⟨wl, _, rfl, G, F1.2.2, by rfl, by decide, ?_⟩
    have F2 := fin_sel G 10 n1
    cases q2 : pSel wl 10 n1 with
    | bad j =>
      rw [q2] at h
      exact h
    | ok s n2 =>
    rw [q2, bind_ok] at h
    rw [q2] at F2
    show sp_read_fragments _ _ _ _ _
    refine ⟨wl, _, rfl, G, F2.2.2, rfl, ?_⟩
    show outR wl _ (fragsF wl (wl.length + 1) n2 []) _ _
    cases q3 : fragsF wl (wl.length + 1) n2 [] with
    | bad j =>
      rw [q3] at h
      exact h
    | ok fr n3 =>
      rw [q3, bind_ok] at h
      show _ ∧ _
      exact ⟨rfl, h⟩
def W7_l_told : WS := wTry "InvalidDocument" 2 (wXSet 1 (wXCall sp_parse_document (wCons (wVar 0) wNil)) (wRet (wTup (wCons (wC (.str "document")) (wCons (wTup (wCons (wFld "Document" "variables" (wVar 1)) (wCons (wFld "Document" "selection" (wVar 1)) (wCons (wFld "Document" "fragments" (wVar 1)) wNil)))) wNil))))) (fun a od => wRet (wTup (wCons (wC (.str "fault")) (wCons (wXf 2 a od "place") wNil))))
theorem len_l_told {ds : List D} {Q : D → Prop} {E : Exn → Prop} (h : sp7_l_told ds Q E) : ds.length = (["text"] : List Str).length := by
  obtain ⟨t, rfl, _⟩ := h
  rfl
theorem doc3 {wl : List W3} {d : D} {n : Nat} (h : pDoc wl = .ok d n) : ∃ v s f, d = .tup [v, s, f] := by
  unfold pDoc at h
  split at h
  · cases q1 : pDecls wl 1 with
    | bad j => rw [q1] at h; cases h
    | ok v n1 =>
      rw [q1, bind_ok] at h
      cases q2 : pSel wl 10 n1 with
      | bad j => rw [q2] at h; cases h
      | ok s n2 =>
        rw [q2, bind_ok] at h
        cases q3 : fragsF wl (wl.length + 1) n2 [] with
        | bad j => rw [q3] at h; cases h
        | ok f n3 =>
          rw [q3, bind_ok] at h
          cases h
          exact ⟨v, s, f, rfl⟩
  · cases h
theorem hw7_l_told : ∀ ds Q E, sp7_l_told ds Q E → W7_l_told { nx := fun _ => Q .non, rt := Q } (ρ0 (["text", "told", "e"] : List Str).length ds) := by
  rintro ds Q E ⟨t, rfl, hl, hg, h⟩
  refine ⟨t, rfl, hl, hg, ?_⟩
  unfold resD at h
  cases hs : spl 0 (cs t) with
  | inl j =>
    rw [hs] at h
    refine ⟨rfl, fun a od hod => ?_⟩
    cases od with
    | none => cases hod
    | some dd =>
      have e1 : List.lookup ("place" : Str) ([(("place" : Str), D.int (j : Nat))] : List (Str × D)) = some (D.int (j : Nat)) := rfl
      exact ⟨dd, _, _, rfl, rfl, e1, (by show 2 ≤ 100000; decide), h⟩
  | inr ws =>
    rw [hs] at h
    dsimp only at h ⊢
    cases hp : pDoc (ws.map toW) with
    | bad m =>
      rw [hp] at h
      refine ⟨rfl, fun a od hod => ?_⟩
      cases od with
      | none => cases hod
      | some dd =>
        have e1 : List.lookup ("place" : Str) ([(("place" : Str), D.int (pl (ws.map toW) t.length m))] : List (Str × D)) = some (D.int (pl (ws.map toW) t.length m)) := rfl
        exact ⟨dd, _, _, rfl, rfl, e1, (by show 2 ≤ 100000; decide), h⟩
    | ok d n =>
      rw [hp] at h
      obtain ⟨v, s, f, rfl⟩ := doc3 hp
      have e1 : List.lookup ("variables" : Str) [(("variables" : Str), v), (("selection" : Str), s), (("fragments" : Str), f)] = some v := rfl
      have e2 : List.lookup ("selection" : Str) [(("variables" : Str), v), (("selection" : Str), s), (("fragments" : Str), f)] = some s := rfl
      have e3 : List.lookup ("fragments" : Str) [(("variables" : Str), v), (("selection" : Str), s), (("fragments" : Str), f)] = some f := rfl
      dsimp only
      walk_at "dz"
      simp only [wFld, D.F]
      walk_at "dz"
      rw [e1]
      dsimp only
      rw [e2]
      dsimp only
      rw [e3]
      exact ⟨by decide, by decide, h⟩
end K5
set_option Elab.async false
set_option linter.all false
set_option maxRecDepth 100000
set_option maxHeartbeats 4000000
namespace K5
open PySem PySem.Spec PyProof.Rows L2 Dl
def top (i : Nat) : Stmt := PySem.Challenge.pw_seamgraph_k07_faults_of_documents.main.body.getD i (.Pass ⟨0, 0, 0, 0⟩)
section
/-! ### the text by places, its names -/
abbrev s_is_name : Stmt := top 11
abbrev s_is_plain : Stmt := top 13
abbrev s_fits : Stmt := top 12
abbrev s_may_follow : Stmt := top 28
abbrev s_is_digit : Stmt := top 29
abbrev s_end_of_name : Stmt := top 27
abbrev s_read_name : Stmt := top 26
abbrev s_read_number : Stmt := top 25
abbrev s_read_variable : Stmt := top 24
abbrev s_read_text : Stmt := top 23
abbrev s_read_word : Stmt := top 22
abbrev s_split_words : Stmt := top 21
abbrev s_R_ahead : Stmt := inClass (top 35) 1
abbrev s_R_refuse : Stmt := inClass (top 35) 2
abbrev s_R_take : Stmt := inClass (top 35) 3
abbrev s_R_sees : Stmt := inClass (top 35) 4
abbrev s_R_accept : Stmt := inClass (top 35) 5
abbrev s_R_expect : Stmt := inClass (top 35) 6
abbrev s_R_expect_kind : Stmt := inClass (top 35) 7
abbrev s_R_expect_name : Stmt := inClass (top 35) 8
abbrev s_read_constant : Stmt := top 52
abbrev s_read_value : Stmt := top 51
abbrev s_read_condition : Stmt := top 50
abbrev s_read_conditions : Stmt := top 49
abbrev s_read_argument : Stmt := top 48
abbrev s_read_arguments : Stmt := top 47
abbrev s_read_kind : Stmt := top 39
abbrev s_read_bare_kind : Stmt := top 40
abbrev s_read_declaration : Stmt := top 38
abbrev s_read_declarations : Stmt := top 37
abbrev s_read_field : Stmt := top 46
abbrev s_read_spread : Stmt := top 45
abbrev s_read_part : Stmt := top 44
abbrev s_read_selection : Stmt := top 43
abbrev s_read_fragment : Stmt := top 42
abbrev s_read_fragments : Stmt := top 41
abbrev s_parse_document : Stmt := top 36
abbrev s_l_refill : Stmt := top 55
abbrev s_l_draw : Stmt := top 56
abbrev s_l_run : Stmt := top 57
abbrev s_l_named : Stmt := top 58
abbrev s_l_word_at : Stmt := top 59
abbrev s_l_split : Stmt := top 60
abbrev s_l_is : Stmt := top 61
abbrev s_l_kind_at : Stmt := top 62
abbrev s_l_plain_at : Stmt := top 63
abbrev s_l_constant : Stmt := top 64
abbrev s_l_value_at : Stmt := top 65
abbrev s_l_type_at : Stmt := top 66
abbrev s_l_declared : Stmt := top 67
abbrev s_l_conditions_at : Stmt := top 68
abbrev s_l_arguments_at : Stmt := top 69
abbrev s_l_field_at : Stmt := top 70
abbrev s_l_spread_at : Stmt := top 71
abbrev s_l_selection_at : Stmt := top 72
abbrev s_l_fragment_at : Stmt := top 73
abbrev s_l_document_at : Stmt := top 74
abbrev s_l_expected : Stmt := top 75
abbrev s_l_told : Stmt := top 76
abbrev s_l_start : Stmt := top 77
abbrev s_law : Stmt := top 78
theorem sc_is_name : FnScope ["text"] ["text"] (defScope s_is_name) := ⟨rfl, rfl, rfl, by decide +kernel, rfl, by decide +kernel, by decide +kernel⟩
theorem sc_is_plain : FnScope ["code"] ["code"] (defScope s_is_plain) := ⟨rfl, rfl, rfl, by decide +kernel, rfl, by decide +kernel, by decide +kernel⟩
theorem sc_fits : FnScope ["scalar", "value", "sign"] ["scalar", "value"] (defScope s_fits) := ⟨rfl, rfl, rfl, by decide +kernel, rfl, by decide +kernel, by decide +kernel⟩
theorem sc_may_follow : FnScope ["sign"] ["sign"] (defScope s_may_follow) := ⟨rfl, rfl, rfl, by decide +kernel, rfl, by decide +kernel, by decide +kernel⟩
theorem sc_is_digit : FnScope ["sign"] ["sign"] (defScope s_is_digit) := ⟨rfl, rfl, rfl, by decide +kernel, rfl, by decide +kernel, by decide +kernel⟩
theorem sc_end_of_name : FnScope ["text", "place", "end"] ["text", "place"] (defScope s_end_of_name) := ⟨rfl, rfl, rfl, by decide +kernel, rfl, by decide +kernel, by decide +kernel⟩
theorem sc_read_name : FnScope ["text", "place", "end", "word"] ["text", "place"] (defScope s_read_name) := ⟨rfl, rfl, rfl, by decide +kernel, rfl, by decide +kernel, by decide +kernel⟩
theorem sc_read_number : FnScope ["text", "place", "start", "end"] ["text", "place"] (defScope s_read_number) := ⟨rfl, rfl, rfl, by decide +kernel, rfl, by decide +kernel, by decide +kernel⟩
theorem sc_read_variable : FnScope ["text", "place", "end", "word"] ["text", "place"] (defScope s_read_variable) := ⟨rfl, rfl, rfl, by decide +kernel, rfl, by decide +kernel, by decide +kernel⟩
theorem sc_read_text : FnScope ["text", "place", "end", "word"] ["text", "place"] (defScope s_read_text) := ⟨rfl, rfl, rfl, by decide +kernel, rfl, by decide +kernel, by decide +kernel⟩
theorem sc_read_word : FnScope ["text", "place", "sign"] ["text", "place"] (defScope s_read_word) := ⟨rfl, rfl, rfl, by decide +kernel, rfl, by decide +kernel, by decide +kernel⟩
theorem sc_split_words : FnScope ["text", "words", "place", "kind", "word", "end"] ["text"] (defScope s_split_words) := ⟨rfl, rfl, rfl, by decide +kernel, rfl, by decide +kernel, by decide +kernel⟩
theorem sc_R_ahead : FnScope ["self", "_", "kind", "word"] ["self"] (defScope s_R_ahead) := ⟨rfl, rfl, rfl, by decide +kernel, rfl, by decide +kernel, by decide +kernel⟩
theorem sc_R_refuse : FnScope ["self", "place", "_"] ["self"] (defScope s_R_refuse) := ⟨rfl, rfl, rfl, by decide +kernel, rfl, by decide +kernel, by decide +kernel⟩
theorem sc_R_take : FnScope ["self", "_", "word"] ["self"] (defScope s_R_take) := ⟨rfl, rfl, rfl, by decide +kernel, rfl, by decide +kernel, by decide +kernel⟩
theorem sc_R_sees : FnScope ["self", "kind", "word"] ["self", "kind", "word"] (defScope s_R_sees) := ⟨rfl, rfl, rfl, by decide +kernel, rfl, by decide +kernel, by decide +kernel⟩
theorem sc_R_accept : FnScope ["self", "kind", "word"] ["self", "kind", "word"] (defScope s_R_accept) := ⟨rfl, rfl, rfl, by decide +kernel, rfl, by decide +kernel, by decide +kernel⟩
theorem sc_R_expect : FnScope ["self", "kind", "word"] ["self", "kind", "word"] (defScope s_R_expect) := ⟨rfl, rfl, rfl, by decide +kernel, rfl, by decide +kernel, by decide +kernel⟩
theorem sc_R_expect_kind : FnScope ["self", "kind", "found", "_"] ["self", "kind"] (defScope s_R_expect_kind) := ⟨rfl, rfl, rfl, by decide +kernel, rfl, by decide +kernel, by decide +kernel⟩
theorem sc_R_expect_name : FnScope ["self"] ["self"] (defScope s_R_expect_name) := ⟨rfl, rfl, rfl, by decide +kernel, rfl, by decide +kernel, by decide +kernel⟩
theorem sc_read_constant : FnScope ["reader", "kind", "word"] ["reader"] (defScope s_read_constant) := ⟨rfl, rfl, rfl, by decide +kernel, rfl, by decide +kernel, by decide +kernel⟩
theorem sc_read_value : FnScope ["reader", "kind", "_"] ["reader"] (defScope s_read_value) := ⟨rfl, rfl, rfl, by decide +kernel, rfl, by decide +kernel, by decide +kernel⟩
theorem sc_read_condition : FnScope ["reader", "_", "word", "value"] ["reader"] (defScope s_read_condition) := ⟨rfl, rfl, rfl, by decide +kernel, rfl, by decide +kernel, by decide +kernel⟩
theorem sc_read_conditions : FnScope ["reader", "found"] ["reader"] (defScope s_read_conditions) := ⟨rfl, rfl, rfl, by decide +kernel, rfl, by decide +kernel, by decide +kernel⟩
theorem sc_read_argument : FnScope ["reader", "name"] ["reader"] (defScope s_read_argument) := ⟨rfl, rfl, rfl, by decide +kernel, rfl, by decide +kernel, by decide +kernel⟩
theorem sc_read_arguments : FnScope ["reader", "found"] ["reader"] (defScope s_read_arguments) := ⟨rfl, rfl, rfl, by decide +kernel, rfl, by decide +kernel, by decide +kernel⟩
theorem sc_read_kind : FnScope ["reader", "depth", "bare"] ["reader", "depth"] (defScope s_read_kind) := ⟨rfl, rfl, rfl, by decide +kernel, rfl, by decide +kernel, by decide +kernel⟩
theorem sc_read_bare_kind : FnScope ["reader", "depth", "inner"] ["reader", "depth"] (defScope s_read_bare_kind) := ⟨rfl, rfl, rfl, by decide +kernel, rfl, by decide +kernel, by decide +kernel⟩
theorem sc_read_declaration : FnScope ["reader", "name", "kind", "default"] ["reader"] (defScope s_read_declaration) := ⟨rfl, rfl, rfl, by decide +kernel, rfl, by decide +kernel, by decide +kernel⟩
theorem sc_read_declarations : FnScope ["reader", "found"] ["reader"] (defScope s_read_declarations) := ⟨rfl, rfl, rfl, by decide +kernel, rfl, by decide +kernel, by decide +kernel⟩
theorem sc_read_field : FnScope ["reader", "depth", "key", "name", "arguments", "conditions", "selection"] ["reader", "depth"] (defScope s_read_field) := ⟨rfl, rfl, rfl, by decide +kernel, rfl, by decide +kernel, by decide +kernel⟩
theorem sc_read_spread : FnScope ["reader", "depth", "type_name", "name", "conditions"] ["reader", "depth"] (defScope s_read_spread) := ⟨rfl, rfl, rfl, by decide +kernel, rfl, by decide +kernel, by decide +kernel⟩
theorem sc_read_part : FnScope ["reader", "depth"] ["reader", "depth"] (defScope s_read_part) := ⟨rfl, rfl, rfl, by decide +kernel, rfl, by decide +kernel, by decide +kernel⟩
theorem sc_read_selection : FnScope ["reader", "depth", "parts"] ["reader", "depth"] (defScope s_read_selection) := ⟨rfl, rfl, rfl, by decide +kernel, rfl, by decide +kernel, by decide +kernel⟩
theorem sc_read_fragment : FnScope ["reader", "name", "type_name"] ["reader"] (defScope s_read_fragment) := ⟨rfl, rfl, rfl, by decide +kernel, rfl, by decide +kernel, by decide +kernel⟩
theorem sc_read_fragments : FnScope ["reader", "found"] ["reader"] (defScope s_read_fragments) := ⟨rfl, rfl, rfl, by decide +kernel, rfl, by decide +kernel, by decide +kernel⟩
theorem sc_parse_document : FnScope ["text", "reader", "variables", "selection", "fragments"] ["text"] (defScope s_parse_document) := ⟨rfl, rfl, rfl, by decide +kernel, rfl, by decide +kernel, by decide +kernel⟩
theorem sc_l_refill : FnScope ["script", "k", "cell"] ["script", "k"] (defScope s_l_refill) := ⟨rfl, rfl, rfl, by decide +kernel, rfl, by decide +kernel, by decide +kernel⟩
theorem sc_l_draw : FnScope ["state", "script", "size", "digit"] ["state", "script", "size"] (defScope s_l_draw) := ⟨rfl, rfl, rfl, by decide +kernel, rfl, by decide +kernel, by decide +kernel⟩
theorem sc_l_run : FnScope ["text", "at", "signs", "end", "k"] ["text", "at", "signs"] (defScope s_l_run) := ⟨rfl, rfl, rfl, by decide +kernel, rfl, by decide +kernel, by decide +kernel⟩
theorem sc_l_named : FnScope ["text", "at", "place", "letters", "end", "name"] ["text", "at", "place"] (defScope s_l_named) := ⟨rfl, rfl, rfl, by decide +kernel, rfl, by decide +kernel, by decide +kernel⟩
theorem sc_l_word_at : FnScope ["text", "at", "sign", "end", "begin", "number", "found"] ["text", "at"] (defScope s_l_word_at) := ⟨rfl, rfl, rfl, by decide +kernel, rfl, by decide +kernel, by decide +kernel⟩
theorem sc_l_split : FnScope ["text", "words", "at", "k", "found"] ["text"] (defScope s_l_split) := ⟨rfl, rfl, rfl, by decide +kernel, rfl, by decide +kernel, by decide +kernel⟩
theorem sc_l_is : FnScope ["words", "at", "kind", "word"] ["words", "at", "kind", "word"] (defScope s_l_is) := ⟨rfl, rfl, rfl, by decide +kernel, rfl, by decide +kernel, by decide +kernel⟩
theorem sc_l_kind_at : FnScope ["words", "at", "kind"] ["words", "at", "kind"] (defScope s_l_kind_at) := ⟨rfl, rfl, rfl, by decide +kernel, rfl, by decide +kernel, by decide +kernel⟩
theorem sc_l_plain_at : FnScope ["words", "at"] ["words", "at"] (defScope s_l_plain_at) := ⟨rfl, rfl, rfl, by decide +kernel, rfl, by decide +kernel, by decide +kernel⟩
theorem sc_l_constant : FnScope ["words", "at", "table"] ["words", "at"] (defScope s_l_constant) := ⟨rfl, rfl, rfl, by decide +kernel, rfl, by decide +kernel, by decide +kernel⟩
theorem sc_l_value_at : FnScope ["words", "at"] ["words", "at"] (defScope s_l_value_at) := ⟨rfl, rfl, rfl, by decide +kernel, rfl, by decide +kernel, by decide +kernel⟩
theorem sc_l_type_at : FnScope ["words", "at", "depth", "inner", "kind"] ["words", "at", "depth"] (defScope s_l_type_at) := ⟨rfl, rfl, rfl, by decide +kernel, rfl, by decide +kernel, by decide +kernel⟩
theorem sc_l_declared : FnScope ["words", "at", "found", "k", "kind", "default"] ["words", "at"] (defScope s_l_declared) := ⟨rfl, rfl, rfl, by decide +kernel, rfl, by decide +kernel, by decide +kernel⟩
theorem sc_l_conditions_at : FnScope ["words", "at", "found", "k", "value"] ["words", "at"] (defScope s_l_conditions_at) := ⟨rfl, rfl, rfl, by decide +kernel, rfl, by decide +kernel, by decide +kernel⟩
theorem sc_l_arguments_at : FnScope ["words", "at", "found", "k", "value"] ["words", "at"] (defScope s_l_arguments_at) := ⟨rfl, rfl, rfl, by decide +kernel, rfl, by decide +kernel, by decide +kernel⟩
theorem sc_l_field_at : FnScope ["words", "at", "depth", "key", "name", "arguments", "conditions", "inner"] ["words", "at", "depth"] (defScope s_l_field_at) := ⟨rfl, rfl, rfl, by decide +kernel, rfl, by decide +kernel, by decide +kernel⟩
theorem sc_l_spread_at : FnScope ["words", "at", "depth", "name", "conditions", "inner"] ["words", "at", "depth"] (defScope s_l_spread_at) := ⟨rfl, rfl, rfl, by decide +kernel, rfl, by decide +kernel, by decide +kernel⟩
theorem sc_l_selection_at : FnScope ["words", "at", "depth", "parts", "k", "part"] ["words", "at", "depth"] (defScope s_l_selection_at) := ⟨rfl, rfl, rfl, by decide +kernel, rfl, by decide +kernel, by decide +kernel⟩
theorem sc_l_fragment_at : FnScope ["words", "at", "count", "inner"] ["words", "at", "count"] (defScope s_l_fragment_at) := ⟨rfl, rfl, rfl, by decide +kernel, rfl, by decide +kernel, by decide +kernel⟩
theorem sc_l_document_at : FnScope ["words", "declared", "selection", "fragments", "at", "k", "found"] ["words"] (defScope s_l_document_at) := ⟨rfl, rfl, rfl, by decide +kernel, rfl, by decide +kernel, by decide +kernel⟩
theorem sc_l_expected : FnScope ["text", "words", "found", "place"] ["text"] (defScope s_l_expected) := ⟨rfl, rfl, rfl, by decide +kernel, rfl, by decide +kernel, by decide +kernel⟩
theorem sc_l_told : FnScope ["text", "told", "e"] ["text"] (defScope s_l_told) := ⟨rfl, rfl, rfl, by decide +kernel, rfl, by decide +kernel, by decide +kernel⟩
theorem sc_l_start : FnScope ["state", "script", "texts", "kind", "depth"] ["state", "script"] (defScope s_l_start) := ⟨rfl, rfl, rfl, by decide +kernel, rfl, by decide +kernel, by decide +kernel⟩
theorem sc_law : FnScope ["script", "state", "pieces", "new", "k", "at", "kind", "word", "text"] ["script"] (defScope s_law) := ⟨rfl, rfl, rfl, by decide +kernel, rfl, by decide +kernel, by decide +kernel⟩
abbrev si_Document : Stmt := inClass (top 34) 0
theorem sci_Document : FnScope ["self", "variables", "selection", "fragments"] ["self", "variables", "selection", "fragments"] (defScope si_Document) := ⟨rfl, rfl, rfl, by decide +kernel, rfl, by decide +kernel, by decide +kernel⟩
abbrev si_Reader : Stmt := inClass (top 35) 0
theorem sci_Reader : FnScope ["self", "text"] ["self", "text"] (defScope si_Reader) := ⟨rfl, rfl, rfl, by decide +kernel, rfl, by decide +kernel, by decide +kernel⟩
structure Tx (K : PySem.W.Frag) (mg : Str → Option Value) (w : World) where
  C_Reader : Addr
  g_Reader : mg "Reader" = some (.ref C_Reader)
  cl_Reader : Cls K C_Reader
  n_Reader_at : NoAttr K C_Reader "at"
  n_Reader_words : NoAttr K C_Reader "words"
  i_Reader : Addr
  di_Reader : FuncData
  Fi_Reader : Fun K "__init__" "Reader.__init__" si_Reader i_Reader di_Reader
  bi_Reader : Binds K di_Reader ["self", "text"] []
  M_Reader : Mk K C_Reader i_Reader
  C_Document : Addr
  g_Document : mg "Document" = some (.ref C_Document)
  i_Document : Addr
  di_Document : FuncData
  Fi_Document : Fun K "__init__" "Document.__init__" si_Document i_Document di_Document
  bi_Document : Binds K di_Document ["self", "variables", "selection", "fragments"] []
  M_Document : Mk K C_Document i_Document
  cl_Document : Cls K C_Document
  n_Document_variables : NoAttr K C_Document "variables"
  n_Document_selection : NoAttr K C_Document "selection"
  n_Document_fragments : NoAttr K C_Document "fragments"
  a_is_name : Addr
  d_is_name : FuncData
  F_is_name : Fun K "is_name" "is_name" s_is_name a_is_name d_is_name
  b_is_name : Binds K d_is_name ["text"] []
  m_is_name : mg "is_name" = some (.ref a_is_name)
  a_is_plain : Addr
  d_is_plain : FuncData
  F_is_plain : Fun K "_is_plain" "_is_plain" s_is_plain a_is_plain d_is_plain
  b_is_plain : Binds K d_is_plain ["code"] []
  m_is_plain : mg "_is_plain" = some (.ref a_is_plain)
  a_fits : Addr
  d_fits : FuncData
  F_fits : Fun K "fits" "fits" s_fits a_fits d_fits
  b_fits : Binds K d_fits ["scalar", "value"] []
  m_fits : mg "fits" = some (.ref a_fits)
  a_may_follow : Addr
  d_may_follow : FuncData
  F_may_follow : Fun K "_may_follow" "_may_follow" s_may_follow a_may_follow d_may_follow
  b_may_follow : Binds K d_may_follow ["sign"] []
  m_may_follow : mg "_may_follow" = some (.ref a_may_follow)
  a_is_digit : Addr
  d_is_digit : FuncData
  F_is_digit : Fun K "_is_digit" "_is_digit" s_is_digit a_is_digit d_is_digit
  b_is_digit : Binds K d_is_digit ["sign"] []
  m_is_digit : mg "_is_digit" = some (.ref a_is_digit)
  a_end_of_name : Addr
  d_end_of_name : FuncData
  F_end_of_name : Fun K "_end_of_name" "_end_of_name" s_end_of_name a_end_of_name d_end_of_name
  b_end_of_name : Binds K d_end_of_name ["text", "place"] []
  m_end_of_name : mg "_end_of_name" = some (.ref a_end_of_name)
  a_read_name : Addr
  d_read_name : FuncData
  F_read_name : Fun K "_read_name" "_read_name" s_read_name a_read_name d_read_name
  b_read_name : Binds K d_read_name ["text", "place"] []
  m_read_name : mg "_read_name" = some (.ref a_read_name)
  a_read_number : Addr
  d_read_number : FuncData
  F_read_number : Fun K "_read_number" "_read_number" s_read_number a_read_number d_read_number
  b_read_number : Binds K d_read_number ["text", "place"] []
  m_read_number : mg "_read_number" = some (.ref a_read_number)
  a_read_variable : Addr
  d_read_variable : FuncData
  F_read_variable : Fun K "_read_variable" "_read_variable" s_read_variable a_read_variable d_read_variable
  b_read_variable : Binds K d_read_variable ["text", "place"] []
  m_read_variable : mg "_read_variable" = some (.ref a_read_variable)
  a_read_text : Addr
  d_read_text : FuncData
  F_read_text : Fun K "_read_text" "_read_text" s_read_text a_read_text d_read_text
  b_read_text : Binds K d_read_text ["text", "place"] []
  m_read_text : mg "_read_text" = some (.ref a_read_text)
  a_read_word : Addr
  d_read_word : FuncData
  F_read_word : Fun K "_read_word" "_read_word" s_read_word a_read_word d_read_word
  b_read_word : Binds K d_read_word ["text", "place"] []
  m_read_word : mg "_read_word" = some (.ref a_read_word)
  a_split_words : Addr
  d_split_words : FuncData
  F_split_words : Fun K "split_words" "split_words" s_split_words a_split_words d_split_words
  b_split_words : Binds K d_split_words ["text"] []
  m_split_words : mg "split_words" = some (.ref a_split_words)
  a_R_ahead : Addr
  d_R_ahead : FuncData
  F_R_ahead : Fun K "ahead" "Reader.ahead" s_R_ahead a_R_ahead d_R_ahead
  b_R_ahead : Binds K d_R_ahead ["self"] []
  me_R_ahead : Meth K C_Reader "ahead" a_R_ahead
  a_R_refuse : Addr
  d_R_refuse : FuncData
  F_R_refuse : Fun K "refuse" "Reader.refuse" s_R_refuse a_R_refuse d_R_refuse
  b_R_refuse : Binds K d_R_refuse ["self"] []
  me_R_refuse : Meth K C_Reader "refuse" a_R_refuse
  a_R_take : Addr
  d_R_take : FuncData
  F_R_take : Fun K "take" "Reader.take" s_R_take a_R_take d_R_take
  b_R_take : Binds K d_R_take ["self"] []
  me_R_take : Meth K C_Reader "take" a_R_take
  a_R_sees : Addr
  d_R_sees : FuncData
  F_R_sees : Fun K "sees" "Reader.sees" s_R_sees a_R_sees d_R_sees
  b_R_sees : Binds K d_R_sees ["self", "kind", "word"] []
  me_R_sees : Meth K C_Reader "sees" a_R_sees
  a_R_accept : Addr
  d_R_accept : FuncData
  F_R_accept : Fun K "accept" "Reader.accept" s_R_accept a_R_accept d_R_accept
  b_R_accept : Binds K d_R_accept ["self", "kind", "word"] []
  me_R_accept : Meth K C_Reader "accept" a_R_accept
  a_R_expect : Addr
  d_R_expect : FuncData
  F_R_expect : Fun K "expect" "Reader.expect" s_R_expect a_R_expect d_R_expect
  b_R_expect : Binds K d_R_expect ["self", "kind", "word"] []
  me_R_expect : Meth K C_Reader "expect" a_R_expect
  a_R_expect_kind : Addr
  d_R_expect_kind : FuncData
  F_R_expect_kind : Fun K "expect_kind" "Reader.expect_kind" s_R_expect_kind a_R_expect_kind d_R_expect_kind
  b_R_expect_kind : Binds K d_R_expect_kind ["self", "kind"] []
  me_R_expect_kind : Meth K C_Reader "expect_kind" a_R_expect_kind
  a_R_expect_name : Addr
  d_R_expect_name : FuncData
  F_R_expect_name : Fun K "expect_name" "Reader.expect_name" s_R_expect_name a_R_expect_name d_R_expect_name
  b_R_expect_name : Binds K d_R_expect_name ["self"] []
  me_R_expect_name : Meth K C_Reader "expect_name" a_R_expect_name
  a_read_constant : Addr
  d_read_constant : FuncData
  F_read_constant : Fun K "_read_constant" "_read_constant" s_read_constant a_read_constant d_read_constant
  b_read_constant : Binds K d_read_constant ["reader"] []
  m_read_constant : mg "_read_constant" = some (.ref a_read_constant)
  a_read_value : Addr
  d_read_value : FuncData
  F_read_value : Fun K "_read_value" "_read_value" s_read_value a_read_value d_read_value
  b_read_value : Binds K d_read_value ["reader"] []
  m_read_value : mg "_read_value" = some (.ref a_read_value)
  a_read_condition : Addr
  d_read_condition : FuncData
  F_read_condition : Fun K "_read_condition" "_read_condition" s_read_condition a_read_condition d_read_condition
  b_read_condition : Binds K d_read_condition ["reader"] []
  m_read_condition : mg "_read_condition" = some (.ref a_read_condition)
  a_read_conditions : Addr
  d_read_conditions : FuncData
  F_read_conditions : Fun K "_read_conditions" "_read_conditions" s_read_conditions a_read_conditions d_read_conditions
  b_read_conditions : Binds K d_read_conditions ["reader"] []
  m_read_conditions : mg "_read_conditions" = some (.ref a_read_conditions)
  a_read_argument : Addr
  d_read_argument : FuncData
  F_read_argument : Fun K "_read_argument" "_read_argument" s_read_argument a_read_argument d_read_argument
  b_read_argument : Binds K d_read_argument ["reader"] []
  m_read_argument : mg "_read_argument" = some (.ref a_read_argument)
  a_read_arguments : Addr
  d_read_arguments : FuncData
  F_read_arguments : Fun K "_read_arguments" "_read_arguments" s_read_arguments a_read_arguments d_read_arguments
  b_read_arguments : Binds K d_read_arguments ["reader"] []
  m_read_arguments : mg "_read_arguments" = some (.ref a_read_arguments)
  a_read_kind : Addr
  d_read_kind : FuncData
  F_read_kind : Fun K "_read_kind" "_read_kind" s_read_kind a_read_kind d_read_kind
  b_read_kind : Binds K d_read_kind ["reader", "depth"] []
  m_read_kind : mg "_read_kind" = some (.ref a_read_kind)
  a_read_bare_kind : Addr
  d_read_bare_kind : FuncData
  F_read_bare_kind : Fun K "_read_bare_kind" "_read_bare_kind" s_read_bare_kind a_read_bare_kind d_read_bare_kind
  b_read_bare_kind : Binds K d_read_bare_kind ["reader", "depth"] []
  m_read_bare_kind : mg "_read_bare_kind" = some (.ref a_read_bare_kind)
  a_read_declaration : Addr
  d_read_declaration : FuncData
  F_read_declaration : Fun K "_read_declaration" "_read_declaration" s_read_declaration a_read_declaration d_read_declaration
  b_read_declaration : Binds K d_read_declaration ["reader"] []
  m_read_declaration : mg "_read_declaration" = some (.ref a_read_declaration)
  a_read_declarations : Addr
  d_read_declarations : FuncData
  F_read_declarations : Fun K "_read_declarations" "_read_declarations" s_read_declarations a_read_declarations d_read_declarations
  b_read_declarations : Binds K d_read_declarations ["reader"] []
  m_read_declarations : mg "_read_declarations" = some (.ref a_read_declarations)
  a_read_field : Addr
  d_read_field : FuncData
  F_read_field : Fun K "_read_field" "_read_field" s_read_field a_read_field d_read_field
  b_read_field : Binds K d_read_field ["reader", "depth"] []
  m_read_field : mg "_read_field" = some (.ref a_read_field)
  a_read_spread : Addr
  d_read_spread : FuncData
  F_read_spread : Fun K "_read_spread" "_read_spread" s_read_spread a_read_spread d_read_spread
  b_read_spread : Binds K d_read_spread ["reader", "depth"] []
  m_read_spread : mg "_read_spread" = some (.ref a_read_spread)
  a_read_part : Addr
  d_read_part : FuncData
  F_read_part : Fun K "_read_part" "_read_part" s_read_part a_read_part d_read_part
  b_read_part : Binds K d_read_part ["reader", "depth"] []
  m_read_part : mg "_read_part" = some (.ref a_read_part)
  a_read_selection : Addr
  d_read_selection : FuncData
  F_read_selection : Fun K "_read_selection" "_read_selection" s_read_selection a_read_selection d_read_selection
  b_read_selection : Binds K d_read_selection ["reader", "depth"] []
  m_read_selection : mg "_read_selection" = some (.ref a_read_selection)
  a_read_fragment : Addr
  d_read_fragment : FuncData
  F_read_fragment : Fun K "_read_fragment" "_read_fragment" s_read_fragment a_read_fragment d_read_fragment
  b_read_fragment : Binds K d_read_fragment ["reader"] []
  m_read_fragment : mg "_read_fragment" = some (.ref a_read_fragment)
  a_read_fragments : Addr
  d_read_fragments : FuncData
  F_read_fragments : Fun K "_read_fragments" "_read_fragments" s_read_fragments a_read_fragments d_read_fragments
  b_read_fragments : Binds K d_read_fragments ["reader"] []
  m_read_fragments : mg "_read_fragments" = some (.ref a_read_fragments)
  a_parse_document : Addr
  d_parse_document : FuncData
  F_parse_document : Fun K "parse_document" "parse_document" s_parse_document a_parse_document d_parse_document
  b_parse_document : Binds K d_parse_document ["text"] []
  m_parse_document : mg "parse_document" = some (.ref a_parse_document)
  a_l_refill : Addr
  d_l_refill : FuncData
  F_l_refill : Fun K "_law_refill" "_law_refill" s_l_refill a_l_refill d_l_refill
  b_l_refill : Binds K d_l_refill ["script", "k"] []
  m_l_refill : mg "_law_refill" = some (.ref a_l_refill)
  a_l_draw : Addr
  d_l_draw : FuncData
  F_l_draw : Fun K "_law_draw" "_law_draw" s_l_draw a_l_draw d_l_draw
  b_l_draw : Binds K d_l_draw ["state", "script", "size"] []
  m_l_draw : mg "_law_draw" = some (.ref a_l_draw)
  a_l_run : Addr
  d_l_run : FuncData
  F_l_run : Fun K "_law_run" "_law_run" s_l_run a_l_run d_l_run
  b_l_run : Binds K d_l_run ["text", "at", "signs"] []
  m_l_run : mg "_law_run" = some (.ref a_l_run)
  a_l_named : Addr
  d_l_named : FuncData
  F_l_named : Fun K "_law_named" "_law_named" s_l_named a_l_named d_l_named
  b_l_named : Binds K d_l_named ["text", "at", "place"] []
  m_l_named : mg "_law_named" = some (.ref a_l_named)
  a_l_word_at : Addr
  d_l_word_at : FuncData
  F_l_word_at : Fun K "_law_word_at" "_law_word_at" s_l_word_at a_l_word_at d_l_word_at
  b_l_word_at : Binds K d_l_word_at ["text", "at"] []
  m_l_word_at : mg "_law_word_at" = some (.ref a_l_word_at)
  a_l_split : Addr
  d_l_split : FuncData
  F_l_split : Fun K "_law_split" "_law_split" s_l_split a_l_split d_l_split
  b_l_split : Binds K d_l_split ["text"] []
  m_l_split : mg "_law_split" = some (.ref a_l_split)
  a_l_is : Addr
  d_l_is : FuncData
  F_l_is : Fun K "_law_is" "_law_is" s_l_is a_l_is d_l_is
  b_l_is : Binds K d_l_is ["words", "at", "kind", "word"] []
  m_l_is : mg "_law_is" = some (.ref a_l_is)
  a_l_kind_at : Addr
  d_l_kind_at : FuncData
  F_l_kind_at : Fun K "_law_kind_at" "_law_kind_at" s_l_kind_at a_l_kind_at d_l_kind_at
  b_l_kind_at : Binds K d_l_kind_at ["words", "at", "kind"] []
  m_l_kind_at : mg "_law_kind_at" = some (.ref a_l_kind_at)
  a_l_plain_at : Addr
  d_l_plain_at : FuncData
  F_l_plain_at : Fun K "_law_plain_at" "_law_plain_at" s_l_plain_at a_l_plain_at d_l_plain_at
  b_l_plain_at : Binds K d_l_plain_at ["words", "at"] []
  m_l_plain_at : mg "_law_plain_at" = some (.ref a_l_plain_at)
  a_l_constant : Addr
  d_l_constant : FuncData
  F_l_constant : Fun K "_law_constant" "_law_constant" s_l_constant a_l_constant d_l_constant
  b_l_constant : Binds K d_l_constant ["words", "at"] []
  m_l_constant : mg "_law_constant" = some (.ref a_l_constant)
  a_l_value_at : Addr
  d_l_value_at : FuncData
  F_l_value_at : Fun K "_law_value_at" "_law_value_at" s_l_value_at a_l_value_at d_l_value_at
  b_l_value_at : Binds K d_l_value_at ["words", "at"] []
  m_l_value_at : mg "_law_value_at" = some (.ref a_l_value_at)
  a_l_type_at : Addr
  d_l_type_at : FuncData
  F_l_type_at : Fun K "_law_type_at" "_law_type_at" s_l_type_at a_l_type_at d_l_type_at
  b_l_type_at : Binds K d_l_type_at ["words", "at", "depth"] []
  m_l_type_at : mg "_law_type_at" = some (.ref a_l_type_at)
  a_l_declared : Addr
  d_l_declared : FuncData
  F_l_declared : Fun K "_law_declared" "_law_declared" s_l_declared a_l_declared d_l_declared
  b_l_declared : Binds K d_l_declared ["words", "at"] []
  m_l_declared : mg "_law_declared" = some (.ref a_l_declared)
  a_l_conditions_at : Addr
  d_l_conditions_at : FuncData
  F_l_conditions_at : Fun K "_law_conditions_at" "_law_conditions_at" s_l_conditions_at a_l_conditions_at d_l_conditions_at
  b_l_conditions_at : Binds K d_l_conditions_at ["words", "at"] []
  m_l_conditions_at : mg "_law_conditions_at" = some (.ref a_l_conditions_at)
  a_l_arguments_at : Addr
  d_l_arguments_at : FuncData
  F_l_arguments_at : Fun K "_law_arguments_at" "_law_arguments_at" s_l_arguments_at a_l_arguments_at d_l_arguments_at
  b_l_arguments_at : Binds K d_l_arguments_at ["words", "at"] []
  m_l_arguments_at : mg "_law_arguments_at" = some (.ref a_l_arguments_at)
  a_l_field_at : Addr
  d_l_field_at : FuncData
  F_l_field_at : Fun K "_law_field_at" "_law_field_at" s_l_field_at a_l_field_at d_l_field_at
  b_l_field_at : Binds K d_l_field_at ["words", "at", "depth"] []
  m_l_field_at : mg "_law_field_at" = some (.ref a_l_field_at)
  a_l_spread_at : Addr
  d_l_spread_at : FuncData
  F_l_spread_at : Fun K "_law_spread_at" "_law_spread_at" s_l_spread_at a_l_spread_at d_l_spread_at
  b_l_spread_at : Binds K d_l_spread_at ["words", "at", "depth"] []
  m_l_spread_at : mg "_law_spread_at" = some (.ref a_l_spread_at)
  a_l_selection_at : Addr
  d_l_selection_at : FuncData
  F_l_selection_at : Fun K "_law_selection_at" "_law_selection_at" s_l_selection_at a_l_selection_at d_l_selection_at
  b_l_selection_at : Binds K d_l_selection_at ["words", "at", "depth"] []
  m_l_selection_at : mg "_law_selection_at" = some (.ref a_l_selection_at)
  a_l_fragment_at : Addr
  d_l_fragment_at : FuncData
  F_l_fragment_at : Fun K "_law_fragment_at" "_law_fragment_at" s_l_fragment_at a_l_fragment_at d_l_fragment_at
  b_l_fragment_at : Binds K d_l_fragment_at ["words", "at", "count"] []
  m_l_fragment_at : mg "_law_fragment_at" = some (.ref a_l_fragment_at)
  a_l_document_at : Addr
  d_l_document_at : FuncData
  F_l_document_at : Fun K "_law_document_at" "_law_document_at" s_l_document_at a_l_document_at d_l_document_at
  b_l_document_at : Binds K d_l_document_at ["words"] []
  m_l_document_at : mg "_law_document_at" = some (.ref a_l_document_at)
  a_l_expected : Addr
  d_l_expected : FuncData
  F_l_expected : Fun K "_law_expected" "_law_expected" s_l_expected a_l_expected d_l_expected
  b_l_expected : Binds K d_l_expected ["text"] []
  m_l_expected : mg "_law_expected" = some (.ref a_l_expected)
  a_l_told : Addr
  d_l_told : FuncData
  F_l_told : Fun K "_law_told" "_law_told" s_l_told a_l_told d_l_told
  b_l_told : Binds K d_l_told ["text"] []
  m_l_told : mg "_law_told" = some (.ref a_l_told)
  a_l_start : Addr
  d_l_start : FuncData
  F_l_start : Fun K "_law_start" "_law_start" s_l_start a_l_start d_l_start
  b_l_start : Binds K d_l_start ["state", "script"] []
  m_l_start : mg "_law_start" = some (.ref a_l_start)
  a_law : Addr
  d_law : FuncData
  F_law : Fun K "law" "law" s_law a_law d_law
  b_law : Binds K d_law ["script"] []
  m_law : mg "law" = some (.ref a_law)
  t_LONGEST_NAME : Tok
  c_LONGEST_NAME : mg "LONGEST_NAME" = some (.int (30) t_LONGEST_NAME)
  t_LEAST_INT : Tok
  c_LEAST_INT : mg "LEAST_INT" = some (.int (-2147483648) t_LEAST_INT)
  t_GREATEST_INT : Tok
  c_GREATEST_INT : mg "GREATEST_INT" = some (.int (2147483647) t_GREATEST_INT)
  t_FIRST_CODE : Tok
  c_FIRST_CODE : mg "FIRST_CODE" = some (.int (32) t_FIRST_CODE)
  t_LAST_CODE : Tok
  c_LAST_CODE : mg "LAST_CODE" = some (.int (126) t_LAST_CODE)
  t_EXCEPTED_CODE : Tok
  c_EXCEPTED_CODE : mg "EXCEPTED_CODE" = some (.int (37) t_EXCEPTED_CODE)
  t_BLANKS : Tok
  c_BLANKS : mg "BLANKS" = some (.str " \n," t_BLANKS)
  t_SIGNS : Tok
  c_SIGNS : mg "SIGNS" = some (.str "{}():=![]@" t_SIGNS)
  t_DOTS : Tok
  c_DOTS : mg "DOTS" = some (.str "..." t_DOTS)
  t_QUOTE : Tok
  c_QUOTE : mg "QUOTE" = some (.str "\"" t_QUOTE)
  t_MOST_DIGITS : Tok
  c_MOST_DIGITS : mg "MOST_DIGITS" = some (.int (10) t_MOST_DIGITS)
  t_TYPE_FIELD : Tok
  c_TYPE_FIELD : mg "TYPE_FIELD" = some (.str "_type" t_TYPE_FIELD)
  t_DEEPEST_LIST : Tok
  c_DEEPEST_LIST : mg "DEEPEST_LIST" = some (.int (5) t_DEEPEST_LIST)
  t_DEEPEST_SELECTION : Tok
  c_DEEPEST_SELECTION : mg "DEEPEST_SELECTION" = some (.int (10) t_DEEPEST_SELECTION)
  t_MOST_FRAGMENTS : Tok
  c_MOST_FRAGMENTS : mg "MOST_FRAGMENTS" = some (.int (10) t_MOST_FRAGMENTS)
  z_all : mg "all" = none
  z_bool : mg "bool" = none
  z_int : mg "int" = none
  z_isinstance : mg "isinstance" = none
  z_len : mg "len" = none
  z_ord : mg "ord" = none
  z_range : mg "range" = none
  z_str : mg "str" = none
  z_tuple : mg "tuple" = none
  tb_NAMED_CONSTANTS : Addr
  es_NAMED_CONSTANTS : Array DictEntry
  nn_NAMED_CONSTANTS : Nat
  tm_NAMED_CONSTANTS : mg "NAMED_CONSTANTS" = some (.ref tb_NAMED_CONSTANTS)
  kd_NAMED_CONSTANTS : KDict K w tb_NAMED_CONSTANTS es_NAMED_CONSTANTS nn_NAMED_CONSTANTS
  kt_NAMED_CONSTANTS : KTab K w mg tb_NAMED_CONSTANTS constT
abbrev sx_InvalidDocument : Stmt := inClass (top 2) 0
/-- the error with a field: its class, its __init__, and what an except suite asks of it -/
structure Ts (K : PySem.W.Frag) (P : Program) (mg : Str → Option Value) where
  C : Addr
  fI : Addr
  cda : Addr
  cc : Addr
  kV : Value
  doc : Value
  pm : Value
  ct : Value
  an : Option Addr
  S : SupC K P mg C cc cda fI (PySem.W.ksFn "__init__" "InvalidDocument.__init__" (defArgs sx_InvalidDocument) (defBody sx_InvalidDocument) (defScope sx_InvalidDocument) .none kV doc pm an (.ref cda) ct cc)
  hcd : PySem.W.codeIn K (.ref cda) "InvalidDocument.__init__" = true
  hno : PySem.W.findIn K (.ref C) "place" = some none
  fx : ExcF K mg "InvalidDocument" C fI
  bi : Binds K (PySem.W.ksFn "__init__" "InvalidDocument.__init__" (defArgs sx_InvalidDocument) (defBody sx_InvalidDocument) (defScope sx_InvalidDocument) .none kV doc pm an (.ref cda) ct cc) ["self", "place"] []
  ex : PySem.W.exmOne K (.ref C) (.ref C) = some true
  ec : ExcC K C
  xf : XfC K C
  E : Addr
  mE : mg "SeamError" = some (.ref E)
  kE : PySem.W.kitOne K (.ref C) (.ref E) = some true
variable {P : Program} {w : World} {K : PySem.W.Frag} {mg : Str → Option Value} {base : Heap}
theorem ok_sup (U : Ts K P mg) : FnOk P w K mg base CX0 1 U.fI (PySem.W.ksFn "__init__" "InvalidDocument.__init__" (defArgs sx_InvalidDocument) (defBody sx_InvalidDocument) (defScope sx_InvalidDocument) .none U.kV U.doc U.pm U.an (.ref U.cda) U.ct U.cc) ["self", "place"] (spSup U.C "place" (goodF "the document does not fit at place ")) := by
  refine fn_sup' (st := sx_InvalidDocument) (fld := "place") (sf := "self") (par := "place") (hst := rfl) (S := U.S) (hcd := U.hcd) (hp := rfl) (har := rfl) (hne := by decide) (hks := by decide +kernel) (hkc := by decide +kernel) (hka := by decide +kernel) (hkp := by decide +kernel) (hk := rfl) (hcell := by decide +kernel) (hfree := by decide +kernel) (hco := rfl) (hgen := rfl) (hno := U.hno) (hE := ?_) (hev := fun _ => rfl) (he := ?_) (hi := ?_) (hs1 := ?_) (hs2 := ?_) (hd1 := by decide) (hd2 := by decide) (hc1 := by decide) (hc2 := by decide)
  · intro A outer s H E
    refine ⟨_, pa_cons (pe_joined (.cons pe_str (.cons (pe_fmt (pe_var (i := 1) rfl (.inl rfl) (by decide) (by decide))) .nil))) pa_nil rfl, fun x v H hg => ?_⟩
    obtain ⟨i, rfl, h1, h2⟩ := hg
    refine ⟨_, rfl, by decide, _, rfl, .inr ⟨i, rfl, h1, _, rfl, ?_, rfl, rfl⟩⟩
    exact Nat.le_trans h2 (by decide)
  all_goals exact fun _ => rfl
theorem ok_init_Document (T : Tx K mg w) : FnOk P w K mg base CX0 1 T.i_Document T.di_Document ["self", "variables", "selection", "fragments"] (spInit T.C_Document ["variables", "selection", "fragments"]) := by
  refine T.Fi_Document.ok sci_Document (fun vs H Q E h => ?_) (fun cdv A outer s H vs Q E hr h => ?_)
  · obtain ⟨x, dx, ws, rfl, hl, _⟩ := h
    rw [List.length_cons, hl]
    rfl
  · obtain ⟨x, dx, ws, rfl, hl, h1, h2, h3, q⟩ := h
    match ws, hl with
    | [w1, w2, w3], _ =>
      refine ⟨_, (pss_cons (ps_fld (pv0 (i := 0)) (pv0 (i := 1)) rfl) (pss_cons (ps_fld (pv0 (i := 0)) (pv0 (i := 2)) rfl) (pss_one (ps_fld (pv0 (i := 0)) (pv0 (i := 3)) rfl)))), ?_⟩
      refine ⟨w1, rfl, _, rfl, x, T.C_Document, dx, _, rfl, h1, T.cl_Document, T.n_Document_variables, (Nat.zero_lt_succ _), w2, rfl, _, rfl, x, T.C_Document, dx, _, rfl, upd_same, T.cl_Document, T.n_Document_selection, (lt_put (Nat.zero_lt_succ _)), w3, rfl, _, rfl, x, T.C_Document, dx, _, rfl, upd_same, T.cl_Document, T.n_Document_fragments, (lt_put (lt_put (Nat.zero_lt_succ _))), ?_⟩
      rw [L2.upd_upd, L2.upd_upd]
      exact q
theorem none_left {k : Nat} {CX : CXT} {f : Addr} {fd : FuncData} {ps : List Str} {sp : SpecD} (h : ∀ ds Q E, ¬ sp ds Q E) : FnOk P w K mg base CX k f fd ps (spD K mg sp) := by
  have no : ∀ vs H Q E, ¬ spD K mg sp vs H Q E := fun vs H Q E ⟨_, _, _, _, _, _, _, q, _⟩ => h _ _ _ q
  exact ⟨fun vs H Q E h => absurd h (no vs H Q E), fun A outer s H args us vs Q E _ _ _ _ h => absurd h (no vs H Q E)⟩
theorem none_leftX {k : Nat} {CX : CXT} {f C : Addr} {fd : FuncData} {ps : List Str} {sp : SpecX} (h : ∀ ws ds n Q E, ¬ sp ws ds n Q E) : FnOk P w K mg base CX k f fd ps (spX K mg C sp) := by
  have no : ∀ vs H Q E, ¬ spX K mg C sp vs H Q E := fun vs H Q E ⟨_, _, _, _, _, _, _, _, _, _, _, _, q, _⟩ => h _ _ _ _ _ q
  exact ⟨fun vs H Q E h => absurd h (no vs H Q E), fun A outer s H args us vs Q E _ _ _ _ h => absurd h (no vs H Q E)⟩
theorem db_is_name (T : Tx K mg w) (U : Ts K P mg) {cdv : Value} {A : Around} {outer : List Env} {s : Shared} {H : Hp} {E : XK} {k : Cc} (hr : Room (0) (A.deeper (envOfC "is_name" (defScope s_is_name) s.heap.objs.size T.a_is_name cdv))) :
    DB (cxOf CX0 P w K mg base ["text"] "is_name" (defScope s_is_name) T.a_is_name cdv A outer s H E).nox k (defBody s_is_name) (W_is_name) :=
  (db_cons (ds_if (dt_not (dt_val (de_m0 PySem.F.slot_str_isascii PySem.F.type_str_isascii mt_isascii om_bl (de_var (i := 0))))) (db_one (ds_ret de_bl)) db_nil)
  (db_cons (ds_if (dt_not (dt_chain op_le o2_le op_le o2_le de_int (de_len T.z_len (da_cons (de_var (i := 0)) da_nil)) (de_glob (v := (.int (30))) (d := (.int (30))) T.c_LONGEST_NAME ⟨_, rfl⟩ (fun _ => .int _)))) (db_one (ds_ret de_bl)) db_nil)
  (db_one (ds_ret (de_nameEnd (i := 0))))))
theorem ok_is_name (T : Tx K mg w) (U : Ts K P mg) : FnOk P w K mg base CX0 1 T.a_is_name T.d_is_name ["text"] (spD K mg sp_is_name) :=
  fn_d T.F_is_name sc_is_name (fun _ _ _ h => len_is_name h) (by decide) W_is_name (fun _ _ _ _ _ _ _ hr _ => db_is_name T U hr) hw_is_name
theorem db_is_plain (T : Tx K mg w) (U : Ts K P mg) {cdv : Value} {A : Around} {outer : List Env} {s : Shared} {H : Hp} {E : XK} {k : Cc} (hr : Room (0) (A.deeper (envOfC "_is_plain" (defScope s_is_plain) s.heap.objs.size T.a_is_plain cdv))) :
    DB (cxOf CX0 P w K mg base ["code"] "_is_plain" (defScope s_is_plain) T.a_is_plain cdv A outer s H E).nox k (defBody s_is_plain) (W_is_plain) :=
  (db_one (ds_ret (de_and (de_chain op_le o2_le op_le o2_le (de_glob (v := (.int (32))) (d := (.int (32))) T.c_FIRST_CODE ⟨_, rfl⟩ (fun _ => .int _)) (de_var (i := 0)) (de_glob (v := (.int (126))) (d := (.int (126))) T.c_LAST_CODE ⟨_, rfl⟩ (fun _ => .int _))) (de_one (de_cmp (op_ne_d hr.units) o2_ne (de_var (i := 0)) (de_glob (v := (.int (37))) (d := (.int (37))) T.c_EXCEPTED_CODE ⟨_, rfl⟩ (fun _ => .int _)))))))
theorem ok_is_plain (T : Tx K mg w) (U : Ts K P mg) : FnOk P w K mg base CX0 1 T.a_is_plain T.d_is_plain ["code"] (spD K mg sp_is_plain) :=
  fn_d T.F_is_plain sc_is_plain (fun _ _ _ h => len_is_plain h) (by decide) W_is_plain (fun _ _ _ _ _ _ _ hr _ => db_is_plain T U hr) hw_is_plain
theorem db_fits (T : Tx K mg w) (U : Ts K P mg) {cdv : Value} {A : Around} {outer : List Env} {s : Shared} {H : Hp} {E : XK} {k : Cc} (hr : Room (1) (A.deeper (envOfC "fits" (defScope s_fits) s.heap.objs.size T.a_fits cdv))) :
    DB (cxOf CX0 P w K mg base ["scalar", "value", "sign"] "fits" (defScope s_fits) T.a_fits cdv A outer s H E).nox k (defBody s_fits) (W_fits) :=
  (db_cons (ds_if (dt_val (de_isi T.z_isinstance (da_cons (de_var (i := 1)) (da_cons (de_tyN T.z_bool PyProof.Rows.boot_bool) da_nil)))) (db_one (ds_ret (de_cmp (op_eq_d hr.units) o2_eq (de_var (i := 0)) de_str))) db_nil)
  (db_cons (ds_if (dt_val (de_isi T.z_isinstance (da_cons (de_var (i := 1)) (da_cons (de_tyN T.z_int PyProof.Rows.boot_int) da_nil)))) (db_one (ds_ret (de_and (de_cmp (op_eq_d hr.units) o2_eq (de_var (i := 0)) de_str) (de_one (de_chain op_le o2_le op_le o2_le (de_glob (v := (.int (-2147483648))) (d := (.int (-2147483648))) T.c_LEAST_INT ⟨_, rfl⟩ (fun _ => .int _)) (de_var (i := 1)) (de_glob (v := (.int (2147483647))) (d := (.int (2147483647))) T.c_GREATEST_INT ⟨_, rfl⟩ (fun _ => .int _))))))) db_nil)
  (db_cons (ds_if (dt_val (de_isi T.z_isinstance (da_cons (de_var (i := 1)) (da_cons (de_tyN T.z_str PyProof.Rows.boot_str) da_nil)))) (db_one (ds_ret (de_and (de_cmp (op_eq_d hr.units) o2_eq (de_var (i := 0)) de_str) (de_one (de_all T.z_all (da_cons (de_lc (own := [("sign", 2)]) sc_fits.nd (di_str (de_var (i := 1))) (blkOk_by (N := ["scalar", "value", "sign"]) (sc := defScope s_fits) (by decide +kernel)) (fun _ _ _ _ _ => (dg_name (i := 2) sc_fits.nd)) (fun _ _ _ _ _ => dts_nil) (fun _ _ _ _ _ => (de_call0 (ok_is_plain T U) (hr.mono (by decide)) T.m_is_plain T.F_is_plain.kp T.b_is_plain (da_cons (de_ord T.z_ord (da_cons (de_var (i := 2)) da_nil)) da_nil)))) da_nil)))))) db_nil)
  (db_one (ds_ret de_bl)))))
theorem ok_fits (T : Tx K mg w) (U : Ts K P mg) : FnOk P w K mg base CX0 2 T.a_fits T.d_fits ["scalar", "value"] (spD K mg sp_fits) :=
  fn_d T.F_fits sc_fits (fun _ _ _ h => len_fits h) (by decide) W_fits (fun _ _ _ _ _ _ _ hr _ => db_fits T U hr) hw_fits
theorem db_may_follow (T : Tx K mg w) (U : Ts K P mg) {cdv : Value} {A : Around} {outer : List Env} {s : Shared} {H : Hp} {E : XK} {k : Cc} (hr : Room (0) (A.deeper (envOfC "_may_follow" (defScope s_may_follow) s.heap.objs.size T.a_may_follow cdv))) :
    DB (cxOf CX0 P w K mg base ["sign"] "_may_follow" (defScope s_may_follow) T.a_may_follow cdv A outer s H E).nox k (defBody s_may_follow) (W_may_follow) :=
  (db_one (ds_ret (de_or (de_cmp (op_eq_d hr.units) o2_eq (de_var (i := 0)) de_str) (de_one (de_and (de_m0 PySem.F.slot_str_isascii PySem.F.type_str_isascii mt_isascii om_bl (de_var (i := 0))) (de_one (de_m0 PySem.F.slot_str_isalnum PySem.F.type_str_isalnum mt_isalnum om_bl (de_var (i := 0)))))))))
theorem ok_may_follow (T : Tx K mg w) (U : Ts K P mg) : FnOk P w K mg base CX0 1 T.a_may_follow T.d_may_follow ["sign"] (spD K mg sp_may_follow) :=
  fn_d T.F_may_follow sc_may_follow (fun _ _ _ h => len_may_follow h) (by decide) W_may_follow (fun _ _ _ _ _ _ _ hr _ => db_may_follow T U hr) hw_may_follow
theorem db_is_digit (T : Tx K mg w) (U : Ts K P mg) {cdv : Value} {A : Around} {outer : List Env} {s : Shared} {H : Hp} {E : XK} {k : Cc} (hr : Room (0) (A.deeper (envOfC "_is_digit" (defScope s_is_digit) s.heap.objs.size T.a_is_digit cdv))) :
    DB (cxOf CX0 P w K mg base ["sign"] "_is_digit" (defScope s_is_digit) T.a_is_digit cdv A outer s H E).nox k (defBody s_is_digit) (W_is_digit) :=
  (db_one (ds_ret (de_and (de_m0 PySem.F.slot_str_isascii PySem.F.type_str_isascii mt_isascii om_bl (de_var (i := 0))) (de_one (de_m0 PySem.F.slot_str_isdigit PySem.F.type_str_isdigit mt_isdigit om_bl (de_var (i := 0)))))))
theorem ok_is_digit (T : Tx K mg w) (U : Ts K P mg) : FnOk P w K mg base CX0 1 T.a_is_digit T.d_is_digit ["sign"] (spD K mg sp_is_digit) :=
  fn_d T.F_is_digit sc_is_digit (fun _ _ _ h => len_is_digit h) (by decide) W_is_digit (fun _ _ _ _ _ _ _ hr _ => db_is_digit T U hr) hw_is_digit
theorem db_end_of_name (T : Tx K mg w) (U : Ts K P mg) {cdv : Value} {A : Around} {outer : List Env} {s : Shared} {H : Hp} {E : XK} {k : Cc} (hr : Room (1) (A.deeper (envOfC "_end_of_name" (defScope s_end_of_name) s.heap.objs.size T.a_end_of_name cdv))) :
    DB (cxOf CX0 P w K mg base ["text", "place", "end"] "_end_of_name" (defScope s_end_of_name) T.a_end_of_name cdv A outer s H E).nox k (defBody s_end_of_name) (W_end_of_name) :=
  (db_cons (ds_set (i := 2) sc_end_of_name.nd (de_var (i := 1)))
  (db_cons (ds_while PassesOwn.never (dt_w (dw_and (dt_cmp op_lt o2_lt (de_var (i := 2)) (de_len T.z_len (da_cons (de_var (i := 0)) da_nil))) (dw_and1 (dt_val (de_call0 (ok_may_follow T U) (hr.mono (by decide)) T.m_may_follow T.F_may_follow.kp T.b_may_follow (da_cons (de_sub1 (de_var (i := 0)) (de_var (i := 2))) da_nil))))))
  (db_one (ds_aug (i := 2) sc_end_of_name.nd de_int)))
  (db_one (ds_ret (de_var (i := 2))))))
theorem ok_end_of_name (T : Tx K mg w) (U : Ts K P mg) : FnOk P w K mg base CX0 2 T.a_end_of_name T.d_end_of_name ["text", "place"] (spD K mg sp_end_of_name) :=
  fn_d T.F_end_of_name sc_end_of_name (fun _ _ _ h => len_end_of_name h) (by decide) W_end_of_name (fun _ _ _ _ _ _ _ hr _ => db_end_of_name T U hr) hw_end_of_name
theorem db_read_name (T : Tx K mg w) (U : Ts K P mg) {cdv : Value} {A : Around} {outer : List Env} {s : Shared} {H : Hp} {k : Cc} (hr : Room (3) (A.deeper (envOfC "_read_name" (defScope s_read_name) s.heap.objs.size T.a_read_name cdv))) :
    DB (cxOf (L2N.CX P w) P w K mg base ["text", "place", "end", "word"] "_read_name" (defScope s_read_name) T.a_read_name cdv A outer s H k.xk) k (defBody s_read_name) (W_read_name k.xd) :=
  (db_cons (ds_set (i := 2) sc_read_name.nd (de_call0 (ok_end_of_name T U) (hr.mono (by decide)) T.m_end_of_name T.F_end_of_name.kp T.b_end_of_name (da_cons (de_var (i := 0)) (da_cons (de_var (i := 1)) da_nil))))
  (db_cons (ds_set (i := 3) sc_read_name.nd (de_slc (de_var (i := 0)) (do_some (de_var (i := 1))) (do_some (de_var (i := 2)))))
  (db_cons (ds_if (dt_w (dw_and (dt_cmp (op_ne_d hr.units) o2_ne (de_var (i := 3)) (de_glob (v := (.str "_type")) (d := (.str "_type")) T.c_TYPE_FIELD ⟨_, rfl⟩ (fun _ => .str _))) (dw_and1 (dt_not (dt_val (de_call0 (ok_is_name T U) (hr.mono (by decide)) T.m_is_name T.F_is_name.kp T.b_is_name (da_cons (de_var (i := 3)) da_nil))))))) (db_one (ds_raiseFN U.fx (ok_sup U) (hr.mono (by decide)) U.bi (L2N.takes_of rfl rfl rfl rfl) (de_var (i := 1)))) db_nil)
  (db_one (ds_ret (de_tup (da_cons de_str (da_cons (de_var (i := 3)) (da_cons (de_var (i := 2)) da_nil)))))))))
theorem ok_read_name (T : Tx K mg w) (U : Ts K P mg) : FnOk P w K mg base (L2N.CX P w) 4 T.a_read_name T.d_read_name ["text", "place"] (spD K mg sp_read_name) :=
  fn_dxN T.F_read_name sc_read_name (fun _ _ _ h => len_read_name h) (by decide) (fun xd => W_read_name xd) (fun _ _ _ _ _ _ hr => db_read_name T U hr) hw_read_name
theorem db_read_number (T : Tx K mg w) (U : Ts K P mg) {cdv : Value} {A : Around} {outer : List Env} {s : Shared} {H : Hp} {k : Cc} (hr : Room (3) (A.deeper (envOfC "_read_number" (defScope s_read_number) s.heap.objs.size T.a_read_number cdv))) :
    DB (cxOf (L2N.CX P w) P w K mg base ["text", "place", "start", "end"] "_read_number" (defScope s_read_number) T.a_read_number cdv A outer s H k.xk) k (defBody s_read_number) (W_read_number k.xd) :=
  (db_cons (ds_set (i := 2) sc_read_number.nd (de_if (dt_cmp (op_eq_d hr.units) o2_eq (de_sub1 (de_var (i := 0)) (de_var (i := 1))) de_str) (de_plus (de_var (i := 1)) de_int) (de_var (i := 1))))
  (db_cons (ds_set (i := 3) sc_read_number.nd (de_var (i := 2)))
  (db_cons (ds_while (passes_of rfl) (dt_w (dw_and (dt_cmp op_lt o2_lt (de_var (i := 3)) (de_len T.z_len (da_cons (de_var (i := 0)) da_nil))) (dw_and1 (dt_val (de_call0 (ok_is_digit T U) (hr.mono (by decide)) T.m_is_digit T.F_is_digit.kp T.b_is_digit (da_cons (de_sub1 (de_var (i := 0)) (de_var (i := 3))) da_nil))))))
  (db_one (ds_aug (i := 3) sc_read_number.nd de_int)))
  (db_cons (ds_if (dt_not (dt_chain op_le o2_le op_le o2_le de_int (de_sub (de_var (i := 3)) (de_var (i := 2))) (de_glob (v := (.int (10))) (d := (.int (10))) T.c_MOST_DIGITS ⟨_, rfl⟩ (fun _ => .int _)))) (db_one (ds_raiseFN U.fx (ok_sup U) (hr.mono (by decide)) U.bi (L2N.takes_of rfl rfl rfl rfl) (de_var (i := 1)))) db_nil)
  (db_one (ds_ret (de_tup (da_cons de_str (da_cons (de_Cints T.z_int (da_cons (de_slc (de_var (i := 0)) (do_some (de_var (i := 1))) (do_some (de_var (i := 3)))) da_nil)) (da_cons (de_var (i := 3)) da_nil))))))))))
theorem ok_read_number (T : Tx K mg w) (U : Ts K P mg) : FnOk P w K mg base (L2N.CX P w) 4 T.a_read_number T.d_read_number ["text", "place"] (spD K mg sp_read_number) :=
  fn_dxN T.F_read_number sc_read_number (fun _ _ _ h => len_read_number h) (by decide) (fun xd => W_read_number xd) (fun _ _ _ _ _ _ hr => db_read_number T U hr) hw_read_number
theorem db_read_variable (T : Tx K mg w) (U : Ts K P mg) {cdv : Value} {A : Around} {outer : List Env} {s : Shared} {H : Hp} {k : Cc} (hr : Room (3) (A.deeper (envOfC "_read_variable" (defScope s_read_variable) s.heap.objs.size T.a_read_variable cdv))) :
    DB (cxOf (L2N.CX P w) P w K mg base ["text", "place", "end", "word"] "_read_variable" (defScope s_read_variable) T.a_read_variable cdv A outer s H k.xk) k (defBody s_read_variable) (W_read_variable k.xd) :=
  (db_cons (ds_set (i := 2) sc_read_variable.nd (de_call0 (ok_end_of_name T U) (hr.mono (by decide)) T.m_end_of_name T.F_end_of_name.kp T.b_end_of_name (da_cons (de_var (i := 0)) (da_cons (de_plus (de_var (i := 1)) de_int) da_nil))))
  (db_cons (ds_set (i := 3) sc_read_variable.nd (de_slc (de_var (i := 0)) (do_some (de_plus (de_var (i := 1)) de_int)) (do_some (de_var (i := 2)))))
  (db_cons (ds_if (dt_not (dt_val (de_call0 (ok_is_name T U) (hr.mono (by decide)) T.m_is_name T.F_is_name.kp T.b_is_name (da_cons (de_var (i := 3)) da_nil)))) (db_one (ds_raiseFN U.fx (ok_sup U) (hr.mono (by decide)) U.bi (L2N.takes_of rfl rfl rfl rfl) (de_var (i := 1)))) db_nil)
  (db_one (ds_ret (de_tup (da_cons de_str (da_cons (de_var (i := 3)) (da_cons (de_var (i := 2)) da_nil)))))))))
theorem ok_read_variable (T : Tx K mg w) (U : Ts K P mg) : FnOk P w K mg base (L2N.CX P w) 4 T.a_read_variable T.d_read_variable ["text", "place"] (spD K mg sp_read_variable) :=
  fn_dxN T.F_read_variable sc_read_variable (fun _ _ _ h => len_read_variable h) (by decide) (fun xd => W_read_variable xd) (fun _ _ _ _ _ _ hr => db_read_variable T U hr) hw_read_variable
theorem db_read_text (T : Tx K mg w) (U : Ts K P mg) {cdv : Value} {A : Around} {outer : List Env} {s : Shared} {H : Hp} {k : Cc} (hr : Room (3) (A.deeper (envOfC "_read_text" (defScope s_read_text) s.heap.objs.size T.a_read_text cdv))) :
    DB (cxOf (L2N.CX P w) P w K mg base ["text", "place", "end", "word"] "_read_text" (defScope s_read_text) T.a_read_text cdv A outer s H k.xk) k (defBody s_read_text) (W_read_text k.xd) :=
  (db_cons (ds_set (i := 2) sc_read_text.nd (de_find (de_var (i := 0)) (de_glob (v := (.str "\"")) (d := (.str "\"")) T.c_QUOTE ⟨_, rfl⟩ (fun _ => .str _)) (de_plus (de_var (i := 1)) de_int)))
  (db_cons (ds_set (i := 3) sc_read_text.nd (de_slc (de_var (i := 0)) (do_some (de_plus (de_var (i := 1)) de_int)) (do_some (de_var (i := 2)))))
  (db_cons (ds_if (dt_w (dw_or (dt_cmp op_lt o2_lt (de_var (i := 2)) de_int) (dw_or1 (dt_not (dt_val (de_call0 (ok_fits T U) (hr.mono (by decide)) T.m_fits T.F_fits.kp T.b_fits (da_cons de_str (da_cons (de_var (i := 3)) da_nil)))))))) (db_one (ds_raiseFN U.fx (ok_sup U) (hr.mono (by decide)) U.bi (L2N.takes_of rfl rfl rfl rfl) (de_var (i := 1)))) db_nil)
  (db_one (ds_ret (de_tup (da_cons de_str (da_cons (de_var (i := 3)) (da_cons (de_plus (de_var (i := 2)) de_int) da_nil)))))))))
theorem ok_read_text (T : Tx K mg w) (U : Ts K P mg) : FnOk P w K mg base (L2N.CX P w) 4 T.a_read_text T.d_read_text ["text", "place"] (spD K mg sp_read_text) :=
  fn_dxN T.F_read_text sc_read_text (fun _ _ _ h => len_read_text h) (by decide) (fun xd => W_read_text xd) (fun _ _ _ _ _ _ hr => db_read_text T U hr) hw_read_text
theorem db_read_word (T : Tx K mg w) (U : Ts K P mg) {cdv : Value} {A : Around} {outer : List Env} {s : Shared} {H : Hp} {k : Cc} (hr : Room (4) (A.deeper (envOfC "_read_word" (defScope s_read_word) s.heap.objs.size T.a_read_word cdv))) :
    DB (cxOf (L2N.CX P w) P w K mg base ["text", "place", "sign"] "_read_word" (defScope s_read_word) T.a_read_word cdv A outer s H k.xk) k (defBody s_read_word) (W_read_word k.xd) :=
  (db_cons (ds_set (i := 2) sc_read_word.nd (de_sub1 (de_var (i := 0)) (de_var (i := 1))))
  (db_cons (ds_if (dt_cmp op_in_sign o2_inS (de_var (i := 2)) (de_glob (v := (.str "{}():=![]@")) (d := (.str "{}():=![]@")) T.c_SIGNS ⟨_, rfl⟩ (fun _ => .str _)) rfl) (db_one (ds_ret (de_tup (da_cons de_str (da_cons (de_var (i := 2)) (da_cons (de_plus (de_var (i := 1)) de_int) da_nil)))))) db_nil)
  (db_cons (ds_if (dt_val (de_st3 (de_var (i := 0)) (de_glob (v := (.str "...")) (d := (.str "...")) T.c_DOTS ⟨_, rfl⟩ (fun _ => .str _)) (de_var (i := 1)))) (db_one (ds_ret (de_tup (da_cons de_str (da_cons (de_glob (v := (.str "...")) (d := (.str "...")) T.c_DOTS ⟨_, rfl⟩ (fun _ => .str _)) (da_cons (de_plus (de_var (i := 1)) (de_len T.z_len (da_cons (de_glob (v := (.str "...")) (d := (.str "...")) T.c_DOTS ⟨_, rfl⟩ (fun _ => .str _)) da_nil))) da_nil)))))) db_nil)
  (db_cons (ds_if (dt_cmp (op_eq_d hr.units) o2_eq (de_var (i := 2)) (de_glob (v := (.str "\"")) (d := (.str "\"")) T.c_QUOTE ⟨_, rfl⟩ (fun _ => .str _))) (db_one (ds_ret (de_callX (ok_read_text T U) (hr.mono (by decide)) T.m_read_text T.F_read_text.kp T.b_read_text (L2N.passes_call (L2N.takes_of rfl rfl rfl rfl) (fun _ _ _ _ h => h)) (da_cons (de_var (i := 0)) (da_cons (de_var (i := 1)) da_nil))))) db_nil)
  (db_cons (ds_if (dt_cmp (op_eq_d hr.units) o2_eq (de_var (i := 2)) de_str) (db_one (ds_ret (de_callX (ok_read_variable T U) (hr.mono (by decide)) T.m_read_variable T.F_read_variable.kp T.b_read_variable (L2N.passes_call (L2N.takes_of rfl rfl rfl rfl) (fun _ _ _ _ h => h)) (da_cons (de_var (i := 0)) (da_cons (de_var (i := 1)) da_nil))))) db_nil)
  (db_cons (ds_if (dt_w (dw_or (dt_cmp (op_eq_d hr.units) o2_eq (de_var (i := 2)) de_str) (dw_or1 (dt_val (de_call0 (ok_is_digit T U) (hr.mono (by decide)) T.m_is_digit T.F_is_digit.kp T.b_is_digit (da_cons (de_var (i := 2)) da_nil)))))) (db_one (ds_ret (de_callX (ok_read_number T U) (hr.mono (by decide)) T.m_read_number T.F_read_number.kp T.b_read_number (L2N.passes_call (L2N.takes_of rfl rfl rfl rfl) (fun _ _ _ _ h => h)) (da_cons (de_var (i := 0)) (da_cons (de_var (i := 1)) da_nil))))) db_nil)
  (db_one (ds_ret (de_callX (ok_read_name T U) (hr.mono (by decide)) T.m_read_name T.F_read_name.kp T.b_read_name (L2N.passes_call (L2N.takes_of rfl rfl rfl rfl) (fun _ _ _ _ h => h)) (da_cons (de_var (i := 0)) (da_cons (de_var (i := 1)) da_nil)))))))))))
theorem ok_read_word (T : Tx K mg w) (U : Ts K P mg) : FnOk P w K mg base (L2N.CX P w) 5 T.a_read_word T.d_read_word ["text", "place"] (spD K mg sp_read_word) :=
  fn_dxN T.F_read_word sc_read_word (fun _ _ _ h => len_read_word h) (by decide) (fun xd => W_read_word xd) (fun _ _ _ _ _ _ hr => db_read_word T U hr) hw_read_word
theorem db_split_words (T : Tx K mg w) (U : Ts K P mg) {cdv : Value} {A : Around} {outer : List Env} {s : Shared} {H : Hp} {k : Cc} (hr : Room (5) (A.deeper (envOfC "split_words" (defScope s_split_words) s.heap.objs.size T.a_split_words cdv))) :
    DB (cxOf (L2N.CX P w) P w K mg base ["text", "words", "place", "kind", "word", "end"] "split_words" (defScope s_split_words) T.a_split_words cdv A outer s H k.xk) k (defBody s_split_words) (W_split_words k.xd) :=
  (db_cons (ds_newl (i := 1) sc_split_words.nd)
  (db_cons (ds_set (i := 2) sc_split_words.nd de_int)
  (db_cons (ds_while (passes_of rfl) (dt_cmp op_lt o2_lt (de_var (i := 2)) (de_len T.z_len (da_cons (de_var (i := 0)) da_nil)))
  (db_one (ds_if (dt_cmp op_in_sign o2_inS (de_sub1 (de_var (i := 0)) (de_var (i := 2))) (de_glob (v := (.str " \n,")) (d := (.str " \n,")) T.c_BLANKS ⟨_, rfl⟩ (fun _ => .str _)) rfl) (db_one (ds_aug (i := 2) sc_split_words.nd de_int)) (db_cons (ds_asg (de_callX (ok_read_word T U) (hr.mono (by decide)) T.m_read_word T.F_read_word.kp T.b_read_word (L2N.passes_call (L2N.takes_of rfl rfl rfl rfl) (fun _ _ _ _ h => h)) (da_cons (de_var (i := 0)) (da_cons (de_var (i := 2)) da_nil))) (dg_tup rfl (dgs_cons (dg_name (i := 3) sc_split_words.nd) (dgs_cons (dg_name (i := 4) sc_split_words.nd) (dgs_cons (dg_name (i := 5) sc_split_words.nd) dgs_nil)))))
  (db_cons (ds_app (i := 1) (de_tup (da_cons (de_var (i := 2)) (da_cons (de_var (i := 3)) (da_cons (de_var (i := 4)) da_nil)))))
  (db_one (ds_set (i := 2) sc_split_words.nd (de_var (i := 5)))))))))
  (db_frzL (i := 1) (db_one (ds_ret (de_var (i := 1))))))))
theorem ok_split_words (T : Tx K mg w) (U : Ts K P mg) : FnOk P w K mg base (L2N.CX P w) 6 T.a_split_words T.d_split_words ["text"] (spD K mg sp_split_words) :=
  fn_dxN T.F_split_words sc_split_words (fun _ _ _ h => len_split_words h) (by decide) (fun xd => W_split_words xd) (fun _ _ _ _ _ _ hr => db_split_words T U hr) hw_split_words
theorem db_R_ahead (T : Tx K mg w) (U : Ts K P mg) {cdv : Value} {A : Around} {outer : List Env} {s : Shared} {H : Hp} {s' : Addr} {Ed : Exn → Prop} {E : XK} {R : RdC} {ws : List D} (hr : Room (0) (A.deeper (envOfC "Reader.ahead" (defScope s_R_ahead) s.heap.objs.size T.a_R_ahead cdv))) :
    DBx (cxOf (L2N.CX P w) P w K mg base ["self", "_", "kind", "word"] "Reader.ahead" (defScope s_R_ahead) T.a_R_ahead cdv A outer s H E) ⟨s', Ed, E, T.C_Reader, R, ws⟩ (defBody s_R_ahead) (W_R_ahead R.x ws Ed) :=
  (dbx_cons (dsx_asg (dex_ix ix_seq o2_ix (dex_ws (i := 0) T.cl_Reader T.n_Reader_words) (dex_at (i := 0) T.cl_Reader T.n_Reader_at)) (dg_tup rfl (dgs_cons (dg_name (i := 1) sc_R_ahead.nd) (dgs_cons (dg_name (i := 2) sc_R_ahead.nd) (dgs_cons (dg_name (i := 3) sc_R_ahead.nd) dgs_nil)))))
  (dbx_one (dsx_pure (ds_ret (de_tup (da_cons (de_var (i := 2)) (da_cons (de_var (i := 3)) da_nil)))))))
theorem ok_R_ahead (T : Tx K mg w) (U : Ts K P mg) : FnOk P w K mg base (L2N.CX P w) 1 T.a_R_ahead T.d_R_ahead ["self"] (spX K mg T.C_Reader sp_R_ahead) :=
  fn_x T.F_R_ahead sc_R_ahead (fun _ _ _ _ _ h => len_R_ahead h) (by decide) (fun x ws xd => W_R_ahead x ws xd) (fun _ _ _ _ _ _ _ _ _ _ hr => db_R_ahead T U hr) hw_R_ahead
theorem db_R_refuse (T : Tx K mg w) (U : Ts K P mg) {cdv : Value} {A : Around} {outer : List Env} {s : Shared} {H : Hp} {s' : Addr} {Ed : Exn → Prop} {E : XK} {R : RdC} {ws : List D} (hr : Room (2) (A.deeper (envOfC "Reader.refuse" (defScope s_R_refuse) s.heap.objs.size T.a_R_refuse cdv))) :
    DBx (cxOf (L2N.CX P w) P w K mg base ["self", "place", "_"] "Reader.refuse" (defScope s_R_refuse) T.a_R_refuse cdv A outer s H E) ⟨s', Ed, E, T.C_Reader, R, ws⟩ (defBody s_R_refuse) (W_R_refuse R.x ws Ed) :=
  (dbx_cons (dsx_asg (dex_ix ix_seq o2_ix (dex_ws (i := 0) T.cl_Reader T.n_Reader_words) (dex_at (i := 0) T.cl_Reader T.n_Reader_at)) (dg_tup rfl (dgs_cons (dg_name (i := 1) sc_R_refuse.nd) (dgs_cons (dg_name (i := 2) sc_R_refuse.nd) (dgs_cons (dg_name (i := 2) sc_R_refuse.nd) dgs_nil)))))
  (dbx_one (dsx_pure (ds_raiseFN U.fx (ok_sup U) (hr.mono (by decide)) U.bi (L2N.takes_of rfl rfl rfl rfl) (de_var (i := 1))))))
theorem ok_R_refuse (T : Tx K mg w) (U : Ts K P mg) : FnOk P w K mg base (L2N.CX P w) 3 T.a_R_refuse T.d_R_refuse ["self"] (spX K mg T.C_Reader sp_R_refuse) :=
  fn_x T.F_R_refuse sc_R_refuse (fun _ _ _ _ _ h => len_R_refuse h) (by decide) (fun x ws xd => W_R_refuse x ws xd) (fun _ _ _ _ _ _ _ _ _ _ hr => db_R_refuse T U hr) hw_R_refuse
theorem db_R_take (T : Tx K mg w) (U : Ts K P mg) {cdv : Value} {A : Around} {outer : List Env} {s : Shared} {H : Hp} {s' : Addr} {Ed : Exn → Prop} {E : XK} {R : RdC} {ws : List D} (hr : Room (1) (A.deeper (envOfC "Reader.take" (defScope s_R_take) s.heap.objs.size T.a_R_take cdv))) :
    DBx (cxOf (L2N.CX P w) P w K mg base ["self", "_", "word"] "Reader.take" (defScope s_R_take) T.a_R_take cdv A outer s H E) ⟨s', Ed, E, T.C_Reader, R, ws⟩ (defBody s_R_take) (W_R_take R.x ws Ed) :=
  (dbx_cons (dsx_asg (dex_meth0 (i := 0) T.cl_Reader T.me_R_ahead (ok_R_ahead T U) (hr.mono (by decide)) T.b_R_ahead (L2N.passes_call (L2N.takes_of rfl rfl rfl rfl) (fun _ _ _ _ h => h))) (dg_tup rfl (dgs_cons (dg_name (i := 1) sc_R_take.nd) (dgs_cons (dg_name (i := 2) sc_R_take.nd) dgs_nil))))
  (dbx_cons (dsx_inc (i := 0) T.cl_Reader T.n_Reader_at)
  (dbx_one (dsx_pure (ds_ret (de_var (i := 2)))))))
theorem ok_R_take (T : Tx K mg w) (U : Ts K P mg) : FnOk P w K mg base (L2N.CX P w) 2 T.a_R_take T.d_R_take ["self"] (spX K mg T.C_Reader sp_R_take) :=
  fn_x T.F_R_take sc_R_take (fun _ _ _ _ _ h => len_R_take h) (by decide) (fun x ws xd => W_R_take x ws xd) (fun _ _ _ _ _ _ _ _ _ _ hr => db_R_take T U hr) hw_R_take
theorem db_R_sees (T : Tx K mg w) (U : Ts K P mg) {cdv : Value} {A : Around} {outer : List Env} {s : Shared} {H : Hp} {s' : Addr} {Ed : Exn → Prop} {E : XK} {R : RdC} {ws : List D} (hr : Room (1) (A.deeper (envOfC "Reader.sees" (defScope s_R_sees) s.heap.objs.size T.a_R_sees cdv))) :
    DBx (cxOf (L2N.CX P w) P w K mg base ["self", "kind", "word"] "Reader.sees" (defScope s_R_sees) T.a_R_sees cdv A outer s H E) ⟨s', Ed, E, T.C_Reader, R, ws⟩ (defBody s_R_sees) (W_R_sees R.x ws Ed) :=
  (dbx_one (dsx_ret (dex_cmp (op_eq_d hr.units) o2_eq (dex_meth0 (i := 0) T.cl_Reader T.me_R_ahead (ok_R_ahead T U) (hr.mono (by decide)) T.b_R_ahead (L2N.passes_call (L2N.takes_of rfl rfl rfl rfl) (fun _ _ _ _ h => h))) (dex_pure (de_tup (da_cons (de_var (i := 1)) (da_cons (de_var (i := 2)) da_nil)))))))
theorem ok_R_sees (T : Tx K mg w) (U : Ts K P mg) : FnOk P w K mg base (L2N.CX P w) 2 T.a_R_sees T.d_R_sees ["self", "kind", "word"] (spX K mg T.C_Reader sp_R_sees) :=
  fn_x T.F_R_sees sc_R_sees (fun _ _ _ _ _ h => len_R_sees h) (by decide) (fun x ws xd => W_R_sees x ws xd) (fun _ _ _ _ _ _ _ _ _ _ hr => db_R_sees T U hr) hw_R_sees
theorem db_R_accept (T : Tx K mg w) (U : Ts K P mg) {cdv : Value} {A : Around} {outer : List Env} {s : Shared} {H : Hp} {s' : Addr} {Ed : Exn → Prop} {E : XK} {R : RdC} {ws : List D} (hr : Room (2) (A.deeper (envOfC "Reader.accept" (defScope s_R_accept) s.heap.objs.size T.a_R_accept cdv))) :
    DBx (cxOf (L2N.CX P w) P w K mg base ["self", "kind", "word"] "Reader.accept" (defScope s_R_accept) T.a_R_accept cdv A outer s H E) ⟨s', Ed, E, T.C_Reader, R, ws⟩ (defBody s_R_accept) (W_R_accept R.x ws Ed) :=
  (dbx_cons (dsx_if (dtx_not (dtx_val (dex_meth (i := 0) T.cl_Reader T.me_R_sees (ok_R_sees T U) (hr.mono (by decide)) T.b_R_sees (L2N.passes_call (L2N.takes_of rfl rfl rfl rfl) (fun _ _ _ _ h => h)) (da_cons (de_var (i := 1)) (da_cons (de_var (i := 2)) da_nil))))) (dbx_one (dsx_pure (ds_ret de_bl))) dbx_nil)
  (dbx_cons (dsx_inc (i := 0) T.cl_Reader T.n_Reader_at)
  (dbx_one (dsx_pure (ds_ret de_bl)))))
theorem ok_R_accept (T : Tx K mg w) (U : Ts K P mg) : FnOk P w K mg base (L2N.CX P w) 3 T.a_R_accept T.d_R_accept ["self", "kind", "word"] (spX K mg T.C_Reader sp_R_accept) :=
  fn_x T.F_R_accept sc_R_accept (fun _ _ _ _ _ h => len_R_accept h) (by decide) (fun x ws xd => W_R_accept x ws xd) (fun _ _ _ _ _ _ _ _ _ _ hr => db_R_accept T U hr) hw_R_accept
theorem db_R_expect (T : Tx K mg w) (U : Ts K P mg) {cdv : Value} {A : Around} {outer : List Env} {s : Shared} {H : Hp} {s' : Addr} {Ed : Exn → Prop} {E : XK} {R : RdC} {ws : List D} (hr : Room (3) (A.deeper (envOfC "Reader.expect" (defScope s_R_expect) s.heap.objs.size T.a_R_expect cdv))) :
    DBx (cxOf (L2N.CX P w) P w K mg base ["self", "kind", "word"] "Reader.expect" (defScope s_R_expect) T.a_R_expect cdv A outer s H E) ⟨s', Ed, E, T.C_Reader, R, ws⟩ (defBody s_R_expect) (W_R_expect R.x ws Ed) :=
  (dbx_one (dsx_if (dtx_not (dtx_val (dex_meth (i := 0) T.cl_Reader T.me_R_accept (ok_R_accept T U) (hr.mono (by decide)) T.b_R_accept (L2N.passes_call (L2N.takes_of rfl rfl rfl rfl) (fun _ _ _ _ h => h)) (da_cons (de_var (i := 1)) (da_cons (de_var (i := 2)) da_nil))))) (dbx_one (dsx_expr (dex_meth0 (i := 0) T.cl_Reader T.me_R_refuse (ok_R_refuse T U) (hr.mono (by decide)) T.b_R_refuse (L2N.passes_call (L2N.takes_of rfl rfl rfl rfl) (fun _ _ _ _ h => h))))) dbx_nil))
theorem ok_R_expect (T : Tx K mg w) (U : Ts K P mg) : FnOk P w K mg base (L2N.CX P w) 4 T.a_R_expect T.d_R_expect ["self", "kind", "word"] (spX K mg T.C_Reader sp_R_expect) :=
  fn_x T.F_R_expect sc_R_expect (fun _ _ _ _ _ h => len_R_expect h) (by decide) (fun x ws xd => W_R_expect x ws xd) (fun _ _ _ _ _ _ _ _ _ _ hr => db_R_expect T U hr) hw_R_expect
theorem db_R_expect_kind (T : Tx K mg w) (U : Ts K P mg) {cdv : Value} {A : Around} {outer : List Env} {s : Shared} {H : Hp} {s' : Addr} {Ed : Exn → Prop} {E : XK} {R : RdC} {ws : List D} (hr : Room (3) (A.deeper (envOfC "Reader.expect_kind" (defScope s_R_expect_kind) s.heap.objs.size T.a_R_expect_kind cdv))) :
    DBx (cxOf (L2N.CX P w) P w K mg base ["self", "kind", "found", "_"] "Reader.expect_kind" (defScope s_R_expect_kind) T.a_R_expect_kind cdv A outer s H E) ⟨s', Ed, E, T.C_Reader, R, ws⟩ (defBody s_R_expect_kind) (W_R_expect_kind R.x ws Ed) :=
  (dbx_cons (dsx_asg (dex_meth0 (i := 0) T.cl_Reader T.me_R_ahead (ok_R_ahead T U) (hr.mono (by decide)) T.b_R_ahead (L2N.passes_call (L2N.takes_of rfl rfl rfl rfl) (fun _ _ _ _ h => h))) (dg_tup rfl (dgs_cons (dg_name (i := 2) sc_R_expect_kind.nd) (dgs_cons (dg_name (i := 3) sc_R_expect_kind.nd) dgs_nil))))
  (dbx_cons (dsx_if (dtx_pure (dt_cmp (op_ne_d hr.units) o2_ne (de_var (i := 2)) (de_var (i := 1)))) (dbx_one (dsx_expr (dex_meth0 (i := 0) T.cl_Reader T.me_R_refuse (ok_R_refuse T U) (hr.mono (by decide)) T.b_R_refuse (L2N.passes_call (L2N.takes_of rfl rfl rfl rfl) (fun _ _ _ _ h => h))))) dbx_nil)
  (dbx_one (dsx_ret (dex_meth0 (i := 0) T.cl_Reader T.me_R_take (ok_R_take T U) (hr.mono (by decide)) T.b_R_take (L2N.passes_call (L2N.takes_of rfl rfl rfl rfl) (fun _ _ _ _ h => h)))))))
theorem ok_R_expect_kind (T : Tx K mg w) (U : Ts K P mg) : FnOk P w K mg base (L2N.CX P w) 4 T.a_R_expect_kind T.d_R_expect_kind ["self", "kind"] (spX K mg T.C_Reader sp_R_expect_kind) :=
  fn_x T.F_R_expect_kind sc_R_expect_kind (fun _ _ _ _ _ h => len_R_expect_kind h) (by decide) (fun x ws xd => W_R_expect_kind x ws xd) (fun _ _ _ _ _ _ _ _ _ _ hr => db_R_expect_kind T U hr) hw_R_expect_kind
theorem db_R_expect_name (T : Tx K mg w) (U : Ts K P mg) {cdv : Value} {A : Around} {outer : List Env} {s : Shared} {H : Hp} {s' : Addr} {Ed : Exn → Prop} {E : XK} {R : RdC} {ws : List D} (hr : Room (4) (A.deeper (envOfC "Reader.expect_name" (defScope s_R_expect_name) s.heap.objs.size T.a_R_expect_name cdv))) :
    DBx (cxOf (L2N.CX P w) P w K mg base ["self"] "Reader.expect_name" (defScope s_R_expect_name) T.a_R_expect_name cdv A outer s H E) ⟨s', Ed, E, T.C_Reader, R, ws⟩ (defBody s_R_expect_name) (W_R_expect_name R.x ws Ed) :=
  (dbx_cons (dsx_if (dtx_val (dex_meth (i := 0) T.cl_Reader T.me_R_sees (ok_R_sees T U) (hr.mono (by decide)) T.b_R_sees (L2N.passes_call (L2N.takes_of rfl rfl rfl rfl) (fun _ _ _ _ h => h)) (da_cons de_str (da_cons (de_glob (v := (.str "_type")) (d := (.str "_type")) T.c_TYPE_FIELD ⟨_, rfl⟩ (fun _ => .str _)) da_nil)))) (dbx_one (dsx_expr (dex_meth0 (i := 0) T.cl_Reader T.me_R_refuse (ok_R_refuse T U) (hr.mono (by decide)) T.b_R_refuse (L2N.passes_call (L2N.takes_of rfl rfl rfl rfl) (fun _ _ _ _ h => h))))) dbx_nil)
  (dbx_one (dsx_ret (dex_meth (i := 0) T.cl_Reader T.me_R_expect_kind (ok_R_expect_kind T U) (hr.mono (by decide)) T.b_R_expect_kind (L2N.passes_call (L2N.takes_of rfl rfl rfl rfl) (fun _ _ _ _ h => h)) (da_cons de_str da_nil)))))
theorem ok_R_expect_name (T : Tx K mg w) (U : Ts K P mg) : FnOk P w K mg base (L2N.CX P w) 5 T.a_R_expect_name T.d_R_expect_name ["self"] (spX K mg T.C_Reader sp_R_expect_name) :=
  fn_x T.F_R_expect_name sc_R_expect_name (fun _ _ _ _ _ h => len_R_expect_name h) (by decide) (fun x ws xd => W_R_expect_name x ws xd) (fun _ _ _ _ _ _ _ _ _ _ hr => db_R_expect_name T U hr) hw_R_expect_name
theorem db_read_constant (T : Tx K mg w) (U : Ts K P mg) {cdv : Value} {A : Around} {outer : List Env} {s : Shared} {H : Hp} {s' : Addr} {Ed : Exn → Prop} {E : XK} {R : RdC} {ws : List D} (hr : Room (3) (A.deeper (envOfC "_read_constant" (defScope s_read_constant) s.heap.objs.size T.a_read_constant cdv))) :
    DBx (cxOf (L2N.CX P w) P w K mg base ["reader", "kind", "word"] "_read_constant" (defScope s_read_constant) T.a_read_constant cdv A outer s H E) ⟨s', Ed, E, T.C_Reader, R, ws⟩ (defBody s_read_constant) (W_read_constant T.tb_NAMED_CONSTANTS R.x ws Ed) :=
  (dbx_cons (dsx_asg (dex_meth0 (i := 0) T.cl_Reader T.me_R_ahead (ok_R_ahead T U) (hr.mono (by decide)) T.b_R_ahead (L2N.passes_call (L2N.takes_of rfl rfl rfl rfl) (fun _ _ _ _ h => h))) (dg_tup rfl (dgs_cons (dg_name (i := 1) sc_read_constant.nd) (dgs_cons (dg_name (i := 2) sc_read_constant.nd) dgs_nil))))
  (dbx_cons (dsx_if (dtx_pure (dt_cmp op_in_seq o2_inT (de_var (i := 1)) (de_tup (da_cons de_str (da_cons de_str da_nil))) rfl)) (dbx_one (dsx_ret (dex_tup (dax_cons (dex_pure (de_var (i := 1))) (dax_cons (dex_meth0 (i := 0) T.cl_Reader T.me_R_take (ok_R_take T U) (hr.mono (by decide)) T.b_R_take (L2N.passes_call (L2N.takes_of rfl rfl rfl rfl) (fun _ _ _ _ h => h))) dax_nil))))) dbx_nil)
  (dbx_cons (dsx_if (dtx_pure (dt_w (dw_or (dt_cmp (op_ne_d hr.units) o2_ne (de_var (i := 1)) de_str) (dw_or1 (dt_cmp (op_notIn_kd T.kd_NAMED_CONSTANTS) (o2_tabNotIn T.kt_NAMED_CONSTANTS) (de_var (i := 2)) (de_globR T.tm_NAMED_CONSTANTS) rfl))))) (dbx_one (dsx_expr (dex_meth0 (i := 0) T.cl_Reader T.me_R_refuse (ok_R_refuse T U) (hr.mono (by decide)) T.b_R_refuse (L2N.passes_call (L2N.takes_of rfl rfl rfl rfl) (fun _ _ _ _ h => h))))) dbx_nil)
  (dbx_one (dsx_ret (dex_ix ix_kdict (o2_tab T.kt_NAMED_CONSTANTS) (dex_pure (de_globR T.tm_NAMED_CONSTANTS)) (dex_meth0 (i := 0) T.cl_Reader T.me_R_take (ok_R_take T U) (hr.mono (by decide)) T.b_R_take (L2N.passes_call (L2N.takes_of rfl rfl rfl rfl) (fun _ _ _ _ h => h)))))))))
theorem ok_read_constant (T : Tx K mg w) (U : Ts K P mg) : FnOk P w K mg base (L2N.CX P w) 4 T.a_read_constant T.d_read_constant ["reader"] (spX K mg T.C_Reader sp_read_constant) :=
  fn_x T.F_read_constant sc_read_constant (fun _ _ _ _ _ h => len_read_constant h) (by decide) (fun x ws xd => W_read_constant T.tb_NAMED_CONSTANTS x ws xd) (fun _ _ _ _ _ _ _ _ _ _ hr => db_read_constant T U hr) (hw_read_constant T.tb_NAMED_CONSTANTS)
theorem db_read_value (T : Tx K mg w) (U : Ts K P mg) {cdv : Value} {A : Around} {outer : List Env} {s : Shared} {H : Hp} {s' : Addr} {Ed : Exn → Prop} {E : XK} {R : RdC} {ws : List D} (hr : Room (4) (A.deeper (envOfC "_read_value" (defScope s_read_value) s.heap.objs.size T.a_read_value cdv))) :
    DBx (cxOf (L2N.CX P w) P w K mg base ["reader", "kind", "_"] "_read_value" (defScope s_read_value) T.a_read_value cdv A outer s H E) ⟨s', Ed, E, T.C_Reader, R, ws⟩ (defBody s_read_value) (W_read_value R.x ws Ed) :=
  (dbx_cons (dsx_asg (dex_meth0 (i := 0) T.cl_Reader T.me_R_ahead (ok_R_ahead T U) (hr.mono (by decide)) T.b_R_ahead (L2N.passes_call (L2N.takes_of rfl rfl rfl rfl) (fun _ _ _ _ h => h))) (dg_tup rfl (dgs_cons (dg_name (i := 1) sc_read_value.nd) (dgs_cons (dg_name (i := 2) sc_read_value.nd) dgs_nil))))
  (dbx_cons (dsx_if (dtx_pure (dt_cmp (op_eq_d hr.units) o2_eq (de_var (i := 1)) de_str)) (dbx_one (dsx_ret (dex_tup (dax_cons (dex_pure de_str) (dax_cons (dex_meth0 (i := 0) T.cl_Reader T.me_R_take (ok_R_take T U) (hr.mono (by decide)) T.b_R_take (L2N.passes_call (L2N.takes_of rfl rfl rfl rfl) (fun _ _ _ _ h => h))) dax_nil))))) dbx_nil)
  (dbx_one (dsx_ret (dex_call (i := 0) (ok_read_constant T U) (hr.mono (by decide)) T.m_read_constant T.F_read_constant.kp T.b_read_constant (L2N.passes_call (L2N.takes_of rfl rfl rfl rfl) (fun _ _ _ _ h => h)) da_nil)))))
theorem ok_read_value (T : Tx K mg w) (U : Ts K P mg) : FnOk P w K mg base (L2N.CX P w) 5 T.a_read_value T.d_read_value ["reader"] (spX K mg T.C_Reader sp_read_value) :=
  fn_x T.F_read_value sc_read_value (fun _ _ _ _ _ h => len_read_value h) (by decide) (fun x ws xd => W_read_value x ws xd) (fun _ _ _ _ _ _ _ _ _ _ hr => db_read_value T U hr) hw_read_value
theorem db_read_condition (T : Tx K mg w) (U : Ts K P mg) {cdv : Value} {A : Around} {outer : List Env} {s : Shared} {H : Hp} {s' : Addr} {Ed : Exn → Prop} {E : XK} {R : RdC} {ws : List D} (hr : Room (5) (A.deeper (envOfC "_read_condition" (defScope s_read_condition) s.heap.objs.size T.a_read_condition cdv))) :
    DBx (cxOf (L2N.CX P w) P w K mg base ["reader", "_", "word", "value"] "_read_condition" (defScope s_read_condition) T.a_read_condition cdv A outer s H E) ⟨s', Ed, E, T.C_Reader, R, ws⟩ (defBody s_read_condition) (W_read_condition R.x ws Ed) :=
  (dbx_cons (dsx_asg (dex_meth0 (i := 0) T.cl_Reader T.me_R_ahead (ok_R_ahead T U) (hr.mono (by decide)) T.b_R_ahead (L2N.passes_call (L2N.takes_of rfl rfl rfl rfl) (fun _ _ _ _ h => h))) (dg_tup rfl (dgs_cons (dg_name (i := 1) sc_read_condition.nd) (dgs_cons (dg_name (i := 2) sc_read_condition.nd) dgs_nil))))
  (dbx_cons (dsx_if (dtx_not (dtx_val (dex_meth (i := 0) T.cl_Reader T.me_R_accept (ok_R_accept T U) (hr.mono (by decide)) T.b_R_accept (L2N.passes_call (L2N.takes_of rfl rfl rfl rfl) (fun _ _ _ _ h => h)) (da_cons de_str (da_cons de_str da_nil))))) (dbx_one (dsx_expr (dex_meth (i := 0) T.cl_Reader T.me_R_expect (ok_R_expect T U) (hr.mono (by decide)) T.b_R_expect (L2N.passes_call (L2N.takes_of rfl rfl rfl rfl) (fun _ _ _ _ h => h)) (da_cons de_str (da_cons de_str da_nil))))) dbx_nil)
  (dbx_cons (dsx_expr (dex_meth (i := 0) T.cl_Reader T.me_R_expect (ok_R_expect T U) (hr.mono (by decide)) T.b_R_expect (L2N.passes_call (L2N.takes_of rfl rfl rfl rfl) (fun _ _ _ _ h => h)) (da_cons de_str (da_cons de_str da_nil))))
  (dbx_cons (dsx_set (i := 3) sc_read_condition.nd (dex_call (i := 0) (ok_read_value T U) (hr.mono (by decide)) T.m_read_value T.F_read_value.kp T.b_read_value (L2N.passes_call (L2N.takes_of rfl rfl rfl rfl) (fun _ _ _ _ h => h)) da_nil))
  (dbx_cons (dsx_expr (dex_meth (i := 0) T.cl_Reader T.me_R_expect (ok_R_expect T U) (hr.mono (by decide)) T.b_R_expect (L2N.passes_call (L2N.takes_of rfl rfl rfl rfl) (fun _ _ _ _ h => h)) (da_cons de_str (da_cons de_str da_nil))))
  (dbx_one (dsx_pure (ds_ret (de_tup (da_cons (de_var (i := 2)) (da_cons (de_var (i := 3)) da_nil)))))))))))
theorem ok_read_condition (T : Tx K mg w) (U : Ts K P mg) : FnOk P w K mg base (L2N.CX P w) 6 T.a_read_condition T.d_read_condition ["reader"] (spX K mg T.C_Reader sp_read_condition) :=
  fn_x T.F_read_condition sc_read_condition (fun _ _ _ _ _ h => len_read_condition h) (by decide) (fun x ws xd => W_read_condition x ws xd) (fun _ _ _ _ _ _ _ _ _ _ hr => db_read_condition T U hr) hw_read_condition
theorem db_read_conditions (T : Tx K mg w) (U : Ts K P mg) {cdv : Value} {A : Around} {outer : List Env} {s : Shared} {H : Hp} {s' : Addr} {Ed : Exn → Prop} {E : XK} {R : RdC} {ws : List D} (hr : Room (6) (A.deeper (envOfC "_read_conditions" (defScope s_read_conditions) s.heap.objs.size T.a_read_conditions cdv))) :
    DBx (cxOf (L2N.CX P w) P w K mg base ["reader", "found"] "_read_conditions" (defScope s_read_conditions) T.a_read_conditions cdv A outer s H E) ⟨s', Ed, E, T.C_Reader, R, ws⟩ (defBody s_read_conditions) (W_read_conditions R.x ws Ed) :=
  (dbx_cons (dsx_pure (ds_newl (i := 1) sc_read_conditions.nd))
  (dbx_cons (dsx_while (passes_of rfl) (dtx_val (dex_meth (i := 0) T.cl_Reader T.me_R_accept (ok_R_accept T U) (hr.mono (by decide)) T.b_R_accept (L2N.passes_call (L2N.takes_of rfl rfl rfl rfl) (fun _ _ _ _ h => h)) (da_cons de_str (da_cons de_str da_nil))))
  (dbx_one (dsx_app (i := 1) (dex_call (i := 0) (ok_read_condition T U) (hr.mono (by decide)) T.m_read_condition T.F_read_condition.kp T.b_read_condition (L2N.passes_call (L2N.takes_of rfl rfl rfl rfl) (fun _ _ _ _ h => h)) da_nil))))
  (dbx_frz (i := 1) (dbx_one (dsx_pure (ds_ret (de_Ctuple T.z_tuple (da_cons (de_var (i := 1)) da_nil))))))))
theorem ok_read_conditions (T : Tx K mg w) (U : Ts K P mg) : FnOk P w K mg base (L2N.CX P w) 7 T.a_read_conditions T.d_read_conditions ["reader"] (spX K mg T.C_Reader sp_read_conditions) :=
  fn_x T.F_read_conditions sc_read_conditions (fun _ _ _ _ _ h => len_read_conditions h) (by decide) (fun x ws xd => W_read_conditions x ws xd) (fun _ _ _ _ _ _ _ _ _ _ hr => db_read_conditions T U hr) hw_read_conditions
theorem db_read_argument (T : Tx K mg w) (U : Ts K P mg) {cdv : Value} {A : Around} {outer : List Env} {s : Shared} {H : Hp} {s' : Addr} {Ed : Exn → Prop} {E : XK} {R : RdC} {ws : List D} (hr : Room (5) (A.deeper (envOfC "_read_argument" (defScope s_read_argument) s.heap.objs.size T.a_read_argument cdv))) :
    DBx (cxOf (L2N.CX P w) P w K mg base ["reader", "name"] "_read_argument" (defScope s_read_argument) T.a_read_argument cdv A outer s H E) ⟨s', Ed, E, T.C_Reader, R, ws⟩ (defBody s_read_argument) (W_read_argument R.x ws Ed) :=
  (dbx_cons (dsx_set (i := 1) sc_read_argument.nd (dex_meth0 (i := 0) T.cl_Reader T.me_R_expect_name (ok_R_expect_name T U) (hr.mono (by decide)) T.b_R_expect_name (L2N.passes_call (L2N.takes_of rfl rfl rfl rfl) (fun _ _ _ _ h => h))))
  (dbx_cons (dsx_expr (dex_meth (i := 0) T.cl_Reader T.me_R_expect (ok_R_expect T U) (hr.mono (by decide)) T.b_R_expect (L2N.passes_call (L2N.takes_of rfl rfl rfl rfl) (fun _ _ _ _ h => h)) (da_cons de_str (da_cons de_str da_nil))))
  (dbx_one (dsx_ret (dex_tup (dax_cons (dex_pure (de_var (i := 1))) (dax_cons (dex_call (i := 0) (ok_read_value T U) (hr.mono (by decide)) T.m_read_value T.F_read_value.kp T.b_read_value (L2N.passes_call (L2N.takes_of rfl rfl rfl rfl) (fun _ _ _ _ h => h)) da_nil) dax_nil)))))))
theorem ok_read_argument (T : Tx K mg w) (U : Ts K P mg) : FnOk P w K mg base (L2N.CX P w) 6 T.a_read_argument T.d_read_argument ["reader"] (spX K mg T.C_Reader sp_read_argument) :=
  fn_x T.F_read_argument sc_read_argument (fun _ _ _ _ _ h => len_read_argument h) (by decide) (fun x ws xd => W_read_argument x ws xd) (fun _ _ _ _ _ _ _ _ _ _ hr => db_read_argument T U hr) hw_read_argument
theorem db_read_arguments (T : Tx K mg w) (U : Ts K P mg) {cdv : Value} {A : Around} {outer : List Env} {s : Shared} {H : Hp} {s' : Addr} {Ed : Exn → Prop} {E : XK} {R : RdC} {ws : List D} (hr : Room (6) (A.deeper (envOfC "_read_arguments" (defScope s_read_arguments) s.heap.objs.size T.a_read_arguments cdv))) :
    DBx (cxOf (L2N.CX P w) P w K mg base ["reader", "found"] "_read_arguments" (defScope s_read_arguments) T.a_read_arguments cdv A outer s H E) ⟨s', Ed, E, T.C_Reader, R, ws⟩ (defBody s_read_arguments) (W_read_arguments R.x ws Ed) :=
  (dbx_cons (dsx_if (dtx_not (dtx_val (dex_meth (i := 0) T.cl_Reader T.me_R_accept (ok_R_accept T U) (hr.mono (by decide)) T.b_R_accept (L2N.passes_call (L2N.takes_of rfl rfl rfl rfl) (fun _ _ _ _ h => h)) (da_cons de_str (da_cons de_str da_nil))))) (dbx_one (dsx_pure (ds_ret (de_tup da_nil)))) dbx_nil)
  (dbx_cons (dsx_newl1 (i := 1) sc_read_arguments.nd (dex_call (i := 0) (ok_read_argument T U) (hr.mono (by decide)) T.m_read_argument T.F_read_argument.kp T.b_read_argument (L2N.passes_call (L2N.takes_of rfl rfl rfl rfl) (fun _ _ _ _ h => h)) da_nil))
  (dbx_cons (dsx_while (passes_of rfl) (dtx_not (dtx_val (dex_meth (i := 0) T.cl_Reader T.me_R_accept (ok_R_accept T U) (hr.mono (by decide)) T.b_R_accept (L2N.passes_call (L2N.takes_of rfl rfl rfl rfl) (fun _ _ _ _ h => h)) (da_cons de_str (da_cons de_str da_nil)))))
  (dbx_one (dsx_app (i := 1) (dex_call (i := 0) (ok_read_argument T U) (hr.mono (by decide)) T.m_read_argument T.F_read_argument.kp T.b_read_argument (L2N.passes_call (L2N.takes_of rfl rfl rfl rfl) (fun _ _ _ _ h => h)) da_nil))))
  (dbx_frz (i := 1) (dbx_one (dsx_pure (ds_ret (de_Ctuple T.z_tuple (da_cons (de_var (i := 1)) da_nil)))))))))
theorem ok_read_arguments (T : Tx K mg w) (U : Ts K P mg) : FnOk P w K mg base (L2N.CX P w) 7 T.a_read_arguments T.d_read_arguments ["reader"] (spX K mg T.C_Reader sp_read_arguments) :=
  fn_x T.F_read_arguments sc_read_arguments (fun _ _ _ _ _ h => len_read_arguments h) (by decide) (fun x ws xd => W_read_arguments x ws xd) (fun _ _ _ _ _ _ _ _ _ _ hr => db_read_arguments T U hr) hw_read_arguments
theorem db_read_kind (T : Tx K mg w) (U : Ts K P mg) {m : Nat} (G_read_bare_kind : FnOk P w K mg base (L2N.CX P w) (2 * m + 7) T.a_read_bare_kind T.d_read_bare_kind ["reader", "depth"] (spX K mg T.C_Reader (sp_read_bare_kind m))) {cdv : Value} {A : Around} {outer : List Env} {s : Shared} {H : Hp} {s' : Addr} {Ed : Exn → Prop} {E : XK} {R : RdC} {ws : List D} (hr : Room (2 * m + 7) (A.deeper (envOfC "_read_kind" (defScope s_read_kind) s.heap.objs.size T.a_read_kind cdv))) :
    DBx (cxOf (L2N.CX P w) P w K mg base ["reader", "depth", "bare"] "_read_kind" (defScope s_read_kind) T.a_read_kind cdv A outer s H E) ⟨s', Ed, E, T.C_Reader, R, ws⟩ (defBody s_read_kind) (W_read_kind m R.x ws Ed) :=
  (dbx_cons (dsx_set (i := 2) sc_read_kind.nd (dex_call (i := 0) G_read_bare_kind hr T.m_read_bare_kind T.F_read_bare_kind.kp T.b_read_bare_kind (L2N.passes_call (L2N.takes_of rfl rfl rfl rfl) (fun _ _ _ _ h => h)) (da_cons (de_var (i := 1)) da_nil)))
  (dbx_cons (dsx_if (dtx_val (dex_meth (i := 0) T.cl_Reader T.me_R_accept (ok_R_accept T U) (hr.mono (by omega)) T.b_R_accept (L2N.passes_call (L2N.takes_of rfl rfl rfl rfl) (fun _ _ _ _ h => h)) (da_cons de_str (da_cons de_str da_nil)))) (dbx_one (dsx_pure (ds_ret (de_tup (da_cons de_str (da_cons (de_var (i := 2)) da_nil)))))) dbx_nil)
  (dbx_one (dsx_pure (ds_ret (de_var (i := 2)))))))
theorem db_read_bare_kind (T : Tx K mg w) (U : Ts K P mg) {m : Nat} (G_read_kind : FnOk P w K mg base (L2N.CX P w) (2 * m + 6) T.a_read_kind T.d_read_kind ["reader", "depth"] (spX K mg T.C_Reader (sp_read_kind m))) {cdv : Value} {A : Around} {outer : List Env} {s : Shared} {H : Hp} {s' : Addr} {Ed : Exn → Prop} {E : XK} {R : RdC} {ws : List D} (hr : Room (2 * m + 6) (A.deeper (envOfC "_read_bare_kind" (defScope s_read_bare_kind) s.heap.objs.size T.a_read_bare_kind cdv))) :
    DBx (cxOf (L2N.CX P w) P w K mg base ["reader", "depth", "inner"] "_read_bare_kind" (defScope s_read_bare_kind) T.a_read_bare_kind cdv A outer s H E) ⟨s', Ed, E, T.C_Reader, R, ws⟩ (defBody s_read_bare_kind) (W_read_bare_kind m R.x ws Ed) :=
  (dbx_cons (dsx_if (dtx_w (dwx_and (dtx_pure (dt_cmp op_lt o2_lt (de_var (i := 1)) (de_glob (v := (.int (5))) (d := (.int (5))) T.c_DEEPEST_LIST ⟨_, rfl⟩ (fun _ => .int _)))) (dwx_and1 (dtx_val (dex_meth (i := 0) T.cl_Reader T.me_R_accept (ok_R_accept T U) (hr.mono (by omega)) T.b_R_accept (L2N.passes_call (L2N.takes_of rfl rfl rfl rfl) (fun _ _ _ _ h => h)) (da_cons de_str (da_cons de_str da_nil))))))) (dbx_cons (dsx_set (i := 2) sc_read_bare_kind.nd (dex_call (i := 0) G_read_kind hr T.m_read_kind T.F_read_kind.kp T.b_read_kind (L2N.passes_call (L2N.takes_of rfl rfl rfl rfl) (fun _ _ _ _ h => h)) (da_cons (de_plus (de_var (i := 1)) de_int) da_nil)))
  (dbx_cons (dsx_expr (dex_meth (i := 0) T.cl_Reader T.me_R_expect (ok_R_expect T U) (hr.mono (by omega)) T.b_R_expect (L2N.passes_call (L2N.takes_of rfl rfl rfl rfl) (fun _ _ _ _ h => h)) (da_cons de_str (da_cons de_str da_nil))))
  (dbx_one (dsx_pure (ds_ret (de_tup (da_cons de_str (da_cons (de_var (i := 2)) da_nil)))))))) dbx_nil)
  (dbx_one (dsx_ret (dex_tup (dax_cons (dex_pure de_str) (dax_cons (dex_meth0 (i := 0) T.cl_Reader T.me_R_expect_name (ok_R_expect_name T U) (hr.mono (by omega)) T.b_R_expect_name (L2N.passes_call (L2N.takes_of rfl rfl rfl rfl) (fun _ _ _ _ h => h))) dax_nil))))))
theorem rec_kind (T : Tx K mg w) (U : Ts K P mg) : ∀ m : Nat, (FnOk P w K mg base (L2N.CX P w) (2 * m + 6) T.a_read_kind T.d_read_kind ["reader", "depth"] (spX K mg T.C_Reader (sp_read_kind m))) ∧ FnOk P w K mg base (L2N.CX P w) (2 * m + 7) T.a_read_bare_kind T.d_read_bare_kind ["reader", "depth"] (spX K mg T.C_Reader (sp_read_bare_kind m))
  | 0 => by
    have g0 : FnOk P w K mg base (L2N.CX P w) (2 * 0 + 6) T.a_read_kind T.d_read_kind ["reader", "depth"] (spX K mg T.C_Reader (sp_read_kind 0)) := none_leftX fun _ _ _ _ _ h => h
    exact ⟨g0, fn_x T.F_read_bare_kind sc_read_bare_kind (fun _ _ _ _ _ h => len_read_bare_kind h) (by decide) (fun x ws xd => W_read_bare_kind 0 x ws xd) (fun _ _ _ _ _ _ _ _ _ _ hr => db_read_bare_kind T U g0 hr) hw_read_bare_kind⟩
  | m + 1 => by
    have ih := rec_kind T U m
    have g1 : FnOk P w K mg base (L2N.CX P w) (2 * (m + 1) + 6) T.a_read_kind T.d_read_kind ["reader", "depth"] (spX K mg T.C_Reader (sp_read_kind (m + 1))) := fn_x T.F_read_kind sc_read_kind (fun _ _ _ _ _ h => len_read_kind h) (by decide) (fun x ws xd => W_read_kind m x ws xd) (fun _ _ _ _ _ _ _ _ _ _ hr => db_read_kind T U ih.2 hr) hw_read_kind
    exact ⟨g1, fn_x T.F_read_bare_kind sc_read_bare_kind (fun _ _ _ _ _ h => len_read_bare_kind h) (by decide) (fun x ws xd => W_read_bare_kind (m + 1) x ws xd) (fun _ _ _ _ _ _ _ _ _ _ hr => db_read_bare_kind T U g1 hr) hw_read_bare_kind⟩
theorem ok_read_kind (T : Tx K mg w) (U : Ts K P mg) (m : Nat) : FnOk P w K mg base (L2N.CX P w) (2 * m + 6) T.a_read_kind T.d_read_kind ["reader", "depth"] (spX K mg T.C_Reader (sp_read_kind m)) := (rec_kind T U m).1
theorem db_read_declaration (T : Tx K mg w) (U : Ts K P mg) {cdv : Value} {A : Around} {outer : List Env} {s : Shared} {H : Hp} {s' : Addr} {Ed : Exn → Prop} {E : XK} {R : RdC} {ws : List D} (hr : Room (18) (A.deeper (envOfC "_read_declaration" (defScope s_read_declaration) s.heap.objs.size T.a_read_declaration cdv))) :
    DBx (cxOf (L2N.CX P w) P w K mg base ["reader", "name", "kind", "default"] "_read_declaration" (defScope s_read_declaration) T.a_read_declaration cdv A outer s H E) ⟨s', Ed, E, T.C_Reader, R, ws⟩ (defBody s_read_declaration) (W_read_declaration R.x ws Ed) :=
  (dbx_cons (dsx_set (i := 1) sc_read_declaration.nd (dex_meth (i := 0) T.cl_Reader T.me_R_expect_kind (ok_R_expect_kind T U) (hr.mono (by decide)) T.b_R_expect_kind (L2N.passes_call (L2N.takes_of rfl rfl rfl rfl) (fun _ _ _ _ h => h)) (da_cons de_str da_nil)))
  (dbx_cons (dsx_expr (dex_meth (i := 0) T.cl_Reader T.me_R_expect (ok_R_expect T U) (hr.mono (by decide)) T.b_R_expect (L2N.passes_call (L2N.takes_of rfl rfl rfl rfl) (fun _ _ _ _ h => h)) (da_cons de_str (da_cons de_str da_nil))))
  (dbx_cons (dsx_set (i := 2) sc_read_declaration.nd (dex_call (i := 0) (ok_read_kind T U 6) (hr.mono (by decide)) T.m_read_kind T.F_read_kind.kp T.b_read_kind (L2N.passes_call (L2N.takes_of rfl rfl rfl rfl) (fun _ _ _ _ h => h)) (da_cons de_int da_nil)))
  (dbx_cons (dsx_pure (ds_set (i := 3) sc_read_declaration.nd de_non))
  (dbx_cons (dsx_if (dtx_val (dex_meth (i := 0) T.cl_Reader T.me_R_accept (ok_R_accept T U) (hr.mono (by decide)) T.b_R_accept (L2N.passes_call (L2N.takes_of rfl rfl rfl rfl) (fun _ _ _ _ h => h)) (da_cons de_str (da_cons de_str da_nil)))) (dbx_one (dsx_set (i := 3) sc_read_declaration.nd (dex_call (i := 0) (ok_read_constant T U) (hr.mono (by decide)) T.m_read_constant T.F_read_constant.kp T.b_read_constant (L2N.passes_call (L2N.takes_of rfl rfl rfl rfl) (fun _ _ _ _ h => h)) da_nil))) dbx_nil)
  (dbx_one (dsx_pure (ds_ret (de_tup (da_cons (de_var (i := 1)) (da_cons (de_var (i := 2)) (da_cons (de_var (i := 3)) da_nil))))))))))))
theorem ok_read_declaration (T : Tx K mg w) (U : Ts K P mg) : FnOk P w K mg base (L2N.CX P w) 19 T.a_read_declaration T.d_read_declaration ["reader"] (spX K mg T.C_Reader sp_read_declaration) :=
  fn_x T.F_read_declaration sc_read_declaration (fun _ _ _ _ _ h => len_read_declaration h) (by decide) (fun x ws xd => W_read_declaration x ws xd) (fun _ _ _ _ _ _ _ _ _ _ hr => db_read_declaration T U hr) hw_read_declaration
theorem db_read_declarations (T : Tx K mg w) (U : Ts K P mg) {cdv : Value} {A : Around} {outer : List Env} {s : Shared} {H : Hp} {s' : Addr} {Ed : Exn → Prop} {E : XK} {R : RdC} {ws : List D} (hr : Room (19) (A.deeper (envOfC "_read_declarations" (defScope s_read_declarations) s.heap.objs.size T.a_read_declarations cdv))) :
    DBx (cxOf (L2N.CX P w) P w K mg base ["reader", "found"] "_read_declarations" (defScope s_read_declarations) T.a_read_declarations cdv A outer s H E) ⟨s', Ed, E, T.C_Reader, R, ws⟩ (defBody s_read_declarations) (W_read_declarations R.x ws Ed) :=
  (dbx_cons (dsx_if (dtx_not (dtx_val (dex_meth (i := 0) T.cl_Reader T.me_R_accept (ok_R_accept T U) (hr.mono (by decide)) T.b_R_accept (L2N.passes_call (L2N.takes_of rfl rfl rfl rfl) (fun _ _ _ _ h => h)) (da_cons de_str (da_cons de_str da_nil))))) (dbx_one (dsx_pure (ds_ret (de_tup da_nil)))) dbx_nil)
  (dbx_cons (dsx_newl1 (i := 1) sc_read_declarations.nd (dex_call (i := 0) (ok_read_declaration T U) (hr.mono (by decide)) T.m_read_declaration T.F_read_declaration.kp T.b_read_declaration (L2N.passes_call (L2N.takes_of rfl rfl rfl rfl) (fun _ _ _ _ h => h)) da_nil))
  (dbx_cons (dsx_while (passes_of rfl) (dtx_not (dtx_val (dex_meth (i := 0) T.cl_Reader T.me_R_accept (ok_R_accept T U) (hr.mono (by decide)) T.b_R_accept (L2N.passes_call (L2N.takes_of rfl rfl rfl rfl) (fun _ _ _ _ h => h)) (da_cons de_str (da_cons de_str da_nil)))))
  (dbx_one (dsx_app (i := 1) (dex_call (i := 0) (ok_read_declaration T U) (hr.mono (by decide)) T.m_read_declaration T.F_read_declaration.kp T.b_read_declaration (L2N.passes_call (L2N.takes_of rfl rfl rfl rfl) (fun _ _ _ _ h => h)) da_nil))))
  (dbx_frz (i := 1) (dbx_one (dsx_pure (ds_ret (de_Ctuple T.z_tuple (da_cons (de_var (i := 1)) da_nil)))))))))
theorem ok_read_declarations (T : Tx K mg w) (U : Ts K P mg) : FnOk P w K mg base (L2N.CX P w) 20 T.a_read_declarations T.d_read_declarations ["reader"] (spX K mg T.C_Reader sp_read_declarations) :=
  fn_x T.F_read_declarations sc_read_declarations (fun _ _ _ _ _ h => len_read_declarations h) (by decide) (fun x ws xd => W_read_declarations x ws xd) (fun _ _ _ _ _ _ _ _ _ _ hr => db_read_declarations T U hr) hw_read_declarations
theorem db_read_field (T : Tx K mg w) (U : Ts K P mg) {m : Nat} (G_read_selection : FnOk P w K mg base (L2N.CX P w) (4 * m + 10) T.a_read_selection T.d_read_selection ["reader", "depth"] (spX K mg T.C_Reader (sp_read_selection m))) {cdv : Value} {A : Around} {outer : List Env} {s : Shared} {H : Hp} {s' : Addr} {Ed : Exn → Prop} {E : XK} {R : RdC} {ws : List D} (hr : Room (4 * m + 10) (A.deeper (envOfC "_read_field" (defScope s_read_field) s.heap.objs.size T.a_read_field cdv))) :
    DBx (cxOf (L2N.CX P w) P w K mg base ["reader", "depth", "key", "name", "arguments", "conditions", "selection"] "_read_field" (defScope s_read_field) T.a_read_field cdv A outer s H E) ⟨s', Ed, E, T.C_Reader, R, ws⟩ (defBody s_read_field) (W_read_field m R.x ws Ed) :=
  (dbx_cons (dsx_set (i := 2) sc_read_field.nd (dex_meth (i := 0) T.cl_Reader T.me_R_expect_kind (ok_R_expect_kind T U) (hr.mono (by omega)) T.b_R_expect_kind (L2N.passes_call (L2N.takes_of rfl rfl rfl rfl) (fun _ _ _ _ h => h)) (da_cons de_str da_nil)))
  (dbx_cons (dsx_pure (ds_set (i := 3) sc_read_field.nd (de_var (i := 2))))
  (dbx_cons (dsx_if (dtx_w (dwx_and (dtx_pure (dt_cmp (op_ne_d hr.units) o2_ne (de_var (i := 2)) (de_glob (v := (.str "_type")) (d := (.str "_type")) T.c_TYPE_FIELD ⟨_, rfl⟩ (fun _ => .str _)))) (dwx_and1 (dtx_val (dex_meth (i := 0) T.cl_Reader T.me_R_accept (ok_R_accept T U) (hr.mono (by omega)) T.b_R_accept (L2N.passes_call (L2N.takes_of rfl rfl rfl rfl) (fun _ _ _ _ h => h)) (da_cons de_str (da_cons de_str da_nil))))))) (dbx_one (dsx_set (i := 3) sc_read_field.nd (dex_meth (i := 0) T.cl_Reader T.me_R_expect_kind (ok_R_expect_kind T U) (hr.mono (by omega)) T.b_R_expect_kind (L2N.passes_call (L2N.takes_of rfl rfl rfl rfl) (fun _ _ _ _ h => h)) (da_cons de_str da_nil)))) dbx_nil)
  (dbx_cons (dsx_set (i := 4) sc_read_field.nd (dex_call (i := 0) (ok_read_arguments T U) (hr.mono (by omega)) T.m_read_arguments T.F_read_arguments.kp T.b_read_arguments (L2N.passes_call (L2N.takes_of rfl rfl rfl rfl) (fun _ _ _ _ h => h)) da_nil))
  (dbx_cons (dsx_set (i := 5) sc_read_field.nd (dex_call (i := 0) (ok_read_conditions T U) (hr.mono (by omega)) T.m_read_conditions T.F_read_conditions.kp T.b_read_conditions (L2N.passes_call (L2N.takes_of rfl rfl rfl rfl) (fun _ _ _ _ h => h)) da_nil))
  (dbx_cons (dsx_pure (ds_set (i := 6) sc_read_field.nd de_non))
  (dbx_cons (dsx_if (dtx_val (dex_meth (i := 0) T.cl_Reader T.me_R_sees (ok_R_sees T U) (hr.mono (by omega)) T.b_R_sees (L2N.passes_call (L2N.takes_of rfl rfl rfl rfl) (fun _ _ _ _ h => h)) (da_cons de_str (da_cons de_str da_nil)))) (dbx_one (dsx_set (i := 6) sc_read_field.nd (dex_call (i := 0) G_read_selection hr T.m_read_selection T.F_read_selection.kp T.b_read_selection (L2N.passes_call (L2N.takes_of rfl rfl rfl rfl) (fun _ _ _ _ h => h)) (da_cons (de_plus (de_var (i := 1)) de_int) da_nil)))) dbx_nil)
  (dbx_one (dsx_pure (ds_ret (de_tup (da_cons de_str (da_cons (de_var (i := 2)) (da_cons (de_var (i := 3)) (da_cons (de_var (i := 4)) (da_cons (de_var (i := 5)) (da_cons (de_var (i := 6)) da_nil)))))))))))))))))
theorem db_read_spread (T : Tx K mg w) (U : Ts K P mg) {m : Nat} (G_read_selection : FnOk P w K mg base (L2N.CX P w) (4 * m + 10) T.a_read_selection T.d_read_selection ["reader", "depth"] (spX K mg T.C_Reader (sp_read_selection m))) {cdv : Value} {A : Around} {outer : List Env} {s : Shared} {H : Hp} {s' : Addr} {Ed : Exn → Prop} {E : XK} {R : RdC} {ws : List D} (hr : Room (4 * m + 10) (A.deeper (envOfC "_read_spread" (defScope s_read_spread) s.heap.objs.size T.a_read_spread cdv))) :
    DBx (cxOf (L2N.CX P w) P w K mg base ["reader", "depth", "type_name", "name", "conditions"] "_read_spread" (defScope s_read_spread) T.a_read_spread cdv A outer s H E) ⟨s', Ed, E, T.C_Reader, R, ws⟩ (defBody s_read_spread) (W_read_spread m R.x ws Ed) :=
  (dbx_cons (dsx_pure (ds_set (i := 2) sc_read_spread.nd de_non))
  (dbx_cons (dsx_if (dtx_val (dex_meth (i := 0) T.cl_Reader T.me_R_accept (ok_R_accept T U) (hr.mono (by omega)) T.b_R_accept (L2N.passes_call (L2N.takes_of rfl rfl rfl rfl) (fun _ _ _ _ h => h)) (da_cons de_str (da_cons de_str da_nil)))) (dbx_one (dsx_set (i := 2) sc_read_spread.nd (dex_meth0 (i := 0) T.cl_Reader T.me_R_expect_name (ok_R_expect_name T U) (hr.mono (by omega)) T.b_R_expect_name (L2N.passes_call (L2N.takes_of rfl rfl rfl rfl) (fun _ _ _ _ h => h))))) (dbx_one (dsx_if (dtx_cmp (op_eq_d hr.units) o2_eq (dex_ix ix_seq o2_ix (dex_meth0 (i := 0) T.cl_Reader T.me_R_ahead (ok_R_ahead T U) (hr.mono (by omega)) T.b_R_ahead (L2N.passes_call (L2N.takes_of rfl rfl rfl rfl) (fun _ _ _ _ h => h))) (dex_pure de_int)) (dex_pure de_str)) (dbx_cons (dsx_set (i := 3) sc_read_spread.nd (dex_meth0 (i := 0) T.cl_Reader T.me_R_expect_name (ok_R_expect_name T U) (hr.mono (by omega)) T.b_R_expect_name (L2N.passes_call (L2N.takes_of rfl rfl rfl rfl) (fun _ _ _ _ h => h))))
  (dbx_one (dsx_ret (dex_tup (dax_cons (dex_pure de_str) (dax_cons (dex_pure (de_var (i := 3))) (dax_cons (dex_call (i := 0) (ok_read_conditions T U) (hr.mono (by omega)) T.m_read_conditions T.F_read_conditions.kp T.b_read_conditions (L2N.passes_call (L2N.takes_of rfl rfl rfl rfl) (fun _ _ _ _ h => h)) da_nil) dax_nil))))))) dbx_nil)))
  (dbx_cons (dsx_set (i := 4) sc_read_spread.nd (dex_call (i := 0) (ok_read_conditions T U) (hr.mono (by omega)) T.m_read_conditions T.F_read_conditions.kp T.b_read_conditions (L2N.passes_call (L2N.takes_of rfl rfl rfl rfl) (fun _ _ _ _ h => h)) da_nil))
  (dbx_one (dsx_ret (dex_tup (dax_cons (dex_pure de_str) (dax_cons (dex_pure (de_var (i := 2))) (dax_cons (dex_pure (de_var (i := 4))) (dax_cons (dex_call (i := 0) G_read_selection hr T.m_read_selection T.F_read_selection.kp T.b_read_selection (L2N.passes_call (L2N.takes_of rfl rfl rfl rfl) (fun _ _ _ _ h => h)) (da_cons (de_plus (de_var (i := 1)) de_int) da_nil)) dax_nil))))))))))
theorem db_read_part (T : Tx K mg w) (U : Ts K P mg) {m : Nat} (G_read_field : FnOk P w K mg base (L2N.CX P w) (4 * m + 11) T.a_read_field T.d_read_field ["reader", "depth"] (spX K mg T.C_Reader (sp_read_field (m + 1)))) (G_read_spread : FnOk P w K mg base (L2N.CX P w) (4 * m + 11) T.a_read_spread T.d_read_spread ["reader", "depth"] (spX K mg T.C_Reader (sp_read_spread (m + 1)))) {cdv : Value} {A : Around} {outer : List Env} {s : Shared} {H : Hp} {s' : Addr} {Ed : Exn → Prop} {E : XK} {R : RdC} {ws : List D} (hr : Room (4 * m + 11) (A.deeper (envOfC "_read_part" (defScope s_read_part) s.heap.objs.size T.a_read_part cdv))) :
    DBx (cxOf (L2N.CX P w) P w K mg base ["reader", "depth"] "_read_part" (defScope s_read_part) T.a_read_part cdv A outer s H E) ⟨s', Ed, E, T.C_Reader, R, ws⟩ (defBody s_read_part) (W_read_part m R.x ws Ed) :=
  (dbx_cons (dsx_if (dtx_val (dex_meth (i := 0) T.cl_Reader T.me_R_accept (ok_R_accept T U) (hr.mono (by omega)) T.b_R_accept (L2N.passes_call (L2N.takes_of rfl rfl rfl rfl) (fun _ _ _ _ h => h)) (da_cons de_str (da_cons (de_glob (v := (.str "...")) (d := (.str "...")) T.c_DOTS ⟨_, rfl⟩ (fun _ => .str _)) da_nil)))) (dbx_one (dsx_ret (dex_call (i := 0) G_read_spread hr T.m_read_spread T.F_read_spread.kp T.b_read_spread (L2N.passes_call (L2N.takes_of rfl rfl rfl rfl) (fun _ _ _ _ h => h)) (da_cons (de_var (i := 1)) da_nil)))) dbx_nil)
  (dbx_one (dsx_ret (dex_call (i := 0) G_read_field hr T.m_read_field T.F_read_field.kp T.b_read_field (L2N.passes_call (L2N.takes_of rfl rfl rfl rfl) (fun _ _ _ _ h => h)) (da_cons (de_var (i := 1)) da_nil)))))
theorem db_read_selection (T : Tx K mg w) (U : Ts K P mg) {m : Nat} (G_read_part : FnOk P w K mg base (L2N.CX P w) (4 * m + 8) T.a_read_part T.d_read_part ["reader", "depth"] (spX K mg T.C_Reader (sp_read_part m))) {cdv : Value} {A : Around} {outer : List Env} {s : Shared} {H : Hp} {s' : Addr} {Ed : Exn → Prop} {E : XK} {R : RdC} {ws : List D} (hr : Room (4 * m + 8) (A.deeper (envOfC "_read_selection" (defScope s_read_selection) s.heap.objs.size T.a_read_selection cdv))) :
    DBx (cxOf (L2N.CX P w) P w K mg base ["reader", "depth", "parts"] "_read_selection" (defScope s_read_selection) T.a_read_selection cdv A outer s H E) ⟨s', Ed, E, T.C_Reader, R, ws⟩ (defBody s_read_selection) (W_read_selection m R.x ws Ed) :=
  (dbx_cons (dsx_if (dtx_pure (dt_cmp op_gt o2_gt (de_var (i := 1)) (de_glob (v := (.int (10))) (d := (.int (10))) T.c_DEEPEST_SELECTION ⟨_, rfl⟩ (fun _ => .int _)))) (dbx_one (dsx_expr (dex_meth0 (i := 0) T.cl_Reader T.me_R_refuse (ok_R_refuse T U) (hr.mono (by omega)) T.b_R_refuse (L2N.passes_call (L2N.takes_of rfl rfl rfl rfl) (fun _ _ _ _ h => h))))) dbx_nil)
  (dbx_cons (dsx_expr (dex_meth (i := 0) T.cl_Reader T.me_R_expect (ok_R_expect T U) (hr.mono (by omega)) T.b_R_expect (L2N.passes_call (L2N.takes_of rfl rfl rfl rfl) (fun _ _ _ _ h => h)) (da_cons de_str (da_cons de_str da_nil))))
  (dbx_cons (dsx_newl1 (i := 2) sc_read_selection.nd (dex_call (i := 0) G_read_part hr T.m_read_part T.F_read_part.kp T.b_read_part (L2N.passes_call (L2N.takes_of rfl rfl rfl rfl) (fun _ _ _ _ h => h)) (da_cons (de_var (i := 1)) da_nil)))
  (dbx_cons (dsx_while (passes_of rfl) (dtx_not (dtx_val (dex_meth (i := 0) T.cl_Reader T.me_R_accept (ok_R_accept T U) (hr.mono (by omega)) T.b_R_accept (L2N.passes_call (L2N.takes_of rfl rfl rfl rfl) (fun _ _ _ _ h => h)) (da_cons de_str (da_cons de_str da_nil)))))
  (dbx_one (dsx_app (i := 2) (dex_call (i := 0) G_read_part hr T.m_read_part T.F_read_part.kp T.b_read_part (L2N.passes_call (L2N.takes_of rfl rfl rfl rfl) (fun _ _ _ _ h => h)) (da_cons (de_var (i := 1)) da_nil)))))
  (dbx_frz (i := 2) (dbx_one (dsx_pure (ds_ret (de_Ctuple T.z_tuple (da_cons (de_var (i := 2)) da_nil))))))))))
theorem rec_sel (T : Tx K mg w) (U : Ts K P mg) : ∀ m : Nat, m ≤ 10 → FnOk P w K mg base (L2N.CX P w) (4 * m + 9) T.a_read_selection T.d_read_selection ["reader", "depth"] (spX K mg T.C_Reader (sp_read_selection m))
  | 0, _ => fn_x T.F_read_selection sc_read_selection (fun _ _ _ _ _ h => len_read_selection h) (by decide) (fun x ws xd => W_read_selection 0 x ws xd) (fun _ _ _ _ _ _ _ _ _ _ hr => db_read_selection T U (none_leftX (sp := sp_read_part 0) fun _ _ _ _ _ h => h) hr) hw_read_selection
  | m + 1, hm => by
    have ih := rec_sel T U m (by omega)
    have gf : FnOk P w K mg base (L2N.CX P w) (4 * m + 11) T.a_read_field T.d_read_field ["reader", "depth"] (spX K mg T.C_Reader (sp_read_field (m + 1))) := fn_x T.F_read_field sc_read_field (fun _ _ _ _ _ h => len_read_field h) (by decide) (fun x ws xd => W_read_field m x ws xd) (fun _ _ _ _ _ _ _ _ _ _ hr => db_read_field T U (ih.mono (by omega)) hr) (hw_read_field (show m ≤ 10 by omega))
    have gs : FnOk P w K mg base (L2N.CX P w) (4 * m + 11) T.a_read_spread T.d_read_spread ["reader", "depth"] (spX K mg T.C_Reader (sp_read_spread (m + 1))) := fn_x T.F_read_spread sc_read_spread (fun _ _ _ _ _ h => len_read_spread h) (by decide) (fun x ws xd => W_read_spread m x ws xd) (fun _ _ _ _ _ _ _ _ _ _ hr => db_read_spread T U (ih.mono (by omega)) hr) (hw_read_spread (show m ≤ 10 by omega))
    have gp : FnOk P w K mg base (L2N.CX P w) (4 * (m + 1) + 8) T.a_read_part T.d_read_part ["reader", "depth"] (spX K mg T.C_Reader (sp_read_part (m + 1))) := fn_x T.F_read_part sc_read_part (fun _ _ _ _ _ h => len_read_part h) (by decide) (fun x ws xd => W_read_part m x ws xd) (fun _ _ _ _ _ _ _ _ _ _ hr => db_read_part T U gf gs hr) hw_read_part
    exact fn_x T.F_read_selection sc_read_selection (fun _ _ _ _ _ h => len_read_selection h) (by decide) (fun x ws xd => W_read_selection (m + 1) x ws xd) (fun _ _ _ _ _ _ _ _ _ _ hr => db_read_selection T U gp hr) hw_read_selection
theorem ok_read_selection (T : Tx K mg w) (U : Ts K P mg) (m : Nat) (hm : m ≤ 10 := by decide) : FnOk P w K mg base (L2N.CX P w) (4 * m + 9) T.a_read_selection T.d_read_selection ["reader", "depth"] (spX K mg T.C_Reader (sp_read_selection m)) := rec_sel T U m hm
theorem db_read_fragment (T : Tx K mg w) (U : Ts K P mg) {cdv : Value} {A : Around} {outer : List Env} {s : Shared} {H : Hp} {s' : Addr} {Ed : Exn → Prop} {E : XK} {R : RdC} {ws : List D} (hr : Room (49) (A.deeper (envOfC "_read_fragment" (defScope s_read_fragment) s.heap.objs.size T.a_read_fragment cdv))) :
    DBx (cxOf (L2N.CX P w) P w K mg base ["reader", "name", "type_name"] "_read_fragment" (defScope s_read_fragment) T.a_read_fragment cdv A outer s H E) ⟨s', Ed, E, T.C_Reader, R, ws⟩ (defBody s_read_fragment) (W_read_fragment R.x ws Ed) :=
  (dbx_cons (dsx_expr (dex_meth (i := 0) T.cl_Reader T.me_R_expect (ok_R_expect T U) (hr.mono (by decide)) T.b_R_expect (L2N.passes_call (L2N.takes_of rfl rfl rfl rfl) (fun _ _ _ _ h => h)) (da_cons de_str (da_cons de_str da_nil))))
  (dbx_cons (dsx_if (dtx_val (dex_meth (i := 0) T.cl_Reader T.me_R_sees (ok_R_sees T U) (hr.mono (by decide)) T.b_R_sees (L2N.passes_call (L2N.takes_of rfl rfl rfl rfl) (fun _ _ _ _ h => h)) (da_cons de_str (da_cons de_str da_nil)))) (dbx_one (dsx_expr (dex_meth0 (i := 0) T.cl_Reader T.me_R_refuse (ok_R_refuse T U) (hr.mono (by decide)) T.b_R_refuse (L2N.passes_call (L2N.takes_of rfl rfl rfl rfl) (fun _ _ _ _ h => h))))) dbx_nil)
  (dbx_cons (dsx_set (i := 1) sc_read_fragment.nd (dex_meth0 (i := 0) T.cl_Reader T.me_R_expect_name (ok_R_expect_name T U) (hr.mono (by decide)) T.b_R_expect_name (L2N.passes_call (L2N.takes_of rfl rfl rfl rfl) (fun _ _ _ _ h => h))))
  (dbx_cons (dsx_expr (dex_meth (i := 0) T.cl_Reader T.me_R_expect (ok_R_expect T U) (hr.mono (by decide)) T.b_R_expect (L2N.passes_call (L2N.takes_of rfl rfl rfl rfl) (fun _ _ _ _ h => h)) (da_cons de_str (da_cons de_str da_nil))))
  (dbx_cons (dsx_set (i := 2) sc_read_fragment.nd (dex_meth0 (i := 0) T.cl_Reader T.me_R_expect_name (ok_R_expect_name T U) (hr.mono (by decide)) T.b_R_expect_name (L2N.passes_call (L2N.takes_of rfl rfl rfl rfl) (fun _ _ _ _ h => h))))
  (dbx_one (dsx_ret (dex_tup (dax_cons (dex_pure (de_var (i := 1))) (dax_cons (dex_pure (de_var (i := 2))) (dax_cons (dex_call (i := 0) (ok_read_selection T U 10) (hr.mono (by decide)) T.m_read_selection T.F_read_selection.kp T.b_read_selection (L2N.passes_call (L2N.takes_of rfl rfl rfl rfl) (fun _ _ _ _ h => h)) (da_cons de_int da_nil)) dax_nil)))))))))))
theorem ok_read_fragment (T : Tx K mg w) (U : Ts K P mg) : FnOk P w K mg base (L2N.CX P w) 50 T.a_read_fragment T.d_read_fragment ["reader"] (spX K mg T.C_Reader sp_read_fragment) :=
  fn_x T.F_read_fragment sc_read_fragment (fun _ _ _ _ _ h => len_read_fragment h) (by decide) (fun x ws xd => W_read_fragment x ws xd) (fun _ _ _ _ _ _ _ _ _ _ hr => db_read_fragment T U hr) hw_read_fragment
theorem db_read_fragments (T : Tx K mg w) (U : Ts K P mg) {cdv : Value} {A : Around} {outer : List Env} {s : Shared} {H : Hp} {s' : Addr} {Ed : Exn → Prop} {E : XK} {R : RdC} {ws : List D} (hr : Room (50) (A.deeper (envOfC "_read_fragments" (defScope s_read_fragments) s.heap.objs.size T.a_read_fragments cdv))) :
    DBx (cxOf (L2N.CX P w) P w K mg base ["reader", "found"] "_read_fragments" (defScope s_read_fragments) T.a_read_fragments cdv A outer s H E) ⟨s', Ed, E, T.C_Reader, R, ws⟩ (defBody s_read_fragments) (W_read_fragments R.x ws Ed) :=
  (dbx_cons (dsx_pure (ds_newl (i := 1) sc_read_fragments.nd))
  (dbx_cons (dsx_while (passes_of rfl) (dtx_not (dtx_val (dex_meth (i := 0) T.cl_Reader T.me_R_sees (ok_R_sees T U) (hr.mono (by decide)) T.b_R_sees (L2N.passes_call (L2N.takes_of rfl rfl rfl rfl) (fun _ _ _ _ h => h)) (da_cons de_str (da_cons de_str da_nil)))))
  (dbx_cons (dsx_if (dtx_pure (dt_cmp (op_eq_d hr.units) o2_eq (de_lenO (i := 1) T.z_len) (de_glob (v := (.int (10))) (d := (.int (10))) T.c_MOST_FRAGMENTS ⟨_, rfl⟩ (fun _ => .int _)))) (dbx_one (dsx_expr (dex_meth0 (i := 0) T.cl_Reader T.me_R_refuse (ok_R_refuse T U) (hr.mono (by decide)) T.b_R_refuse (L2N.passes_call (L2N.takes_of rfl rfl rfl rfl) (fun _ _ _ _ h => h))))) dbx_nil)
  (dbx_one (dsx_app (i := 1) (dex_call (i := 0) (ok_read_fragment T U) (hr.mono (by decide)) T.m_read_fragment T.F_read_fragment.kp T.b_read_fragment (L2N.passes_call (L2N.takes_of rfl rfl rfl rfl) (fun _ _ _ _ h => h)) da_nil)))))
  (dbx_frz (i := 1) (dbx_one (dsx_pure (ds_ret (de_Ctuple T.z_tuple (da_cons (de_var (i := 1)) da_nil))))))))
theorem ok_read_fragments (T : Tx K mg w) (U : Ts K P mg) : FnOk P w K mg base (L2N.CX P w) 51 T.a_read_fragments T.d_read_fragments ["reader"] (spX K mg T.C_Reader sp_read_fragments) :=
  fn_x T.F_read_fragments sc_read_fragments (fun _ _ _ _ _ h => len_read_fragments h) (by decide) (fun x ws xd => W_read_fragments x ws xd) (fun _ _ _ _ _ _ _ _ _ _ hr => db_read_fragments T U hr) hw_read_fragments
theorem ok_R_init (T : Tx K mg w) (U : Ts K P mg) : FnOk P w K mg base (L2N.CX P w) 8 T.i_Reader T.di_Reader ["self", "text"] (spRI K mg T.C_Reader sp_R_init) :=
  fn_init (p7 := ⟨0, 0, 0, 0⟩) (e2 := .Name "x" ⟨0, 0, 0, 0⟩) T.Fi_Reader sci_Reader T.cl_Reader T.n_Reader_words T.n_Reader_at (fun _ _ _ h => len_R_init h) (by decide) W_R_init rfl (fun cdv A outer s H s' Ed E hr => (de_plus (de_callX (ok_split_words T U) (hr.mono (by decide)) T.m_split_words T.F_split_words.kp T.b_split_words (L2N.passes_call (L2N.takes_of rfl rfl rfl rfl) (fun _ _ _ _ h => h)) (da_cons (de_var (i := 1)) da_nil)) (de_lst (da_cons (de_tup (da_cons (de_len T.z_len (da_cons (de_var (i := 1)) da_nil)) (da_cons de_str (da_cons de_str da_nil)))) da_nil)))) hw_R_init rfl (by first | exact Or.inl rfl | exact Or.inr (Or.inl rfl) | exact Or.inr (Or.inr rfl)) (by decide) (by decide) (fun _ _ _ _ _ _ => rfl) (fun _ _ _ _ _ _ => rfl)
theorem ok_parse_document (T : Tx K mg w) (U : Ts K P mg) : FnOk P w K mg base (L2N.CX P w) 52 T.a_parse_document T.d_parse_document ["text"] (spD K mg sp_parse_document) :=
  fn_dxN T.F_parse_document sc_parse_document (fun _ _ _ h => len_parse_document h) (by decide) W_parse_document (fun cdv A outer s H k hr => db_reader (i := 1) sc_parse_document.nd T.M_Reader (ok_R_init T U) (hr.mono (by decide)) T.g_Reader T.bi_Reader (L2N.passes_call (L2N.takes_of rfl rfl rfl rfl) (fun _ _ _ _ h => h)) (da_cons (de_var (i := 0)) da_nil) (fun R ws => (dbx_cons (dsx_expr (dex_meth (i := 1) T.cl_Reader T.me_R_expect (ok_R_expect T U) (hr.mono (by decide)) T.b_R_expect (L2N.passes_call (L2N.takes_of rfl rfl rfl rfl) (fun _ _ _ _ h => h)) (da_cons de_str (da_cons de_str da_nil))))
  (dbx_cons (dsx_set (i := 2) sc_parse_document.nd (dex_call (i := 1) (ok_read_declarations T U) (hr.mono (by decide)) T.m_read_declarations T.F_read_declarations.kp T.b_read_declarations (L2N.passes_call (L2N.takes_of rfl rfl rfl rfl) (fun _ _ _ _ h => h)) da_nil))
  (dbx_cons (dsx_set (i := 3) sc_parse_document.nd (dex_call (i := 1) (ok_read_selection T U 10) (hr.mono (by decide)) T.m_read_selection T.F_read_selection.kp T.b_read_selection (L2N.passes_call (L2N.takes_of rfl rfl rfl rfl) (fun _ _ _ _ h => h)) (da_cons de_int da_nil)))
  (dbx_cons (dsx_set (i := 4) sc_parse_document.nd (dex_call (i := 1) (ok_read_fragments T U) (hr.mono (by decide)) T.m_read_fragments T.F_read_fragments.kp T.b_read_fragments (L2N.passes_call (L2N.takes_of rfl rfl rfl rfl) (fun _ _ _ _ h => h)) da_nil))
  (dbx_one (dsx_pure (ds_ret (de_make T.M_Document (ok_init_Document T) (hr.mono (by decide)) T.g_Document T.bi_Document (da_cons (de_var (i := 2)) (da_cons (de_var (i := 3)) (da_cons (de_var (i := 4)) da_nil))))))))))))) hw_parse_document
theorem db_l_refill (T : Tx K mg w) (U : Ts K P mg) {cdv : Value} {A : Around} {outer : List Env} {s : Shared} {H : Hp} {E : XK} {k : Cc} (hr : Room (0) (A.deeper (envOfC "_law_refill" (defScope s_l_refill) s.heap.objs.size T.a_l_refill cdv))) :
    DB (cxOf CX0 P w K mg base ["script", "k", "cell"] "_law_refill" (defScope s_l_refill) T.a_l_refill cdv A outer s H E).nox k (defBody s_l_refill) (W_l_refill) :=
  (db_cons (ds_set (i := 2) sc_l_refill.nd de_int)
  (db_cons (ds_if (dt_truth (de_var (i := 0))) (db_one (ds_set (i := 2) sc_l_refill.nd (de_sub1 (de_var (i := 0)) (de_mod (de_var (i := 1)) (de_len T.z_len (da_cons (de_var (i := 0)) da_nil)))))) db_nil)
  (db_cons (ds_if (dt_cmp op_lt o2_lt (de_var (i := 2)) de_int) (db_one (ds_set (i := 2) sc_l_refill.nd (de_sub de_int (de_mul de_int (de_var (i := 2)))))) db_nil)
  (db_cons (ds_if (dt_w (dw_and (dt_cmp op_ge o2_ge (de_var (i := 2)) (de_pow de_int de_int)) (dw_and1 (dt_cmp op_lt o2_lt (de_var (i := 1)) (de_len T.z_len (da_cons (de_var (i := 0)) da_nil)))))) (db_one (ds_ret (de_var (i := 2)))) db_nil)
  (db_one (ds_ret (de_mod (de_Cint T.z_int (da_cons (de_plus (de_mul (de_Cint T.z_int (da_cons (de_plus (de_plus (de_mul (de_var (i := 2)) de_int) (de_mul (de_var (i := 1)) de_int)) de_int) da_nil)) de_int) de_int) da_nil)) de_int)))))))
theorem ok_l_refill (T : Tx K mg w) (U : Ts K P mg) : FnOk P w K mg base CX0 1 T.a_l_refill T.d_l_refill ["script", "k"] (spD K mg sp_l_refill) :=
  fn_d T.F_l_refill sc_l_refill (fun _ _ _ h => len_l_refill h) (by decide) W_l_refill (fun _ _ _ _ _ _ _ hr _ => db_l_refill T U hr) hw_l_refill
theorem db_l_draw (T : Tx K mg w) (U : Ts K P mg) {cdv : Value} {A : Around} {outer : List Env} {s : Shared} {H : Hp} {E : XK} {k : Cc} (hr : Room (1) (A.deeper (envOfC "_law_draw" (defScope s_l_draw) s.heap.objs.size T.a_l_draw cdv))) :
    DB (cxOf CX0 P w K mg base ["state", "script", "size", "digit"] "_law_draw" (defScope s_l_draw) T.a_l_draw cdv A outer s H E).nox k (defBody s_l_draw) (W_l_draw) :=
  (db_cons (ds_if (dt_cmp (op_eq_d hr.units) o2_eq (de_sub1 (de_var (i := 0)) de_int) de_int) (db_cons (ds_stw (de_call0 (ok_l_refill T U) (hr.mono (by decide)) T.m_l_refill T.F_l_refill.kp T.b_l_refill (da_cons (de_var (i := 1)) (da_cons (de_sub1 (de_var (i := 0)) de_int) da_nil))) (de_var (i := 0)) de_int)
  (db_one (ds_stw (de_plus (de_sub1 (de_var (i := 0)) de_int) de_int) (de_var (i := 0)) de_int))) db_nil)
  (db_cons (ds_set (i := 3) sc_l_draw.nd (de_mod (de_Cint T.z_int (da_cons (de_sub1 (de_var (i := 0)) de_int) da_nil)) (de_var (i := 2))))
  (db_cons (ds_stw (de_fdiv (de_sub1 (de_var (i := 0)) de_int) (de_var (i := 2))) (de_var (i := 0)) de_int)
  (db_one (ds_ret (de_var (i := 3)))))))
theorem ok_l_draw (T : Tx K mg w) (U : Ts K P mg) : FnOk P w K mg base CX0 2 T.a_l_draw T.d_l_draw ["state", "script", "size"] (spD K mg sp_l_draw) :=
  fn_d T.F_l_draw sc_l_draw (fun _ _ _ h => len_l_draw h) (by decide) W_l_draw (fun _ _ _ _ _ _ _ hr _ => db_l_draw T U hr) hw_l_draw
theorem db_l_run (T : Tx K mg w) (U : Ts K P mg) {cdv : Value} {A : Around} {outer : List Env} {s : Shared} {H : Hp} {E : XK} {k : Cc} (hr : Room (0) (A.deeper (envOfC "_law_run" (defScope s_l_run) s.heap.objs.size T.a_l_run cdv))) :
    DB (cxOf CX0 P w K mg base ["text", "at", "signs", "end", "k"] "_law_run" (defScope s_l_run) T.a_l_run cdv A outer s H E).nox k (defBody s_l_run) (W_l_run) :=
  (db_cons (ds_set (i := 3) sc_l_run.nd (de_var (i := 1)))
  (db_cons (ds_for PassesOwn.never (di_range2 (de_var (i := 1)) (de_len T.z_len (da_cons (de_var (i := 0)) da_nil)) rfl T.z_range) (dg_name (i := 4) sc_l_run.nd)
  (db_one (ds_if (dt_w (dw_and (dt_cmp (op_eq_d hr.units) o2_eq (de_var (i := 3)) (de_var (i := 4))) (dw_and1 (dt_cmp op_in_sign o2_inS (de_sub1 (de_var (i := 0)) (de_var (i := 4))) (de_var (i := 2)) rfl)))) (db_one (ds_set (i := 3) sc_l_run.nd (de_plus (de_var (i := 4)) de_int))) db_nil)))
  (db_one (ds_ret (de_var (i := 3))))))
theorem ok_l_run (T : Tx K mg w) (U : Ts K P mg) : FnOk P w K mg base CX0 1 T.a_l_run T.d_l_run ["text", "at", "signs"] (spD K mg sp_l_run) :=
  fn_d T.F_l_run sc_l_run (fun _ _ _ h => len_l_run h) (by decide) W_l_run (fun _ _ _ _ _ _ _ hr _ => db_l_run T U hr) hw_l_run
theorem db_l_named (T : Tx K mg w) (U : Ts K P mg) {cdv : Value} {A : Around} {outer : List Env} {s : Shared} {H : Hp} {E : XK} {k : Cc} (hr : Room (1) (A.deeper (envOfC "_law_named" (defScope s_l_named) s.heap.objs.size T.a_l_named cdv))) :
    DB (cxOf CX0 P w K mg base ["text", "at", "place", "letters", "end", "name"] "_law_named" (defScope s_l_named) T.a_l_named cdv A outer s H E).nox k (defBody s_l_named) (W_l_named) :=
  (db_cons (ds_set (i := 3) sc_l_named.nd de_str)
  (db_cons (ds_set (i := 4) sc_l_named.nd (de_call0 (ok_l_run T U) (hr.mono (by decide)) T.m_l_run T.F_l_run.kp T.b_l_run (da_cons (de_var (i := 0)) (da_cons (de_var (i := 1)) (da_cons (de_plus (de_var (i := 3)) de_str) da_nil)))))
  (db_cons (ds_set (i := 5) sc_l_named.nd (de_slc (de_var (i := 0)) (do_some (de_var (i := 1))) (do_some (de_var (i := 4)))))
  (db_cons (ds_if (dt_w (dw_and (dt_cmp (op_ne_d hr.units) o2_ne (de_var (i := 5)) de_str) (dw_and1 (dt_w (dw_or (dt_cmp (op_eq_d hr.units) o2_eq (de_var (i := 5)) de_str) (dw_or (dt_cmp op_notIn_sign o2_notInS (de_sub1 (de_var (i := 5)) de_int) (de_var (i := 3)) rfl) (dw_or1 (dt_cmp op_gt o2_gt (de_len T.z_len (da_cons (de_var (i := 5)) da_nil)) de_int)))))))) (db_one (ds_ret (de_tup (da_cons de_str (da_cons (de_var (i := 2)) da_nil))))) db_nil)
  (db_one (ds_ret (de_tup (da_cons de_str (da_cons (de_var (i := 5)) (da_cons (de_var (i := 4)) da_nil))))))))))
theorem ok_l_named (T : Tx K mg w) (U : Ts K P mg) : FnOk P w K mg base CX0 2 T.a_l_named T.d_l_named ["text", "at", "place"] (spD K mg sp_l_named) :=
  fn_d T.F_l_named sc_l_named (fun _ _ _ h => len_l_named h) (by decide) W_l_named (fun _ _ _ _ _ _ _ hr _ => db_l_named T U hr) hw_l_named
theorem db_l_word_at (T : Tx K mg w) (U : Ts K P mg) {cdv : Value} {A : Around} {outer : List Env} {s : Shared} {H : Hp} {E : XK} {k : Cc} (hr : Room (2) (A.deeper (envOfC "_law_word_at" (defScope s_l_word_at) s.heap.objs.size T.a_l_word_at cdv))) :
    DB (cxOf CX0 P w K mg base ["text", "at", "sign", "end", "begin", "number", "found"] "_law_word_at" (defScope s_l_word_at) T.a_l_word_at cdv A outer s H E).nox k (defBody s_l_word_at) (W_l_word_at) :=
  (db_cons (ds_set (i := 2) sc_l_word_at.nd (de_sub1 (de_var (i := 0)) (de_var (i := 1))))
  (db_cons (ds_if (dt_cmp op_in_sign o2_inS (de_var (i := 2)) de_str rfl) (db_one (ds_ret (de_tup (da_cons de_str (da_cons (de_tup (da_cons de_str (da_cons (de_var (i := 2)) da_nil))) (da_cons (de_plus (de_var (i := 1)) de_int) da_nil)))))) db_nil)
  (db_cons (ds_if (dt_cmp (op_eq_d hr.units) o2_eq (de_slc (de_var (i := 0)) (do_some (de_var (i := 1))) (do_some (de_plus (de_var (i := 1)) de_int))) de_str) (db_one (ds_ret (de_tup (da_cons de_str (da_cons (de_tup (da_cons de_str (da_cons de_str da_nil))) (da_cons (de_plus (de_var (i := 1)) de_int) da_nil)))))) db_nil)
  (db_cons (ds_if (dt_cmp (op_eq_d hr.units) o2_eq (de_var (i := 2)) de_str) (db_cons (ds_set (i := 3) sc_l_word_at.nd (de_find (de_var (i := 0)) de_str (de_plus (de_var (i := 1)) de_int)))
  (db_cons (ds_if (dt_w (dw_or (dt_cmp op_lt o2_lt (de_var (i := 3)) de_int) (dw_or1 (dt_cmp op_in_sign o2_inS de_str (de_slc (de_var (i := 0)) (do_some (de_var (i := 1))) (do_some (de_var (i := 3)))) rfl)))) (db_one (ds_ret (de_tup (da_cons de_str (da_cons (de_var (i := 1)) da_nil))))) db_nil)
  (db_one (ds_ret (de_tup (da_cons de_str (da_cons (de_tup (da_cons de_str (da_cons (de_slc (de_var (i := 0)) (do_some (de_plus (de_var (i := 1)) de_int)) (do_some (de_var (i := 3)))) da_nil))) (da_cons (de_plus (de_var (i := 3)) de_int) da_nil)))))))) db_nil)
  (db_cons (ds_if (dt_cmp op_in_sign o2_inS (de_var (i := 2)) de_str rfl) (db_cons (ds_set (i := 4) sc_l_word_at.nd (de_plus (de_var (i := 1)) (de_Cint T.z_int (da_cons (de_cmp (op_eq_d hr.units) o2_eq (de_var (i := 2)) de_str) da_nil))))
  (db_cons (ds_set (i := 3) sc_l_word_at.nd (de_call0 (ok_l_run T U) (hr.mono (by decide)) T.m_l_run T.F_l_run.kp T.b_l_run (da_cons (de_var (i := 0)) (da_cons (de_var (i := 4)) (da_cons de_str da_nil)))))
  (db_cons (ds_if (dt_w (dw_or (dt_cmp (op_eq_d hr.units) o2_eq (de_var (i := 3)) (de_var (i := 4))) (dw_or1 (dt_cmp op_gt o2_gt (de_var (i := 3)) (de_plus (de_var (i := 4)) de_int))))) (db_one (ds_ret (de_tup (da_cons de_str (da_cons (de_var (i := 1)) da_nil))))) db_nil)
  (db_cons (ds_set (i := 5) sc_l_word_at.nd (de_Cints T.z_int (da_cons (de_slc (de_var (i := 0)) (do_some (de_var (i := 4))) (do_some (de_var (i := 3)))) da_nil)))
  (db_one (ds_ret (de_tup (da_cons de_str (da_cons (de_tup (da_cons de_str (da_cons (de_sub (de_var (i := 5)) (de_mul (de_mul de_int (de_var (i := 5))) (de_Cint T.z_int (da_cons (de_cmp (op_eq_d hr.units) o2_eq (de_var (i := 2)) de_str) da_nil)))) da_nil))) (da_cons (de_var (i := 3)) da_nil)))))))))) db_nil)
  (db_cons (ds_set (i := 4) sc_l_word_at.nd (de_plus (de_var (i := 1)) (de_Cint T.z_int (da_cons (de_cmp (op_eq_d hr.units) o2_eq (de_var (i := 2)) de_str) da_nil))))
  (db_cons (ds_set (i := 6) sc_l_word_at.nd (de_call0 (ok_l_named T U) (hr.mono (by decide)) T.m_l_named T.F_l_named.kp T.b_l_named (da_cons (de_var (i := 0)) (da_cons (de_var (i := 4)) (da_cons (de_var (i := 1)) da_nil)))))
  (db_cons (ds_if (dt_w (dw_or (dt_cmp (op_eq_d hr.units) o2_eq (de_sub1 (de_var (i := 6)) de_int) de_str) (dw_or1 (dt_w (dw_and (dt_cmp (op_eq_d hr.units) o2_eq (de_var (i := 2)) de_str) (dw_and1 (dt_cmp (op_eq_d hr.units) o2_eq (de_sub1 (de_var (i := 6)) de_int) de_str))))))) (db_one (ds_ret (de_tup (da_cons de_str (da_cons (de_var (i := 1)) da_nil))))) db_nil)
  (db_one (ds_ret (de_tup (da_cons de_str (da_cons (de_tup (da_cons (de_sub1 (de_lst (da_cons de_str (da_cons de_str da_nil))) (de_Cint T.z_int (da_cons (de_cmp (op_eq_d hr.units) o2_eq (de_var (i := 2)) de_str) da_nil))) (da_cons (de_sub1 (de_var (i := 6)) de_int) da_nil))) (da_cons (de_sub1 (de_var (i := 6)) de_int) da_nil))))))))))))))
theorem ok_l_word_at (T : Tx K mg w) (U : Ts K P mg) : FnOk P w K mg base CX0 3 T.a_l_word_at T.d_l_word_at ["text", "at"] (spD K mg sp_l_word_at) :=
  fn_d T.F_l_word_at sc_l_word_at (fun _ _ _ h => len_l_word_at h) (by decide) W_l_word_at (fun _ _ _ _ _ _ _ hr _ => db_l_word_at T U hr) hw_l_word_at
theorem db_l_split (T : Tx K mg w) (U : Ts K P mg) {cdv : Value} {A : Around} {outer : List Env} {s : Shared} {H : Hp} {E : XK} {k : Cc} (hr : Room (3) (A.deeper (envOfC "_law_split" (defScope s_l_split) s.heap.objs.size T.a_l_split cdv))) :
    DB (cxOf CX0 P w K mg base ["text", "words", "at", "k", "found"] "_law_split" (defScope s_l_split) T.a_l_split cdv A outer s H E).nox k (defBody s_l_split) (W_l_split) :=
  (db_cons (ds_newl (i := 1) sc_l_split.nd)
  (db_cons (ds_set (i := 2) sc_l_split.nd (de_call0 (ok_l_run T U) (hr.mono (by decide)) T.m_l_run T.F_l_run.kp T.b_l_run (da_cons (de_var (i := 0)) (da_cons de_int (da_cons de_str da_nil)))))
  (db_cons (ds_for PassesOwn.never (di_range (de_len T.z_len (da_cons (de_var (i := 0)) da_nil)) rfl T.z_range) (dg_name (i := 3) sc_l_split.nd)
  (db_one (ds_if (dt_cmp op_lt o2_lt (de_var (i := 2)) (de_len T.z_len (da_cons (de_var (i := 0)) da_nil))) (db_cons (ds_set (i := 4) sc_l_split.nd (de_call0 (ok_l_word_at T U) (hr.mono (by decide)) T.m_l_word_at T.F_l_word_at.kp T.b_l_word_at (da_cons (de_var (i := 0)) (da_cons (de_var (i := 2)) da_nil))))
  (db_cons (ds_if (dt_cmp (op_eq_d hr.units) o2_eq (de_sub1 (de_var (i := 4)) de_int) de_str) (db_one (ds_ret (de_tup (da_cons de_str (da_cons (de_sub1 (de_var (i := 4)) de_int) da_nil))))) db_nil)
  (db_cons (ds_app (i := 1) (de_plus (de_tup (da_cons (de_var (i := 2)) da_nil)) (de_sub1 (de_var (i := 4)) de_int)))
  (db_one (ds_set (i := 2) sc_l_split.nd (de_call0 (ok_l_run T U) (hr.mono (by decide)) T.m_l_run T.F_l_run.kp T.b_l_run (da_cons (de_var (i := 0)) (da_cons (de_sub1 (de_var (i := 4)) de_int) (da_cons de_str da_nil))))))))) db_nil)))
  (db_frzL (i := 1) (db_one (ds_ret (de_tup (da_cons de_str (da_cons (de_var (i := 1)) da_nil)))))))))
theorem ok_l_split (T : Tx K mg w) (U : Ts K P mg) : FnOk P w K mg base CX0 4 T.a_l_split T.d_l_split ["text"] (spD K mg sp_l_split) :=
  fn_d T.F_l_split sc_l_split (fun _ _ _ h => len_l_split h) (by decide) W_l_split (fun _ _ _ _ _ _ _ hr _ => db_l_split T U hr) hw_l_split
theorem db_l_is (T : Tx K mg w) (U : Ts K P mg) {cdv : Value} {A : Around} {outer : List Env} {s : Shared} {H : Hp} {E : XK} {k : Cc} (hr : Room (0) (A.deeper (envOfC "_law_is" (defScope s_l_is) s.heap.objs.size T.a_l_is cdv))) :
    DB (cxOf CX0 P w K mg base ["words", "at", "kind", "word"] "_law_is" (defScope s_l_is) T.a_l_is cdv A outer s H E).nox k (defBody s_l_is) (W_l_is) :=
  (db_one (ds_ret (de_and (de_cmp op_lt o2_lt (de_var (i := 1)) (de_len T.z_len (da_cons (de_var (i := 0)) da_nil))) (de_one (de_cmp (op_eq_d hr.units) o2_eq (de_slcT (de_sub1 (de_var (i := 0)) (de_var (i := 1))) (do_some de_int) do_no) (de_tup (da_cons (de_var (i := 2)) (da_cons (de_var (i := 3)) da_nil))))))))
theorem ok_l_is (T : Tx K mg w) (U : Ts K P mg) : FnOk P w K mg base CX0 1 T.a_l_is T.d_l_is ["words", "at", "kind", "word"] (spD K mg sp_l_is) :=
  fn_d T.F_l_is sc_l_is (fun _ _ _ h => len_l_is h) (by decide) W_l_is (fun _ _ _ _ _ _ _ hr _ => db_l_is T U hr) hw_l_is
theorem db_l_kind_at (T : Tx K mg w) (U : Ts K P mg) {cdv : Value} {A : Around} {outer : List Env} {s : Shared} {H : Hp} {E : XK} {k : Cc} (hr : Room (0) (A.deeper (envOfC "_law_kind_at" (defScope s_l_kind_at) s.heap.objs.size T.a_l_kind_at cdv))) :
    DB (cxOf CX0 P w K mg base ["words", "at", "kind"] "_law_kind_at" (defScope s_l_kind_at) T.a_l_kind_at cdv A outer s H E).nox k (defBody s_l_kind_at) (W_l_kind_at) :=
  (db_one (ds_ret (de_and (de_cmp op_lt o2_lt (de_var (i := 1)) (de_len T.z_len (da_cons (de_var (i := 0)) da_nil))) (de_one (de_cmp (op_eq_d hr.units) o2_eq (de_sub1 (de_sub1 (de_var (i := 0)) (de_var (i := 1))) de_int) (de_var (i := 2)))))))
theorem ok_l_kind_at (T : Tx K mg w) (U : Ts K P mg) : FnOk P w K mg base CX0 1 T.a_l_kind_at T.d_l_kind_at ["words", "at", "kind"] (spD K mg sp_l_kind_at) :=
  fn_d T.F_l_kind_at sc_l_kind_at (fun _ _ _ h => len_l_kind_at h) (by decide) W_l_kind_at (fun _ _ _ _ _ _ _ hr _ => db_l_kind_at T U hr) hw_l_kind_at
theorem db_l_plain_at (T : Tx K mg w) (U : Ts K P mg) {cdv : Value} {A : Around} {outer : List Env} {s : Shared} {H : Hp} {E : XK} {k : Cc} (hr : Room (1) (A.deeper (envOfC "_law_plain_at" (defScope s_l_plain_at) s.heap.objs.size T.a_l_plain_at cdv))) :
    DB (cxOf CX0 P w K mg base ["words", "at"] "_law_plain_at" (defScope s_l_plain_at) T.a_l_plain_at cdv A outer s H E).nox k (defBody s_l_plain_at) (W_l_plain_at) :=
  (db_one (ds_ret (de_and (de_call0 (ok_l_kind_at T U) (hr.mono (by decide)) T.m_l_kind_at T.F_l_kind_at.kp T.b_l_kind_at (da_cons (de_var (i := 0)) (da_cons (de_var (i := 1)) (da_cons de_str da_nil)))) (de_one (de_cmp (op_ne_d hr.units) o2_ne (de_sub1 (de_sub1 (de_var (i := 0)) (de_var (i := 1))) de_int) de_str)))))
theorem ok_l_plain_at (T : Tx K mg w) (U : Ts K P mg) : FnOk P w K mg base CX0 2 T.a_l_plain_at T.d_l_plain_at ["words", "at"] (spD K mg sp_l_plain_at) :=
  fn_d T.F_l_plain_at sc_l_plain_at (fun _ _ _ h => len_l_plain_at h) (by decide) W_l_plain_at (fun _ _ _ _ _ _ _ hr _ => db_l_plain_at T U hr) hw_l_plain_at
theorem db_l_constant (T : Tx K mg w) (U : Ts K P mg) {cdv : Value} {A : Around} {outer : List Env} {s : Shared} {H : Hp} {E : XK} {k : Cc} (hr : Room (1) (A.deeper (envOfC "_law_constant" (defScope s_l_constant) s.heap.objs.size T.a_l_constant cdv))) :
    DB (cxOf CX0 P w K mg base ["words", "at", "table"] "_law_constant" (defScope s_l_constant) T.a_l_constant cdv A outer s H E).nox k (defBody s_l_constant) (W_l_constant) :=
  (db_cons (ds_set (i := 2) sc_l_constant.nd (de_disp (dps_cons (de_tup (da_cons de_str (da_cons de_bl da_nil))) (dps_cons (de_tup (da_cons de_str (da_cons de_bl da_nil))) (dps_cons (de_tup (da_cons de_str da_nil)) dps_nil))) (by decide)))
  (db_cons (ds_if (dt_w (dw_or (dt_val (de_call0 (ok_l_kind_at T U) (hr.mono (by decide)) T.m_l_kind_at T.F_l_kind_at.kp T.b_l_kind_at (da_cons (de_var (i := 0)) (da_cons (de_var (i := 1)) (da_cons de_str da_nil))))) (dw_or1 (dt_val (de_call0 (ok_l_kind_at T U) (hr.mono (by decide)) T.m_l_kind_at T.F_l_kind_at.kp T.b_l_kind_at (da_cons (de_var (i := 0)) (da_cons (de_var (i := 1)) (da_cons de_str da_nil)))))))) (db_one (ds_ret (de_tup (da_cons de_str (da_cons (de_tup (da_cons (de_sub1 (de_sub1 (de_var (i := 0)) (de_var (i := 1))) de_int) (da_cons (de_sub1 (de_sub1 (de_var (i := 0)) (de_var (i := 1))) de_int) da_nil))) (da_cons (de_plus (de_var (i := 1)) de_int) da_nil)))))) db_nil)
  (db_cons (ds_if (dt_w (dw_and (dt_val (de_call0 (ok_l_kind_at T U) (hr.mono (by decide)) T.m_l_kind_at T.F_l_kind_at.kp T.b_l_kind_at (da_cons (de_var (i := 0)) (da_cons (de_var (i := 1)) (da_cons de_str da_nil))))) (dw_and1 (dt_din (hu_of hr) (de_sub1 (de_sub1 (de_var (i := 0)) (de_var (i := 1))) de_int) (de_var (i := 2)))))) (db_one (ds_ret (de_tup (da_cons de_str (da_cons (de_dget (hu_of hr) (de_var (i := 2)) (de_sub1 (de_sub1 (de_var (i := 0)) (de_var (i := 1))) de_int)) (da_cons (de_plus (de_var (i := 1)) de_int) da_nil)))))) db_nil)
  (db_one (ds_ret (de_tup (da_cons de_str (da_cons (de_var (i := 1)) da_nil))))))))
theorem ok_l_constant (T : Tx K mg w) (U : Ts K P mg) : FnOk P w K mg base CX0 2 T.a_l_constant T.d_l_constant ["words", "at"] (spD K mg sp_l_constant) :=
  fn_d T.F_l_constant sc_l_constant (fun _ _ _ h => len_l_constant h) (by decide) W_l_constant (fun _ _ _ _ _ _ _ hr _ => db_l_constant T U hr) hw_l_constant
theorem db_l_value_at (T : Tx K mg w) (U : Ts K P mg) {cdv : Value} {A : Around} {outer : List Env} {s : Shared} {H : Hp} {E : XK} {k : Cc} (hr : Room (2) (A.deeper (envOfC "_law_value_at" (defScope s_l_value_at) s.heap.objs.size T.a_l_value_at cdv))) :
    DB (cxOf CX0 P w K mg base ["words", "at"] "_law_value_at" (defScope s_l_value_at) T.a_l_value_at cdv A outer s H E).nox k (defBody s_l_value_at) (W_l_value_at) :=
  (db_cons (ds_if (dt_val (de_call0 (ok_l_kind_at T U) (hr.mono (by decide)) T.m_l_kind_at T.F_l_kind_at.kp T.b_l_kind_at (da_cons (de_var (i := 0)) (da_cons (de_var (i := 1)) (da_cons de_str da_nil))))) (db_one (ds_ret (de_tup (da_cons de_str (da_cons (de_tup (da_cons de_str (da_cons (de_sub1 (de_sub1 (de_var (i := 0)) (de_var (i := 1))) de_int) da_nil))) (da_cons (de_plus (de_var (i := 1)) de_int) da_nil)))))) db_nil)
  (db_one (ds_ret (de_call0 (ok_l_constant T U) (hr.mono (by decide)) T.m_l_constant T.F_l_constant.kp T.b_l_constant (da_cons (de_var (i := 0)) (da_cons (de_var (i := 1)) da_nil))))))
theorem ok_l_value_at (T : Tx K mg w) (U : Ts K P mg) : FnOk P w K mg base CX0 3 T.a_l_value_at T.d_l_value_at ["words", "at"] (spD K mg sp_l_value_at) :=
  fn_d T.F_l_value_at sc_l_value_at (fun _ _ _ h => len_l_value_at h) (by decide) W_l_value_at (fun _ _ _ _ _ _ _ hr _ => db_l_value_at T U hr) hw_l_value_at
theorem db_l_type_at (T : Tx K mg w) (U : Ts K P mg) {m : Nat} (G_l_type_at : FnOk P w K mg base CX0 (m + 3) T.a_l_type_at T.d_l_type_at ["words", "at", "depth"] (spD K mg (sp_l_type_at m))) {cdv : Value} {A : Around} {outer : List Env} {s : Shared} {H : Hp} {E : XK} {k : Cc} (hr : Room (m + 3) (A.deeper (envOfC "_law_type_at" (defScope s_l_type_at) s.heap.objs.size T.a_l_type_at cdv))) :
    DB (cxOf CX0 P w K mg base ["words", "at", "depth", "inner", "kind"] "_law_type_at" (defScope s_l_type_at) T.a_l_type_at cdv A outer s H E).nox k (defBody s_l_type_at) (W_l_type_at m) :=
  (db_cons (ds_if (dt_val (de_call0 (ok_l_is T U) (hr.mono (by omega)) T.m_l_is T.F_l_is.kp T.b_l_is (da_cons (de_var (i := 0)) (da_cons (de_var (i := 1)) (da_cons de_str (da_cons de_str da_nil)))))) (db_cons (ds_if (dt_cmp (op_eq_d hr.units) o2_eq (de_var (i := 2)) de_int) (db_one (ds_ret (de_tup (da_cons de_str (da_cons (de_var (i := 1)) da_nil))))) db_nil)
  (db_cons (ds_set (i := 3) sc_l_type_at.nd (de_call0 G_l_type_at hr T.m_l_type_at T.F_l_type_at.kp T.b_l_type_at (da_cons (de_var (i := 0)) (da_cons (de_plus (de_var (i := 1)) de_int) (da_cons (de_plus (de_var (i := 2)) de_int) da_nil)))))
  (db_cons (ds_if (dt_cmp (op_eq_d hr.units) o2_eq (de_sub1 (de_var (i := 3)) de_int) de_str) (db_one (ds_ret (de_var (i := 3)))) db_nil)
  (db_cons (ds_if (dt_not (dt_val (de_call0 (ok_l_is T U) (hr.mono (by omega)) T.m_l_is T.F_l_is.kp T.b_l_is (da_cons (de_var (i := 0)) (da_cons (de_sub1 (de_var (i := 3)) de_int) (da_cons de_str (da_cons de_str da_nil))))))) (db_one (ds_ret (de_tup (da_cons de_str (da_cons (de_sub1 (de_var (i := 3)) de_int) da_nil))))) db_nil)
  (db_cons (ds_set (i := 4) sc_l_type_at.nd (de_tup (da_cons de_str (da_cons (de_sub1 (de_var (i := 3)) de_int) da_nil))))
  (db_one (ds_set (i := 1) sc_l_type_at.nd (de_plus (de_sub1 (de_var (i := 3)) de_int) de_int)))))))) (db_one (ds_if (dt_val (de_call0 (ok_l_plain_at T U) (hr.mono (by omega)) T.m_l_plain_at T.F_l_plain_at.kp T.b_l_plain_at (da_cons (de_var (i := 0)) (da_cons (de_var (i := 1)) da_nil)))) (db_cons (ds_set (i := 4) sc_l_type_at.nd (de_tup (da_cons de_str (da_cons (de_sub1 (de_sub1 (de_var (i := 0)) (de_var (i := 1))) de_int) da_nil))))
  (db_one (ds_set (i := 1) sc_l_type_at.nd (de_plus (de_var (i := 1)) de_int)))) (db_one (ds_ret (de_tup (da_cons de_str (da_cons (de_var (i := 1)) da_nil))))))))
  (db_cons (ds_if (dt_val (de_call0 (ok_l_is T U) (hr.mono (by omega)) T.m_l_is T.F_l_is.kp T.b_l_is (da_cons (de_var (i := 0)) (da_cons (de_var (i := 1)) (da_cons de_str (da_cons de_str da_nil)))))) (db_one (ds_ret (de_tup (da_cons de_str (da_cons (de_tup (da_cons de_str (da_cons (de_var (i := 4)) da_nil))) (da_cons (de_plus (de_var (i := 1)) de_int) da_nil)))))) db_nil)
  (db_one (ds_ret (de_tup (da_cons de_str (da_cons (de_var (i := 4)) (da_cons (de_var (i := 1)) da_nil))))))))
theorem rec_typ (T : Tx K mg w) (U : Ts K P mg) : ∀ m : Nat, FnOk P w K mg base CX0 (m + 3) T.a_l_type_at T.d_l_type_at ["words", "at", "depth"] (spD K mg (sp_l_type_at m))
  | 0 => none_left fun _ _ _ h => h
  | m + 1 => fn_d T.F_l_type_at sc_l_type_at (fun _ _ _ h => len_l_type_at h) (by decide) (W_l_type_at m) (fun _ _ _ _ _ _ _ hr _ => db_l_type_at T U (rec_typ T U m) hr) hw_l_type_at
theorem ok_l_type_at (T : Tx K mg w) (U : Ts K P mg) (m : Nat) : FnOk P w K mg base CX0 (m + 3) T.a_l_type_at T.d_l_type_at ["words", "at", "depth"] (spD K mg (sp_l_type_at m)) := rec_typ T U m
theorem db_l_declared (T : Tx K mg w) (U : Ts K P mg) {cdv : Value} {A : Around} {outer : List Env} {s : Shared} {H : Hp} {E : XK} {k : Cc} (hr : Room (15) (A.deeper (envOfC "_law_declared" (defScope s_l_declared) s.heap.objs.size T.a_l_declared cdv))) :
    DB (cxOf CX0 P w K mg base ["words", "at", "found", "k", "kind", "default"] "_law_declared" (defScope s_l_declared) T.a_l_declared cdv A outer s H E).nox k (defBody s_l_declared) (W_l_declared) :=
  (db_cons (ds_if (dt_not (dt_val (de_call0 (ok_l_is T U) (hr.mono (by decide)) T.m_l_is T.F_l_is.kp T.b_l_is (da_cons (de_var (i := 0)) (da_cons (de_var (i := 1)) (da_cons de_str (da_cons de_str da_nil))))))) (db_one (ds_ret (de_tup (da_cons de_str (da_cons (de_tup da_nil) (da_cons (de_var (i := 1)) da_nil)))))) db_nil)
  (db_cons (ds_newl (i := 2) sc_l_declared.nd)
  (db_cons (ds_set (i := 1) sc_l_declared.nd (de_plus (de_var (i := 1)) de_int))
  (db_cons (ds_for PassesOwn.never (di_range (de_len T.z_len (da_cons (de_var (i := 0)) da_nil)) rfl T.z_range) (dg_name (i := 3) sc_l_declared.nd)
  (db_cons (ds_if (dt_w (dw_and (dt_truO (i := 2)) (dw_and1 (dt_val (de_call0 (ok_l_is T U) (hr.mono (by decide)) T.m_l_is T.F_l_is.kp T.b_l_is (da_cons (de_var (i := 0)) (da_cons (de_var (i := 1)) (da_cons de_str (da_cons de_str da_nil))))))))) (db_frzL (i := 2) (db_one (ds_ret (de_tup (da_cons de_str (da_cons (de_Ctuple T.z_tuple (da_cons (de_var (i := 2)) da_nil)) (da_cons (de_plus (de_var (i := 1)) de_int) da_nil))))))) db_nil)
  (db_cons (ds_if (dt_not (dt_val (de_call0 (ok_l_kind_at T U) (hr.mono (by decide)) T.m_l_kind_at T.F_l_kind_at.kp T.b_l_kind_at (da_cons (de_var (i := 0)) (da_cons (de_var (i := 1)) (da_cons de_str da_nil)))))) (db_one (ds_ret (de_tup (da_cons de_str (da_cons (de_var (i := 1)) da_nil))))) db_nil)
  (db_cons (ds_if (dt_not (dt_val (de_call0 (ok_l_is T U) (hr.mono (by decide)) T.m_l_is T.F_l_is.kp T.b_l_is (da_cons (de_var (i := 0)) (da_cons (de_plus (de_var (i := 1)) de_int) (da_cons de_str (da_cons de_str da_nil))))))) (db_one (ds_ret (de_tup (da_cons de_str (da_cons (de_plus (de_var (i := 1)) de_int) da_nil))))) db_nil)
  (db_cons (ds_set (i := 4) sc_l_declared.nd (de_call0 (ok_l_type_at T U 6) (hr.mono (by decide)) T.m_l_type_at T.F_l_type_at.kp T.b_l_type_at (da_cons (de_var (i := 0)) (da_cons (de_plus (de_var (i := 1)) de_int) (da_cons de_int da_nil)))))
  (db_cons (ds_if (dt_cmp (op_eq_d hr.units) o2_eq (de_sub1 (de_var (i := 4)) de_int) de_str) (db_one (ds_ret (de_var (i := 4)))) db_nil)
  (db_cons (ds_set (i := 5) sc_l_declared.nd (de_tup (da_cons de_str (da_cons de_non (da_cons (de_sub1 (de_var (i := 4)) de_int) da_nil)))))
  (db_cons (ds_if (dt_val (de_call0 (ok_l_is T U) (hr.mono (by decide)) T.m_l_is T.F_l_is.kp T.b_l_is (da_cons (de_var (i := 0)) (da_cons (de_sub1 (de_var (i := 4)) de_int) (da_cons de_str (da_cons de_str da_nil)))))) (db_cons (ds_set (i := 5) sc_l_declared.nd (de_call0 (ok_l_constant T U) (hr.mono (by decide)) T.m_l_constant T.F_l_constant.kp T.b_l_constant (da_cons (de_var (i := 0)) (da_cons (de_plus (de_sub1 (de_var (i := 4)) de_int) de_int) da_nil))))
  (db_one (ds_if (dt_cmp (op_eq_d hr.units) o2_eq (de_sub1 (de_var (i := 5)) de_int) de_str) (db_one (ds_ret (de_var (i := 5)))) db_nil))) db_nil)
  (db_cons (ds_app (i := 2) (de_tup (da_cons (de_sub1 (de_sub1 (de_var (i := 0)) (de_var (i := 1))) de_int) (da_cons (de_sub1 (de_var (i := 4)) de_int) (da_cons (de_sub1 (de_var (i := 5)) de_int) da_nil)))))
  (db_one (ds_set (i := 1) sc_l_declared.nd (de_sub1 (de_var (i := 5)) de_int))))))))))))
  (db_one (ds_ret (de_tup (da_cons de_str (da_cons (de_var (i := 1)) da_nil)))))))))
theorem ok_l_declared (T : Tx K mg w) (U : Ts K P mg) : FnOk P w K mg base CX0 16 T.a_l_declared T.d_l_declared ["words", "at"] (spD K mg sp_l_declared) :=
  fn_d T.F_l_declared sc_l_declared (fun _ _ _ h => len_l_declared h) (by decide) W_l_declared (fun _ _ _ _ _ _ _ hr _ => db_l_declared T U hr) hw_l_declared
theorem db_l_conditions_at (T : Tx K mg w) (U : Ts K P mg) {cdv : Value} {A : Around} {outer : List Env} {s : Shared} {H : Hp} {E : XK} {k : Cc} (hr : Room (3) (A.deeper (envOfC "_law_conditions_at" (defScope s_l_conditions_at) s.heap.objs.size T.a_l_conditions_at cdv))) :
    DB (cxOf CX0 P w K mg base ["words", "at", "found", "k", "value"] "_law_conditions_at" (defScope s_l_conditions_at) T.a_l_conditions_at cdv A outer s H E).nox k (defBody s_l_conditions_at) (W_l_conditions_at) :=
  (db_cons (ds_newl (i := 2) sc_l_conditions_at.nd)
  (db_cons (ds_for PassesOwn.never (di_range (de_plus (de_len T.z_len (da_cons (de_var (i := 0)) da_nil)) de_int) rfl T.z_range) (dg_name (i := 3) sc_l_conditions_at.nd)
  (db_cons (ds_if (dt_not (dt_val (de_call0 (ok_l_is T U) (hr.mono (by decide)) T.m_l_is T.F_l_is.kp T.b_l_is (da_cons (de_var (i := 0)) (da_cons (de_var (i := 1)) (da_cons de_str (da_cons de_str da_nil))))))) (db_frzL (i := 2) (db_one (ds_ret (de_tup (da_cons de_str (da_cons (de_Ctuple T.z_tuple (da_cons (de_var (i := 2)) da_nil)) (da_cons (de_var (i := 1)) da_nil))))))) db_nil)
  (db_cons (ds_if (dt_w (dw_and (dt_not (dt_val (de_call0 (ok_l_is T U) (hr.mono (by decide)) T.m_l_is T.F_l_is.kp T.b_l_is (da_cons (de_var (i := 0)) (da_cons (de_plus (de_var (i := 1)) de_int) (da_cons de_str (da_cons de_str da_nil))))))) (dw_and1 (dt_not (dt_val (de_call0 (ok_l_is T U) (hr.mono (by decide)) T.m_l_is T.F_l_is.kp T.b_l_is (da_cons (de_var (i := 0)) (da_cons (de_plus (de_var (i := 1)) de_int) (da_cons de_str (da_cons de_str da_nil)))))))))) (db_one (ds_ret (de_tup (da_cons de_str (da_cons (de_plus (de_var (i := 1)) de_int) da_nil))))) db_nil)
  (db_cons (ds_if (dt_not (dt_val (de_call0 (ok_l_is T U) (hr.mono (by decide)) T.m_l_is T.F_l_is.kp T.b_l_is (da_cons (de_var (i := 0)) (da_cons (de_plus (de_var (i := 1)) de_int) (da_cons de_str (da_cons de_str da_nil))))))) (db_one (ds_ret (de_tup (da_cons de_str (da_cons (de_plus (de_var (i := 1)) de_int) da_nil))))) db_nil)
  (db_cons (ds_set (i := 4) sc_l_conditions_at.nd (de_call0 (ok_l_value_at T U) (hr.mono (by decide)) T.m_l_value_at T.F_l_value_at.kp T.b_l_value_at (da_cons (de_var (i := 0)) (da_cons (de_plus (de_var (i := 1)) de_int) da_nil))))
  (db_cons (ds_if (dt_cmp (op_eq_d hr.units) o2_eq (de_sub1 (de_var (i := 4)) de_int) de_str) (db_one (ds_ret (de_var (i := 4)))) db_nil)
  (db_cons (ds_if (dt_not (dt_val (de_call0 (ok_l_is T U) (hr.mono (by decide)) T.m_l_is T.F_l_is.kp T.b_l_is (da_cons (de_var (i := 0)) (da_cons (de_sub1 (de_var (i := 4)) de_int) (da_cons de_str (da_cons de_str da_nil))))))) (db_one (ds_ret (de_tup (da_cons de_str (da_cons (de_sub1 (de_var (i := 4)) de_int) da_nil))))) db_nil)
  (db_cons (ds_app (i := 2) (de_tup (da_cons (de_sub1 (de_sub1 (de_var (i := 0)) (de_plus (de_var (i := 1)) de_int)) de_int) (da_cons (de_sub1 (de_var (i := 4)) de_int) da_nil))))
  (db_one (ds_set (i := 1) sc_l_conditions_at.nd (de_plus (de_sub1 (de_var (i := 4)) de_int) de_int)))))))))))
  (db_one (ds_ret (de_tup (da_cons de_str (da_cons (de_var (i := 1)) da_nil)))))))
theorem ok_l_conditions_at (T : Tx K mg w) (U : Ts K P mg) : FnOk P w K mg base CX0 4 T.a_l_conditions_at T.d_l_conditions_at ["words", "at"] (spD K mg sp_l_conditions_at) :=
  fn_d T.F_l_conditions_at sc_l_conditions_at (fun _ _ _ h => len_l_conditions_at h) (by decide) W_l_conditions_at (fun _ _ _ _ _ _ _ hr _ => db_l_conditions_at T U hr) hw_l_conditions_at
theorem db_l_arguments_at (T : Tx K mg w) (U : Ts K P mg) {cdv : Value} {A : Around} {outer : List Env} {s : Shared} {H : Hp} {E : XK} {k : Cc} (hr : Room (3) (A.deeper (envOfC "_law_arguments_at" (defScope s_l_arguments_at) s.heap.objs.size T.a_l_arguments_at cdv))) :
    DB (cxOf CX0 P w K mg base ["words", "at", "found", "k", "value"] "_law_arguments_at" (defScope s_l_arguments_at) T.a_l_arguments_at cdv A outer s H E).nox k (defBody s_l_arguments_at) (W_l_arguments_at) :=
  (db_cons (ds_if (dt_not (dt_val (de_call0 (ok_l_is T U) (hr.mono (by decide)) T.m_l_is T.F_l_is.kp T.b_l_is (da_cons (de_var (i := 0)) (da_cons (de_var (i := 1)) (da_cons de_str (da_cons de_str da_nil))))))) (db_one (ds_ret (de_tup (da_cons de_str (da_cons (de_tup da_nil) (da_cons (de_var (i := 1)) da_nil)))))) db_nil)
  (db_cons (ds_newl (i := 2) sc_l_arguments_at.nd)
  (db_cons (ds_set (i := 1) sc_l_arguments_at.nd (de_plus (de_var (i := 1)) de_int))
  (db_cons (ds_for PassesOwn.never (di_range (de_len T.z_len (da_cons (de_var (i := 0)) da_nil)) rfl T.z_range) (dg_name (i := 3) sc_l_arguments_at.nd)
  (db_cons (ds_if (dt_w (dw_and (dt_truO (i := 2)) (dw_and1 (dt_val (de_call0 (ok_l_is T U) (hr.mono (by decide)) T.m_l_is T.F_l_is.kp T.b_l_is (da_cons (de_var (i := 0)) (da_cons (de_var (i := 1)) (da_cons de_str (da_cons de_str da_nil))))))))) (db_frzL (i := 2) (db_one (ds_ret (de_tup (da_cons de_str (da_cons (de_Ctuple T.z_tuple (da_cons (de_var (i := 2)) da_nil)) (da_cons (de_plus (de_var (i := 1)) de_int) da_nil))))))) db_nil)
  (db_cons (ds_if (dt_not (dt_val (de_call0 (ok_l_plain_at T U) (hr.mono (by decide)) T.m_l_plain_at T.F_l_plain_at.kp T.b_l_plain_at (da_cons (de_var (i := 0)) (da_cons (de_var (i := 1)) da_nil))))) (db_one (ds_ret (de_tup (da_cons de_str (da_cons (de_var (i := 1)) da_nil))))) db_nil)
  (db_cons (ds_if (dt_not (dt_val (de_call0 (ok_l_is T U) (hr.mono (by decide)) T.m_l_is T.F_l_is.kp T.b_l_is (da_cons (de_var (i := 0)) (da_cons (de_plus (de_var (i := 1)) de_int) (da_cons de_str (da_cons de_str da_nil))))))) (db_one (ds_ret (de_tup (da_cons de_str (da_cons (de_plus (de_var (i := 1)) de_int) da_nil))))) db_nil)
  (db_cons (ds_set (i := 4) sc_l_arguments_at.nd (de_call0 (ok_l_value_at T U) (hr.mono (by decide)) T.m_l_value_at T.F_l_value_at.kp T.b_l_value_at (da_cons (de_var (i := 0)) (da_cons (de_plus (de_var (i := 1)) de_int) da_nil))))
  (db_cons (ds_if (dt_cmp (op_eq_d hr.units) o2_eq (de_sub1 (de_var (i := 4)) de_int) de_str) (db_one (ds_ret (de_var (i := 4)))) db_nil)
  (db_cons (ds_app (i := 2) (de_tup (da_cons (de_sub1 (de_sub1 (de_var (i := 0)) (de_var (i := 1))) de_int) (da_cons (de_sub1 (de_var (i := 4)) de_int) da_nil))))
  (db_one (ds_set (i := 1) sc_l_arguments_at.nd (de_sub1 (de_var (i := 4)) de_int))))))))))
  (db_one (ds_ret (de_tup (da_cons de_str (da_cons (de_var (i := 1)) da_nil)))))))))
theorem ok_l_arguments_at (T : Tx K mg w) (U : Ts K P mg) : FnOk P w K mg base CX0 4 T.a_l_arguments_at T.d_l_arguments_at ["words", "at"] (spD K mg sp_l_arguments_at) :=
  fn_d T.F_l_arguments_at sc_l_arguments_at (fun _ _ _ h => len_l_arguments_at h) (by decide) W_l_arguments_at (fun _ _ _ _ _ _ _ hr _ => db_l_arguments_at T U hr) hw_l_arguments_at
theorem db_l_field_at (T : Tx K mg w) (U : Ts K P mg) {m : Nat} (G_l_selection_at : FnOk P w K mg base CX0 (3 * m + 5) T.a_l_selection_at T.d_l_selection_at ["words", "at", "depth"] (spD K mg (sp_l_selection_at m))) {cdv : Value} {A : Around} {outer : List Env} {s : Shared} {H : Hp} {E : XK} {k : Cc} (hr : Room (3 * m + 5) (A.deeper (envOfC "_law_field_at" (defScope s_l_field_at) s.heap.objs.size T.a_l_field_at cdv))) :
    DB (cxOf CX0 P w K mg base ["words", "at", "depth", "key", "name", "arguments", "conditions", "inner"] "_law_field_at" (defScope s_l_field_at) T.a_l_field_at cdv A outer s H E).nox k (defBody s_l_field_at) (W_l_field_at m) :=
  (db_cons (ds_if (dt_not (dt_val (de_call0 (ok_l_kind_at T U) (hr.mono (by omega)) T.m_l_kind_at T.F_l_kind_at.kp T.b_l_kind_at (da_cons (de_var (i := 0)) (da_cons (de_var (i := 1)) (da_cons de_str da_nil)))))) (db_one (ds_ret (de_tup (da_cons de_str (da_cons (de_var (i := 1)) da_nil))))) db_nil)
  (db_cons (ds_set (i := 3) sc_l_field_at.nd (de_sub1 (de_sub1 (de_var (i := 0)) (de_var (i := 1))) de_int))
  (db_cons (ds_set (i := 4) sc_l_field_at.nd (de_var (i := 3)))
  (db_cons (ds_set (i := 1) sc_l_field_at.nd (de_plus (de_var (i := 1)) de_int))
  (db_cons (ds_if (dt_val (de_call0 (ok_l_is T U) (hr.mono (by omega)) T.m_l_is T.F_l_is.kp T.b_l_is (da_cons (de_var (i := 0)) (da_cons (de_var (i := 1)) (da_cons de_str (da_cons de_str da_nil)))))) (db_cons (ds_if (dt_cmp (op_eq_d hr.units) o2_eq (de_var (i := 3)) de_str) (db_one (ds_ret (de_tup (da_cons de_str (da_cons (de_var (i := 1)) da_nil))))) db_nil)
  (db_cons (ds_if (dt_not (dt_val (de_call0 (ok_l_kind_at T U) (hr.mono (by omega)) T.m_l_kind_at T.F_l_kind_at.kp T.b_l_kind_at (da_cons (de_var (i := 0)) (da_cons (de_plus (de_var (i := 1)) de_int) (da_cons de_str da_nil)))))) (db_one (ds_ret (de_tup (da_cons de_str (da_cons (de_plus (de_var (i := 1)) de_int) da_nil))))) db_nil)
  (db_cons (ds_set (i := 4) sc_l_field_at.nd (de_sub1 (de_sub1 (de_var (i := 0)) (de_plus (de_var (i := 1)) de_int)) de_int))
  (db_one (ds_set (i := 1) sc_l_field_at.nd (de_plus (de_var (i := 1)) de_int)))))) db_nil)
  (db_cons (ds_set (i := 5) sc_l_field_at.nd (de_call0 (ok_l_arguments_at T U) (hr.mono (by omega)) T.m_l_arguments_at T.F_l_arguments_at.kp T.b_l_arguments_at (da_cons (de_var (i := 0)) (da_cons (de_var (i := 1)) da_nil))))
  (db_cons (ds_if (dt_cmp (op_eq_d hr.units) o2_eq (de_sub1 (de_var (i := 5)) de_int) de_str) (db_one (ds_ret (de_var (i := 5)))) db_nil)
  (db_cons (ds_set (i := 6) sc_l_field_at.nd (de_call0 (ok_l_conditions_at T U) (hr.mono (by omega)) T.m_l_conditions_at T.F_l_conditions_at.kp T.b_l_conditions_at (da_cons (de_var (i := 0)) (da_cons (de_sub1 (de_var (i := 5)) de_int) da_nil))))
  (db_cons (ds_if (dt_cmp (op_eq_d hr.units) o2_eq (de_sub1 (de_var (i := 6)) de_int) de_str) (db_one (ds_ret (de_var (i := 6)))) db_nil)
  (db_cons (ds_set (i := 7) sc_l_field_at.nd (de_tup (da_cons de_str (da_cons de_non (da_cons (de_sub1 (de_var (i := 6)) de_int) da_nil)))))
  (db_cons (ds_if (dt_val (de_call0 (ok_l_is T U) (hr.mono (by omega)) T.m_l_is T.F_l_is.kp T.b_l_is (da_cons (de_var (i := 0)) (da_cons (de_sub1 (de_var (i := 6)) de_int) (da_cons de_str (da_cons de_str da_nil)))))) (db_cons (ds_set (i := 7) sc_l_field_at.nd (de_call0 G_l_selection_at hr T.m_l_selection_at T.F_l_selection_at.kp T.b_l_selection_at (da_cons (de_var (i := 0)) (da_cons (de_sub1 (de_var (i := 6)) de_int) (da_cons (de_plus (de_var (i := 2)) de_int) da_nil)))))
  (db_one (ds_if (dt_cmp (op_eq_d hr.units) o2_eq (de_sub1 (de_var (i := 7)) de_int) de_str) (db_one (ds_ret (de_var (i := 7)))) db_nil))) db_nil)
  (db_one (ds_ret (de_tup (da_cons de_str (da_cons (de_tup (da_cons de_str (da_cons (de_var (i := 3)) (da_cons (de_var (i := 4)) (da_cons (de_sub1 (de_var (i := 5)) de_int) (da_cons (de_sub1 (de_var (i := 6)) de_int) (da_cons (de_sub1 (de_var (i := 7)) de_int) da_nil))))))) (da_cons (de_sub1 (de_var (i := 7)) de_int) da_nil)))))))))))))))))
theorem db_l_spread_at (T : Tx K mg w) (U : Ts K P mg) {m : Nat} (G_l_selection_at : FnOk P w K mg base CX0 (3 * m + 5) T.a_l_selection_at T.d_l_selection_at ["words", "at", "depth"] (spD K mg (sp_l_selection_at m))) {cdv : Value} {A : Around} {outer : List Env} {s : Shared} {H : Hp} {E : XK} {k : Cc} (hr : Room (3 * m + 5) (A.deeper (envOfC "_law_spread_at" (defScope s_l_spread_at) s.heap.objs.size T.a_l_spread_at cdv))) :
    DB (cxOf CX0 P w K mg base ["words", "at", "depth", "name", "conditions", "inner"] "_law_spread_at" (defScope s_l_spread_at) T.a_l_spread_at cdv A outer s H E).nox k (defBody s_l_spread_at) (W_l_spread_at m) :=
  (db_cons (ds_set (i := 3) sc_l_spread_at.nd de_non)
  (db_cons (ds_if (dt_val (de_call0 (ok_l_is T U) (hr.mono (by omega)) T.m_l_is T.F_l_is.kp T.b_l_is (da_cons (de_var (i := 0)) (da_cons (de_var (i := 1)) (da_cons de_str (da_cons de_str da_nil)))))) (db_cons (ds_if (dt_not (dt_val (de_call0 (ok_l_plain_at T U) (hr.mono (by omega)) T.m_l_plain_at T.F_l_plain_at.kp T.b_l_plain_at (da_cons (de_var (i := 0)) (da_cons (de_plus (de_var (i := 1)) de_int) da_nil))))) (db_one (ds_ret (de_tup (da_cons de_str (da_cons (de_plus (de_var (i := 1)) de_int) da_nil))))) db_nil)
  (db_cons (ds_set (i := 3) sc_l_spread_at.nd (de_sub1 (de_sub1 (de_var (i := 0)) (de_plus (de_var (i := 1)) de_int)) de_int))
  (db_one (ds_set (i := 1) sc_l_spread_at.nd (de_plus (de_var (i := 1)) de_int))))) (db_one (ds_if (dt_val (de_call0 (ok_l_kind_at T U) (hr.mono (by omega)) T.m_l_kind_at T.F_l_kind_at.kp T.b_l_kind_at (da_cons (de_var (i := 0)) (da_cons (de_var (i := 1)) (da_cons de_str da_nil))))) (db_cons (ds_if (dt_not (dt_val (de_call0 (ok_l_plain_at T U) (hr.mono (by omega)) T.m_l_plain_at T.F_l_plain_at.kp T.b_l_plain_at (da_cons (de_var (i := 0)) (da_cons (de_var (i := 1)) da_nil))))) (db_one (ds_ret (de_tup (da_cons de_str (da_cons (de_var (i := 1)) da_nil))))) db_nil)
  (db_cons (ds_set (i := 4) sc_l_spread_at.nd (de_call0 (ok_l_conditions_at T U) (hr.mono (by omega)) T.m_l_conditions_at T.F_l_conditions_at.kp T.b_l_conditions_at (da_cons (de_var (i := 0)) (da_cons (de_plus (de_var (i := 1)) de_int) da_nil))))
  (db_cons (ds_if (dt_cmp (op_eq_d hr.units) o2_eq (de_sub1 (de_var (i := 4)) de_int) de_str) (db_one (ds_ret (de_var (i := 4)))) db_nil)
  (db_one (ds_ret (de_tup (da_cons de_str (da_cons (de_tup (da_cons de_str (da_cons (de_sub1 (de_sub1 (de_var (i := 0)) (de_var (i := 1))) de_int) (da_cons (de_sub1 (de_var (i := 4)) de_int) da_nil)))) (da_cons (de_sub1 (de_var (i := 4)) de_int) da_nil))))))))) db_nil)))
  (db_cons (ds_set (i := 4) sc_l_spread_at.nd (de_call0 (ok_l_conditions_at T U) (hr.mono (by omega)) T.m_l_conditions_at T.F_l_conditions_at.kp T.b_l_conditions_at (da_cons (de_var (i := 0)) (da_cons (de_var (i := 1)) da_nil))))
  (db_cons (ds_if (dt_cmp (op_eq_d hr.units) o2_eq (de_sub1 (de_var (i := 4)) de_int) de_str) (db_one (ds_ret (de_var (i := 4)))) db_nil)
  (db_cons (ds_set (i := 5) sc_l_spread_at.nd (de_call0 G_l_selection_at hr T.m_l_selection_at T.F_l_selection_at.kp T.b_l_selection_at (da_cons (de_var (i := 0)) (da_cons (de_sub1 (de_var (i := 4)) de_int) (da_cons (de_plus (de_var (i := 2)) de_int) da_nil)))))
  (db_cons (ds_if (dt_cmp (op_eq_d hr.units) o2_eq (de_sub1 (de_var (i := 5)) de_int) de_str) (db_one (ds_ret (de_var (i := 5)))) db_nil)
  (db_one (ds_ret (de_tup (da_cons de_str (da_cons (de_tup (da_cons de_str (da_cons (de_var (i := 3)) (da_cons (de_sub1 (de_var (i := 4)) de_int) (da_cons (de_sub1 (de_var (i := 5)) de_int) da_nil))))) (da_cons (de_sub1 (de_var (i := 5)) de_int) da_nil))))))))))))
theorem db_l_selection_at (T : Tx K mg w) (U : Ts K P mg) {m : Nat} (G_l_field_at : FnOk P w K mg base CX0 (3 * m + 3) T.a_l_field_at T.d_l_field_at ["words", "at", "depth"] (spD K mg (sp_l_field_at m))) (G_l_spread_at : FnOk P w K mg base CX0 (3 * m + 3) T.a_l_spread_at T.d_l_spread_at ["words", "at", "depth"] (spD K mg (sp_l_spread_at m))) {cdv : Value} {A : Around} {outer : List Env} {s : Shared} {H : Hp} {E : XK} {k : Cc} (hr : Room (3 * m + 3) (A.deeper (envOfC "_law_selection_at" (defScope s_l_selection_at) s.heap.objs.size T.a_l_selection_at cdv))) :
    DB (cxOf CX0 P w K mg base ["words", "at", "depth", "parts", "k", "part"] "_law_selection_at" (defScope s_l_selection_at) T.a_l_selection_at cdv A outer s H E).nox k (defBody s_l_selection_at) (W_l_selection_at m) :=
  (db_cons (ds_if (dt_w (dw_or (dt_not (dt_val (de_call0 (ok_l_is T U) (hr.mono (by omega)) T.m_l_is T.F_l_is.kp T.b_l_is (da_cons (de_var (i := 0)) (da_cons (de_var (i := 1)) (da_cons de_str (da_cons de_str da_nil))))))) (dw_or1 (dt_cmp op_gt o2_gt (de_var (i := 2)) de_int)))) (db_one (ds_ret (de_tup (da_cons de_str (da_cons (de_var (i := 1)) da_nil))))) db_nil)
  (db_cons (ds_set (i := 1) sc_l_selection_at.nd (de_plus (de_var (i := 1)) de_int))
  (db_cons (ds_newl (i := 3) sc_l_selection_at.nd)
  (db_cons (ds_for PassesOwn.never (di_range (de_len T.z_len (da_cons (de_var (i := 0)) da_nil)) rfl T.z_range) (dg_name (i := 4) sc_l_selection_at.nd)
  (db_cons (ds_if (dt_w (dw_and (dt_truO (i := 3)) (dw_and1 (dt_val (de_call0 (ok_l_is T U) (hr.mono (by omega)) T.m_l_is T.F_l_is.kp T.b_l_is (da_cons (de_var (i := 0)) (da_cons (de_var (i := 1)) (da_cons de_str (da_cons de_str da_nil))))))))) (db_frzL (i := 3) (db_one (ds_ret (de_tup (da_cons de_str (da_cons (de_Ctuple T.z_tuple (da_cons (de_var (i := 3)) da_nil)) (da_cons (de_plus (de_var (i := 1)) de_int) da_nil))))))) db_nil)
  (db_cons (ds_if (dt_val (de_call0 (ok_l_is T U) (hr.mono (by omega)) T.m_l_is T.F_l_is.kp T.b_l_is (da_cons (de_var (i := 0)) (da_cons (de_var (i := 1)) (da_cons de_str (da_cons de_str da_nil)))))) (db_one (ds_set (i := 5) sc_l_selection_at.nd (de_call0 G_l_spread_at hr T.m_l_spread_at T.F_l_spread_at.kp T.b_l_spread_at (da_cons (de_var (i := 0)) (da_cons (de_plus (de_var (i := 1)) de_int) (da_cons (de_var (i := 2)) da_nil)))))) (db_one (ds_set (i := 5) sc_l_selection_at.nd (de_call0 G_l_field_at hr T.m_l_field_at T.F_l_field_at.kp T.b_l_field_at (da_cons (de_var (i := 0)) (da_cons (de_var (i := 1)) (da_cons (de_var (i := 2)) da_nil)))))))
  (db_cons (ds_if (dt_cmp (op_eq_d hr.units) o2_eq (de_sub1 (de_var (i := 5)) de_int) de_str) (db_one (ds_ret (de_var (i := 5)))) db_nil)
  (db_cons (ds_app (i := 3) (de_sub1 (de_var (i := 5)) de_int))
  (db_one (ds_set (i := 1) sc_l_selection_at.nd (de_sub1 (de_var (i := 5)) de_int))))))))
  (db_one (ds_ret (de_tup (da_cons de_str (da_cons (de_var (i := 1)) da_nil)))))))))
theorem rec_lsel (T : Tx K mg w) (U : Ts K P mg) : ∀ m : Nat, m ≤ 10 → FnOk P w K mg base CX0 (3 * m + 4) T.a_l_selection_at T.d_l_selection_at ["words", "at", "depth"] (spD K mg (sp_l_selection_at m))
  | 0, _ => fn_d T.F_l_selection_at sc_l_selection_at (fun _ _ _ h => len_l_selection_at h) (by decide) (W_l_selection_at 0) (fun _ _ _ _ _ _ _ hr _ => db_l_selection_at T U (none_left (sp := sp_l_field_at 0) fun _ _ _ h => h) (none_left (sp := sp_l_spread_at 0) fun _ _ _ h => h) hr) hw_l_selection_at
  | m + 1, hm => by
    have ih := rec_lsel T U m (by omega)
    have gf : FnOk P w K mg base CX0 (3 * (m + 1) + 3) T.a_l_field_at T.d_l_field_at ["words", "at", "depth"] (spD K mg (sp_l_field_at (m + 1))) := fn_d T.F_l_field_at sc_l_field_at (fun _ _ _ h => len_l_field_at h) (by decide) (W_l_field_at m) (fun _ _ _ _ _ _ _ hr _ => db_l_field_at T U (ih.mono (by omega)) hr) (hw_l_field_at (show m ≤ 10 by omega))
    have gs : FnOk P w K mg base CX0 (3 * (m + 1) + 3) T.a_l_spread_at T.d_l_spread_at ["words", "at", "depth"] (spD K mg (sp_l_spread_at (m + 1))) := fn_d T.F_l_spread_at sc_l_spread_at (fun _ _ _ h => len_l_spread_at h) (by decide) (W_l_spread_at m) (fun _ _ _ _ _ _ _ hr _ => db_l_spread_at T U (ih.mono (by omega)) hr) (hw_l_spread_at (show m ≤ 10 by omega))
    exact fn_d T.F_l_selection_at sc_l_selection_at (fun _ _ _ h => len_l_selection_at h) (by decide) (W_l_selection_at (m + 1)) (fun _ _ _ _ _ _ _ hr _ => db_l_selection_at T U gf gs hr) hw_l_selection_at
theorem ok_l_selection_at (T : Tx K mg w) (U : Ts K P mg) (m : Nat) (hm : m ≤ 10 := by decide) : FnOk P w K mg base CX0 (3 * m + 4) T.a_l_selection_at T.d_l_selection_at ["words", "at", "depth"] (spD K mg (sp_l_selection_at m)) := rec_lsel T U m hm
theorem db_l_fragment_at (T : Tx K mg w) (U : Ts K P mg) {cdv : Value} {A : Around} {outer : List Env} {s : Shared} {H : Hp} {E : XK} {k : Cc} (hr : Room (59) (A.deeper (envOfC "_law_fragment_at" (defScope s_l_fragment_at) s.heap.objs.size T.a_l_fragment_at cdv))) :
    DB (cxOf CX0 P w K mg base ["words", "at", "count", "inner"] "_law_fragment_at" (defScope s_l_fragment_at) T.a_l_fragment_at cdv A outer s H E).nox k (defBody s_l_fragment_at) (W_l_fragment_at) :=
  (db_cons (ds_if (dt_w (dw_or (dt_not (dt_val (de_call0 (ok_l_is T U) (hr.mono (by decide)) T.m_l_is T.F_l_is.kp T.b_l_is (da_cons (de_var (i := 0)) (da_cons (de_var (i := 1)) (da_cons de_str (da_cons de_str da_nil))))))) (dw_or1 (dt_cmp (op_eq_d hr.units) o2_eq (de_var (i := 2)) de_int)))) (db_one (ds_ret (de_tup (da_cons de_str (da_cons (de_var (i := 1)) da_nil))))) db_nil)
  (db_cons (ds_if (dt_w (dw_or (dt_not (dt_val (de_call0 (ok_l_plain_at T U) (hr.mono (by decide)) T.m_l_plain_at T.F_l_plain_at.kp T.b_l_plain_at (da_cons (de_var (i := 0)) (da_cons (de_plus (de_var (i := 1)) de_int) da_nil))))) (dw_or1 (dt_cmp (op_eq_d hr.units) o2_eq (de_sub1 (de_sub1 (de_var (i := 0)) (de_plus (de_var (i := 1)) de_int)) de_int) de_str)))) (db_one (ds_ret (de_tup (da_cons de_str (da_cons (de_plus (de_var (i := 1)) de_int) da_nil))))) db_nil)
  (db_cons (ds_if (dt_not (dt_val (de_call0 (ok_l_is T U) (hr.mono (by decide)) T.m_l_is T.F_l_is.kp T.b_l_is (da_cons (de_var (i := 0)) (da_cons (de_plus (de_var (i := 1)) de_int) (da_cons de_str (da_cons de_str da_nil))))))) (db_one (ds_ret (de_tup (da_cons de_str (da_cons (de_plus (de_var (i := 1)) de_int) da_nil))))) db_nil)
  (db_cons (ds_if (dt_not (dt_val (de_call0 (ok_l_plain_at T U) (hr.mono (by decide)) T.m_l_plain_at T.F_l_plain_at.kp T.b_l_plain_at (da_cons (de_var (i := 0)) (da_cons (de_plus (de_var (i := 1)) de_int) da_nil))))) (db_one (ds_ret (de_tup (da_cons de_str (da_cons (de_plus (de_var (i := 1)) de_int) da_nil))))) db_nil)
  (db_cons (ds_set (i := 3) sc_l_fragment_at.nd (de_call0 (ok_l_selection_at T U 10) (hr.mono (by decide)) T.m_l_selection_at T.F_l_selection_at.kp T.b_l_selection_at (da_cons (de_var (i := 0)) (da_cons (de_plus (de_var (i := 1)) de_int) (da_cons de_int da_nil)))))
  (db_cons (ds_if (dt_cmp (op_eq_d hr.units) o2_eq (de_sub1 (de_var (i := 3)) de_int) de_str) (db_one (ds_ret (de_var (i := 3)))) db_nil)
  (db_one (ds_ret (de_tup (da_cons de_str (da_cons (de_tup (da_cons (de_sub1 (de_sub1 (de_var (i := 0)) (de_plus (de_var (i := 1)) de_int)) de_int) (da_cons (de_sub1 (de_sub1 (de_var (i := 0)) (de_plus (de_var (i := 1)) de_int)) de_int) (da_cons (de_sub1 (de_var (i := 3)) de_int) da_nil)))) (da_cons (de_sub1 (de_var (i := 3)) de_int) da_nil))))))))))))
theorem ok_l_fragment_at (T : Tx K mg w) (U : Ts K P mg) : FnOk P w K mg base CX0 60 T.a_l_fragment_at T.d_l_fragment_at ["words", "at", "count"] (spD K mg sp_l_fragment_at) :=
  fn_d T.F_l_fragment_at sc_l_fragment_at (fun _ _ _ h => len_l_fragment_at h) (by decide) W_l_fragment_at (fun _ _ _ _ _ _ _ hr _ => db_l_fragment_at T U hr) hw_l_fragment_at
theorem db_l_document_at (T : Tx K mg w) (U : Ts K P mg) {cdv : Value} {A : Around} {outer : List Env} {s : Shared} {H : Hp} {E : XK} {k : Cc} (hr : Room (60) (A.deeper (envOfC "_law_document_at" (defScope s_l_document_at) s.heap.objs.size T.a_l_document_at cdv))) :
    DB (cxOf CX0 P w K mg base ["words", "declared", "selection", "fragments", "at", "k", "found"] "_law_document_at" (defScope s_l_document_at) T.a_l_document_at cdv A outer s H E).nox k (defBody s_l_document_at) (W_l_document_at) :=
  (db_cons (ds_if (dt_not (dt_val (de_call0 (ok_l_is T U) (hr.mono (by decide)) T.m_l_is T.F_l_is.kp T.b_l_is (da_cons (de_var (i := 0)) (da_cons de_int (da_cons de_str (da_cons de_str da_nil))))))) (db_one (ds_ret (de_tup (da_cons de_str (da_cons de_int da_nil))))) db_nil)
  (db_cons (ds_set (i := 1) sc_l_document_at.nd (de_call0 (ok_l_declared T U) (hr.mono (by decide)) T.m_l_declared T.F_l_declared.kp T.b_l_declared (da_cons (de_var (i := 0)) (da_cons de_int da_nil))))
  (db_cons (ds_if (dt_cmp (op_eq_d hr.units) o2_eq (de_sub1 (de_var (i := 1)) de_int) de_str) (db_one (ds_ret (de_var (i := 1)))) db_nil)
  (db_cons (ds_set (i := 2) sc_l_document_at.nd (de_call0 (ok_l_selection_at T U 10) (hr.mono (by decide)) T.m_l_selection_at T.F_l_selection_at.kp T.b_l_selection_at (da_cons (de_var (i := 0)) (da_cons (de_sub1 (de_var (i := 1)) de_int) (da_cons de_int da_nil)))))
  (db_cons (ds_if (dt_cmp (op_eq_d hr.units) o2_eq (de_sub1 (de_var (i := 2)) de_int) de_str) (db_one (ds_ret (de_var (i := 2)))) db_nil)
  (db_cons (ds_newl (i := 3) sc_l_document_at.nd)
  (db_cons (ds_set (i := 4) sc_l_document_at.nd (de_sub1 (de_var (i := 2)) de_int))
  (db_cons (ds_for PassesOwn.never (di_range (de_len T.z_len (da_cons (de_var (i := 0)) da_nil)) rfl T.z_range) (dg_name (i := 5) sc_l_document_at.nd)
  (db_one (ds_if (dt_cmp op_lt o2_lt (de_var (i := 4)) (de_len T.z_len (da_cons (de_var (i := 0)) da_nil))) (db_cons (ds_set (i := 6) sc_l_document_at.nd (de_call0 (ok_l_fragment_at T U) (hr.mono (by decide)) T.m_l_fragment_at T.F_l_fragment_at.kp T.b_l_fragment_at (da_cons (de_var (i := 0)) (da_cons (de_var (i := 4)) (da_cons (de_lenO (i := 3) T.z_len) da_nil)))))
  (db_cons (ds_if (dt_cmp (op_eq_d hr.units) o2_eq (de_sub1 (de_var (i := 6)) de_int) de_str) (db_one (ds_ret (de_var (i := 6)))) db_nil)
  (db_cons (ds_app (i := 3) (de_sub1 (de_var (i := 6)) de_int))
  (db_one (ds_set (i := 4) sc_l_document_at.nd (de_sub1 (de_var (i := 6)) de_int)))))) db_nil)))
  (db_frzL (i := 3) (db_one (ds_ret (de_tup (da_cons de_str (da_cons (de_tup (da_cons (de_sub1 (de_var (i := 1)) de_int) (da_cons (de_sub1 (de_var (i := 2)) de_int) (da_cons (de_Ctuple T.z_tuple (da_cons (de_var (i := 3)) da_nil)) da_nil)))) (da_cons (de_var (i := 4)) da_nil)))))))))))))))
theorem ok_l_document_at (T : Tx K mg w) (U : Ts K P mg) : FnOk P w K mg base CX0 61 T.a_l_document_at T.d_l_document_at ["words"] (spD K mg sp_l_document_at) :=
  fn_d T.F_l_document_at sc_l_document_at (fun _ _ _ h => len_l_document_at h) (by decide) W_l_document_at (fun _ _ _ _ _ _ _ hr _ => db_l_document_at T U hr) hw_l_document_at
theorem db_l_expected (T : Tx K mg w) (U : Ts K P mg) {cdv : Value} {A : Around} {outer : List Env} {s : Shared} {H : Hp} {E : XK} {k : Cc} (hr : Room (61) (A.deeper (envOfC "_law_expected" (defScope s_l_expected) s.heap.objs.size T.a_l_expected cdv))) :
    DB (cxOf CX0 P w K mg base ["text", "words", "found", "place"] "_law_expected" (defScope s_l_expected) T.a_l_expected cdv A outer s H E).nox k (defBody s_l_expected) (W_l_expected) :=
  (db_cons (ds_set (i := 1) sc_l_expected.nd (de_call0 (ok_l_split T U) (hr.mono (by decide)) T.m_l_split T.F_l_split.kp T.b_l_split (da_cons (de_var (i := 0)) da_nil)))
  (db_cons (ds_if (dt_cmp (op_eq_d hr.units) o2_eq (de_sub1 (de_var (i := 1)) de_int) de_str) (db_one (ds_ret (de_var (i := 1)))) db_nil)
  (db_cons (ds_set (i := 2) sc_l_expected.nd (de_call0 (ok_l_document_at T U) (hr.mono (by decide)) T.m_l_document_at T.F_l_document_at.kp T.b_l_document_at (da_cons (de_sub1 (de_var (i := 1)) de_int) da_nil)))
  (db_cons (ds_if (dt_cmp (op_eq_d hr.units) o2_eq (de_sub1 (de_var (i := 2)) de_int) de_str) (db_one (ds_ret (de_tup (da_cons de_str (da_cons (de_sub1 (de_var (i := 2)) de_int) da_nil))))) db_nil)
  (db_cons (ds_set (i := 3) sc_l_expected.nd (de_len T.z_len (da_cons (de_var (i := 0)) da_nil)))
  (db_cons (ds_if (dt_cmp op_lt o2_lt (de_sub1 (de_var (i := 2)) de_int) (de_len T.z_len (da_cons (de_sub1 (de_var (i := 1)) de_int) da_nil))) (db_one (ds_set (i := 3) sc_l_expected.nd (de_sub1 (de_sub1 (de_sub1 (de_var (i := 1)) de_int) (de_sub1 (de_var (i := 2)) de_int)) de_int))) db_nil)
  (db_one (ds_ret (de_tup (da_cons de_str (da_cons (de_var (i := 3)) da_nil)))))))))))
theorem ok_l_expected (T : Tx K mg w) (U : Ts K P mg) : FnOk P w K mg base CX0 62 T.a_l_expected T.d_l_expected ["text"] (spD K mg sp_l_expected) :=
  fn_d T.F_l_expected sc_l_expected (fun _ _ _ h => len_l_expected h) (by decide) W_l_expected (fun _ _ _ _ _ _ _ hr _ => db_l_expected T U hr) hw_l_expected
theorem ok_l_told (T : Tx K mg w) (U : Ts K P mg) : FnOk P w K mg base CX0 54 T.a_l_told T.d_l_told ["text"] (spD K mg sp7_l_told) := by
  refine fn_d T.F_l_told sc_l_told (fun _ _ _ h => len_l_told h) (by decide) W7_l_told (fun cdv A outer s H E k hr _ => ?_) hw7_l_told
  refine db_one (ds_tryN (i := 2) (x := "InvalidDocument") (n := "e") sc_l_told.nd U.fx.g U.ex (fun pn xe => dxbn_set (i := 1) sc_l_told.nd (dxen_call (ok_parse_document T U) (hr.mono (by decide)) T.m_parse_document T.F_parse_document.kp T.b_parse_document (da_cons (de_var (i := 0)) da_nil)) (db_one (ds_ret (de_tup (da_cons de_str (da_cons (de_tup (da_cons (de_fld T.g_Document T.cl_Document T.n_Document_variables (de_var (i := 1))) (da_cons (de_fld T.g_Document T.cl_Document T.n_Document_selection (de_var (i := 1))) (da_cons (de_fld T.g_Document T.cl_Document T.n_Document_fragments (de_var (i := 1))) da_nil)))) da_nil)))))) (fun a od oe pn hz hv => ?_))
  exact db_one (ds_ret (de_tup (da_cons de_str (da_cons (de_xf (i := 2) U.xf U.hno hz.zc hv) da_nil))))
theorem db_l_start (T : Tx K mg w) (U : Ts K P mg) {cdv : Value} {A : Around} {outer : List Env} {s : Shared} {H : Hp} {E : XK} {k : Cc} (hr : Room (2) (A.deeper (envOfC "_law_start" (defScope s_l_start) s.heap.objs.size T.a_l_start cdv))) :
    DB (cxOf CX0 P w K mg base ["state", "script", "texts", "kind", "depth"] "_law_start" (defScope s_l_start) T.a_l_start cdv A outer s H E).nox k (defBody s_l_start) (W_l_start) :=
  (db_cons (ds_set (i := 2) sc_l_start.nd (de_lst (da_cons de_str (da_cons de_str (da_cons de_str (da_cons de_str (da_cons de_str (da_cons de_str (da_cons de_str (da_cons de_str (da_cons de_str (da_cons de_str (da_cons de_str (da_cons de_str (da_cons de_str (da_cons de_str (da_cons de_str (da_cons de_str (da_cons de_str (da_cons de_str (da_cons de_str (da_cons de_str (da_cons de_str (da_cons de_str (da_cons de_str (da_cons de_str (da_cons de_str (da_cons de_str (da_cons de_str (da_cons de_str (da_cons de_str (da_cons de_str (da_cons de_str (da_cons de_str (da_cons de_str (da_cons de_str (da_cons de_str (da_cons de_str (da_cons de_str (da_cons de_str (da_cons de_str (da_cons de_str (da_cons de_str (da_cons de_str (da_cons de_str (da_cons de_str (da_cons de_str (da_cons de_str (da_cons de_str da_nil)))))))))))))))))))))))))))))))))))))))))))))))))
  (db_cons (ds_set (i := 3) sc_l_start.nd (de_call0 (ok_l_draw T U) (hr.mono (by decide)) T.m_l_draw T.F_l_draw.kp T.b_l_draw (da_cons (de_var (i := 0)) (da_cons (de_var (i := 1)) (da_cons de_int da_nil)))))
  (db_cons (ds_if (dt_cmp (op_eq_d hr.units) o2_eq (de_var (i := 3)) de_int) (db_one (ds_ret (de_plus (de_lst (da_cons de_str (da_cons de_str (da_cons de_str (da_cons de_str (da_cons de_str (da_cons de_str (da_cons de_str (da_cons de_str (da_cons de_str (da_cons de_str (da_cons de_str (da_cons de_str (da_cons de_str (da_cons de_str (da_cons de_str (da_cons de_str (da_cons de_str da_nil)))))))))))))))))) (de_slc (de_var (i := 2)) (do_some de_int) do_no)))) db_nil)
  (db_cons (ds_if (dt_cmp (op_eq_d hr.units) o2_eq (de_var (i := 3)) de_int) (db_cons (ds_set (i := 4) sc_l_start.nd (de_plus de_int (de_call0 (ok_l_draw T U) (hr.mono (by decide)) T.m_l_draw T.F_l_draw.kp T.b_l_draw (da_cons (de_var (i := 0)) (da_cons (de_var (i := 1)) (da_cons de_int da_nil))))))
  (db_one (ds_ret (de_plus (de_plus (de_lst (da_cons de_str da_nil)) (de_repL (de_lst (da_cons de_str (da_cons de_str da_nil))) (de_var (i := 4)))) (de_repL (de_lst (da_cons de_str da_nil)) (de_var (i := 4))))))) db_nil)
  (db_cons (ds_if (dt_cmp (op_eq_d hr.units) o2_eq (de_var (i := 3)) de_int) (db_one (ds_ret (de_plus (de_var (i := 2)) (de_repL (de_lst (da_cons de_str (da_cons de_str (da_cons de_str (da_cons de_str (da_cons de_str (da_cons de_str (da_cons de_str da_nil)))))))) (de_plus de_int (de_call0 (ok_l_draw T U) (hr.mono (by decide)) T.m_l_draw T.F_l_draw.kp T.b_l_draw (da_cons (de_var (i := 0)) (da_cons (de_var (i := 1)) (da_cons de_int da_nil))))))))) db_nil)
  (db_one (ds_ret (de_var (i := 2)))))))))
theorem ok_l_start (T : Tx K mg w) (U : Ts K P mg) : FnOk P w K mg base CX0 3 T.a_l_start T.d_l_start ["state", "script"] (spD K mg sp_l_start) :=
  fn_d T.F_l_start sc_l_start (fun _ _ _ h => len_l_start h) (by decide) W_l_start (fun _ _ _ _ _ _ _ hr _ => db_l_start T U hr) hw_l_start
theorem db_law (T : Tx K mg w) (U : Ts K P mg) {cdv : Value} {A : Around} {outer : List Env} {s : Shared} {H : Hp} {E : XK} {k : Cc} (hr : Room (69) (A.deeper (envOfC "law" (defScope s_law) s.heap.objs.size T.a_law cdv))) :
    DB (cxOf CX0 P w K mg base ["script", "state", "pieces", "new", "k", "at", "kind", "word", "text"] "law" (defScope s_law) T.a_law cdv A outer s H E).nox k ((defBody s_law).drop 1) (W7_law) :=
  (db_cons (ds_set (i := 2) sc_law.nd (de_call0 (ok_l_start T U) (hr.mono (by decide)) T.m_l_start T.F_l_start.kp T.b_l_start (da_cons (de_var (i := 1)) (da_cons (de_var (i := 0)) da_nil))))
  (db_cons (ds_set (i := 3) sc_law.nd (de_lst (da_cons de_str (da_cons de_str (da_cons de_str (da_cons de_str (da_cons de_str (da_cons de_str (da_cons de_str (da_cons de_str (da_cons de_str (da_cons de_str (da_cons de_str (da_cons de_str (da_cons de_str (da_cons de_str (da_cons de_str (da_cons de_str (da_cons de_str (da_cons de_str (da_cons de_str (da_cons de_str (da_cons de_str (da_cons de_str (da_cons de_str (da_cons de_str da_nil))))))))))))))))))))))))))
  (db_cons (ds_for PassesOwn.never (di_range (de_call0 (ok_l_draw T U) (hr.mono (by decide)) T.m_l_draw T.F_l_draw.kp T.b_l_draw (da_cons (de_var (i := 1)) (da_cons (de_var (i := 0)) (da_cons de_int da_nil)))) rfl T.z_range) (dg_name (i := 4) sc_law.nd)
  (db_cons (ds_set (i := 5) sc_law.nd (de_call0 (ok_l_draw T U) (hr.mono (by decide)) T.m_l_draw T.F_l_draw.kp T.b_l_draw (da_cons (de_var (i := 1)) (da_cons (de_var (i := 0)) (da_cons (de_len T.z_len (da_cons (de_var (i := 2)) da_nil)) da_nil)))))
  (db_cons (ds_set (i := 6) sc_law.nd (de_call0 (ok_l_draw T U) (hr.mono (by decide)) T.m_l_draw T.F_l_draw.kp T.b_l_draw (da_cons (de_var (i := 1)) (da_cons (de_var (i := 0)) (da_cons de_int da_nil)))))
  (db_cons (ds_set (i := 7) sc_law.nd (de_sub1 (de_var (i := 3)) (de_call0 (ok_l_draw T U) (hr.mono (by decide)) T.m_l_draw T.F_l_draw.kp T.b_l_draw (da_cons (de_var (i := 1)) (da_cons (de_var (i := 0)) (da_cons de_int da_nil))))))
  (db_one (ds_if (dt_w (dw_and (dt_cmp (op_eq_d hr.units) o2_eq (de_var (i := 6)) de_int) (dw_and1 (dt_cmp op_gt o2_gt (de_len T.z_len (da_cons (de_var (i := 2)) da_nil)) de_int)))) (db_one (ds_set (i := 2) sc_law.nd (de_plus (de_slc (de_var (i := 2)) do_no (do_some (de_var (i := 5)))) (de_slc (de_var (i := 2)) (do_some (de_plus (de_var (i := 5)) de_int)) do_no)))) (db_one (ds_if (dt_cmp (op_eq_d hr.units) o2_eq (de_var (i := 6)) de_int) (db_one (ds_set (i := 2) sc_law.nd (de_plus (de_plus (de_slc (de_var (i := 2)) do_no (do_some (de_var (i := 5)))) (de_lst (da_cons (de_var (i := 7)) da_nil))) (de_slc (de_var (i := 2)) (do_some (de_var (i := 5))) do_no)))) (db_one (ds_if (dt_cmp (op_eq_d hr.units) o2_eq (de_var (i := 6)) de_int) (db_one (ds_set (i := 2) sc_law.nd (de_plus (de_plus (de_slc (de_var (i := 2)) do_no (do_some (de_var (i := 5)))) (de_lst (da_cons (de_var (i := 7)) da_nil))) (de_slc (de_var (i := 2)) (do_some (de_plus (de_var (i := 5)) de_int)) do_no)))) (db_one (ds_set (i := 2) sc_law.nd (de_slc (de_var (i := 2)) do_no (do_some (de_plus (de_var (i := 5)) de_int)))))))))))))))
  (db_cons (ds_set (i := 8) sc_law.nd (de_plus (de_m1 PySem.F.slot_str_join PySem.F.type_str_join mt_join om_join de_str (de_var (i := 2))) (de_sub1 (de_lst (da_cons de_str (da_cons de_str (da_cons de_str da_nil)))) (de_call0 (ok_l_draw T U) (hr.mono (by decide)) T.m_l_draw T.F_l_draw.kp T.b_l_draw (da_cons (de_var (i := 1)) (da_cons (de_var (i := 0)) (da_cons de_int da_nil)))))))
  (db_one (ds_ret (de_cmp (op_eq_d hr.units) o2_eq (de_call0 (ok_l_told T U) (hr.mono (by decide)) T.m_l_told T.F_l_told.kp T.b_l_told (da_cons (de_var (i := 8)) da_nil)) (de_call0 (ok_l_expected T U) (hr.mono (by decide)) T.m_l_expected T.F_l_expected.kp T.b_l_expected (da_cons (de_var (i := 8)) da_nil)))))))))
def spLaw (K : PySem.W.Frag) : Sp := fun vs H Q _ => ∃ (a : Addr) (ns : List Int), vs = [.ref a] ∧ SqL K H a (ns.map V.int) ∧ ns.length ≤ 63 ∧ ∀ H', Q (.bl true) H'
theorem ok_law (T : Tx K mg w) (U : Ts K P mg) : FnOk P w K mg base CX0 70 T.a_law T.d_law ["script"] (spLaw K) :=
  fn_law T.F_law sc_law W7_law (st1 := (defBody s_law).getD 0 (.Pass ⟨0, 0, 0, 0⟩)) (rest := (defBody s_law).drop 1) (by rfl) (by decide)
    (fun _ _ _ _ _ _ => ps_set (i := 1) sc_law.nd rfl (by first | exact Or.inl rfl | exact Or.inr rfl) (pe_lst (pa_cons pe_int (pa_cons pe_int pa_nil)))) (fun _ _ _ _ _ _ _ hr => db_law T U hr) hw7_law
end
end K5
set_option Elab.async false
set_option linter.all false
set_option maxRecDepth 100000
set_option maxHeartbeats 4000000
namespace K5
open PySem PySem.Spec PyProof.Rows L2 Dl
/-! ### a table of the module with three texts -/
theorem ktab3 {K : PySem.W.Frag} {w : World} {mg : Str → Option Value} {d p1 p2 p3 : Addr} {h1 h2 h3 : Int} {t1 t2 t3 s1 s2 s3 : Tok} {n m1 m2 m3 : Nat} {o1 o2 o3 : Option Addr} {sl1 sl2 sl3 : Array (Option Value)}
    (kl : K.lookup d = some ⟨.type "dict", none, .dict #[⟨h1, .str "true" t1, .ref p1⟩, ⟨h2, .str "false" t2, .ref p2⟩, ⟨h3, .str "null" t3, .ref p3⟩] n, #[]⟩)
    (e1 : h1 = PyData.keyHash w.params "true") (e2 : h2 = PyData.keyHash w.params "false") (e3 : h3 = PyData.keyHash w.params "null") (low : (d == sysModules) = false)
    (l1 : K.lookup p1 = some ⟨.type "tuple", o1, .seq #[.str "truth" s1, .bool true] m1, sl1⟩) (l2 : K.lookup p2 = some ⟨.type "tuple", o2, .seq #[.str "truth" s2, .bool false] m2, sl2⟩) (l3 : K.lookup p3 = some ⟨.type "tuple", o3, .seq #[.str "null" s3] m3, sl3⟩) :
    KDict K w d #[⟨h1, .str "true" t1, .ref p1⟩, ⟨h2, .str "false" t2, .ref p2⟩, ⟨h3, .str "null" t3, .ref p3⟩] n ∧ KTab K w mg d constT := by
  have D : KDict K w d #[⟨h1, .str "true" t1, .ref p1⟩, ⟨h2, .str "false" t2, .ref p2⟩, ⟨h3, .str "null" t3, .ref p3⟩] n := ⟨kl, ⟨⟨_, _, rfl, e1⟩, ⟨_, _, rfl, e2⟩, ⟨_, _, rfl, e3⟩, trivial⟩, low⟩
  have key : ∀ z : Str, PySem.W.nsIn K d z = some (if (("true" : Str) == z) = true then some (.ref p1) else if (("false" : Str) == z) = true then some (.ref p2) else if (("null" : Str) == z) = true then some (.ref p3) else none) := by
    intro z
    unfold PySem.W.nsIn
    rw [kl]
    simp only [List.find?_cons, List.find?_nil, Value.isStr]
    cases q1 : (("true" : Str) == z) with
    | true => rfl
    | false =>
      cases q2 : (("false" : Str) == z) with
      | true => rfl
      | false =>
        cases q3 : (("null" : Str) == z) with
        | true => rfl
        | false => rfl
  refine ⟨D, ⟨⟨_, _, D⟩, ?_, ?_⟩⟩
  · intro z v hv
    rw [key z]
    unfold constT at hv
    simp only [List.lookup] at hv
    cases q1 : (z == ("true" : Str)) with
    | true =>
      have e := beq_iff_eq.mp q1
      subst e
      rw [q1] at hv
      cases hv
      refine ⟨.ref p1, .ref p1, rfl, rfl, fun s Z => .tup (xs := [.str "truth", .bl true]) (.inr ⟨_, _, _, l1, rfl, rfl, (by show 2 ≤ sizeLine; decide), .cons ⟨_, rfl⟩ (.cons rfl .nil)⟩) (.cons (.str _) (.cons (.bl _) .nil))⟩
    | false =>
      rw [q1] at hv
      cases q2 : (z == ("false" : Str)) with
      | true =>
        have e := beq_iff_eq.mp q2
        subst e
        rw [q2] at hv
        cases hv
        refine ⟨.ref p2, .ref p2, rfl, rfl, fun s Z => .tup (xs := [.str "truth", .bl false]) (.inr ⟨_, _, _, l2, rfl, rfl, (by show 2 ≤ sizeLine; decide), .cons ⟨_, rfl⟩ (.cons rfl .nil)⟩) (.cons (.str _) (.cons (.bl _) .nil))⟩
      | false =>
        rw [q2] at hv
        cases q3 : (z == ("null" : Str)) with
        | true =>
          have e := beq_iff_eq.mp q3
          subst e
          rw [q3] at hv
          cases hv
          refine ⟨.ref p3, .ref p3, rfl, rfl, fun s Z => .tup (xs := [.str "null"]) (.inr ⟨_, _, _, l3, rfl, rfl, (by show 1 ≤ sizeLine; decide), .cons ⟨_, rfl⟩ .nil⟩) (.cons (.str _) .nil)⟩
        | false => rw [q3] at hv; cases hv
  · intro z hz
    rw [key z]
    unfold constT at hz
    simp only [List.lookup] at hz
    have c : ∀ a b : Str, (a == b) = (b == a) := fun a b => by
      by_cases h : a = b
      · subst h; rfl
      · rw [beq_eq_false_iff_ne.mpr h, beq_eq_false_iff_ne.mpr (Ne.symm h)]
    rw [c "true" z, c "false" z, c "null" z]
    cases q1 : (z == ("true" : Str)) with
    | true => rw [q1] at hz; cases hz
    | false =>
      rw [q1] at hz
      cases q2 : (z == ("false" : Str)) with
      | true => rw [q2] at hz; cases hz
      | false =>
        rw [q2] at hz
        cases q3 : (z == ("null" : Str)) with
        | true => rw [q3] at hz; cases hz
        | false => rfl
end K5
set_option Elab.async false
set_option linter.all false
set_option maxRecDepth 100000
set_option maxHeartbeats 4000000
namespace K5
open PySem PySem.Spec PyProof.Rows L2 Dl
theorem all_mk {l : PySem.W.OpenLaw} {w : World} {K : PySem.W.Frag} {h : Heap} {mg : Str → Option Value} (X : K.In h) (G : h.Ns mainGlobals mg) {fa : Addr} (hfa : mg "law" = some (.ref fa))
    {CReader : Addr} (aCReader : PySem.W.nsIn K mainGlobals "Reader" = some (some (.ref CReader)))
    {fIReader : Addr} {odIReader anIReader : Option Addr} {slIReader : Array (Option Value)} {ocIReader kVIReader dcIReader pmIReader cdIReader ctIReader : Value}
    (aIReader : PySem.W.findIn K (.ref CReader) "__init__" = some (some (.ref fIReader))) (lIReader : K.lookup fIReader = some ⟨ocIReader, odIReader, .func (PySem.W.fnOf "__init__" "Reader.__init__" (defArgs si_Reader) (defBody si_Reader) (defScope si_Reader) .none kVIReader dcIReader pmIReader anIReader cdIReader ctIReader), slIReader⟩) (cIReader : PySem.W.codeIn K cdIReader "Reader.__init__" = true) (kIReader : PySem.W.keepIn K (.ref fIReader) = true)
    (iIReader : PySem.W.isFn K (.ref fIReader) = true)
    (pgReader : PySem.W.plainGet K CReader Str.empty = true) (hdReader : PySem.W.hasDictIn K CReader = true) (poReader : PySem.W.plainOver K CReader = true) (saReader : PySem.W.findIn K (.ref CReader) "__setattr__" = some (some (.builtin "object.__setattr__"))) (mkReader : PySem.W.makesIn K CReader = true) (kcReader : PySem.W.keepIn K (.ref CReader) = true)
    (nReader_words : PySem.W.findIn K (.ref CReader) "words" = some none)
    (nReader_at : PySem.W.findIn K (.ref CReader) "at" = some none)
    {CDocument : Addr} (aCDocument : PySem.W.nsIn K mainGlobals "Document" = some (some (.ref CDocument)))
    {fIDocument : Addr} {odIDocument anIDocument : Option Addr} {slIDocument : Array (Option Value)} {ocIDocument kVIDocument dcIDocument pmIDocument cdIDocument ctIDocument : Value}
    (aIDocument : PySem.W.findIn K (.ref CDocument) "__init__" = some (some (.ref fIDocument))) (lIDocument : K.lookup fIDocument = some ⟨ocIDocument, odIDocument, .func (PySem.W.fnOf "__init__" "Document.__init__" (defArgs si_Document) (defBody si_Document) (defScope si_Document) .none kVIDocument dcIDocument pmIDocument anIDocument cdIDocument ctIDocument), slIDocument⟩) (cIDocument : PySem.W.codeIn K cdIDocument "Document.__init__" = true) (kIDocument : PySem.W.keepIn K (.ref fIDocument) = true)
    (iIDocument : PySem.W.isFn K (.ref fIDocument) = true)
    (pgDocument : PySem.W.plainGet K CDocument Str.empty = true) (hdDocument : PySem.W.hasDictIn K CDocument = true) (poDocument : PySem.W.plainOver K CDocument = true) (saDocument : PySem.W.findIn K (.ref CDocument) "__setattr__" = some (some (.builtin "object.__setattr__"))) (mkDocument : PySem.W.makesIn K CDocument = true) (kcDocument : PySem.W.keepIn K (.ref CDocument) = true)
    (nDocument_variables : PySem.W.findIn K (.ref CDocument) "variables" = some none)
    (nDocument_selection : PySem.W.findIn K (.ref CDocument) "selection" = some none)
    (nDocument_fragments : PySem.W.findIn K (.ref CDocument) "fragments" = some none)
    {f1 : Addr} {od1 an1 : Option Addr} {sl1 : Array (Option Value)} {oc1 kV1 dc1 pm1 cd1 ct1 : Value}
    (a1 : PySem.W.nsIn K mainGlobals "is_name" = some (some (.ref f1))) (l1 : K.lookup f1 = some ⟨oc1, od1, .func (PySem.W.fnOf "is_name" "is_name" (defArgs s_is_name) (defBody s_is_name) (defScope s_is_name) .none kV1 dc1 pm1 an1 cd1 ct1), sl1⟩) (c1 : PySem.W.codeIn K cd1 "is_name" = true) (k1 : PySem.W.keepIn K (.ref f1) = true)
    {f2 : Addr} {od2 an2 : Option Addr} {sl2 : Array (Option Value)} {oc2 kV2 dc2 pm2 cd2 ct2 : Value}
    (a2 : PySem.W.nsIn K mainGlobals "_is_plain" = some (some (.ref f2))) (l2 : K.lookup f2 = some ⟨oc2, od2, .func (PySem.W.fnOf "_is_plain" "_is_plain" (defArgs s_is_plain) (defBody s_is_plain) (defScope s_is_plain) .none kV2 dc2 pm2 an2 cd2 ct2), sl2⟩) (c2 : PySem.W.codeIn K cd2 "_is_plain" = true) (k2 : PySem.W.keepIn K (.ref f2) = true)
    {f3 : Addr} {od3 an3 : Option Addr} {sl3 : Array (Option Value)} {oc3 kV3 dc3 pm3 cd3 ct3 : Value}
    (a3 : PySem.W.nsIn K mainGlobals "fits" = some (some (.ref f3))) (l3 : K.lookup f3 = some ⟨oc3, od3, .func (PySem.W.fnOf "fits" "fits" (defArgs s_fits) (defBody s_fits) (defScope s_fits) .none kV3 dc3 pm3 an3 cd3 ct3), sl3⟩) (c3 : PySem.W.codeIn K cd3 "fits" = true) (k3 : PySem.W.keepIn K (.ref f3) = true)
    {f4 : Addr} {od4 an4 : Option Addr} {sl4 : Array (Option Value)} {oc4 kV4 dc4 pm4 cd4 ct4 : Value}
    (a4 : PySem.W.nsIn K mainGlobals "_may_follow" = some (some (.ref f4))) (l4 : K.lookup f4 = some ⟨oc4, od4, .func (PySem.W.fnOf "_may_follow" "_may_follow" (defArgs s_may_follow) (defBody s_may_follow) (defScope s_may_follow) .none kV4 dc4 pm4 an4 cd4 ct4), sl4⟩) (c4 : PySem.W.codeIn K cd4 "_may_follow" = true) (k4 : PySem.W.keepIn K (.ref f4) = true)
    {f5 : Addr} {od5 an5 : Option Addr} {sl5 : Array (Option Value)} {oc5 kV5 dc5 pm5 cd5 ct5 : Value}
    (a5 : PySem.W.nsIn K mainGlobals "_is_digit" = some (some (.ref f5))) (l5 : K.lookup f5 = some ⟨oc5, od5, .func (PySem.W.fnOf "_is_digit" "_is_digit" (defArgs s_is_digit) (defBody s_is_digit) (defScope s_is_digit) .none kV5 dc5 pm5 an5 cd5 ct5), sl5⟩) (c5 : PySem.W.codeIn K cd5 "_is_digit" = true) (k5 : PySem.W.keepIn K (.ref f5) = true)
    {f6 : Addr} {od6 an6 : Option Addr} {sl6 : Array (Option Value)} {oc6 kV6 dc6 pm6 cd6 ct6 : Value}
    (a6 : PySem.W.nsIn K mainGlobals "_end_of_name" = some (some (.ref f6))) (l6 : K.lookup f6 = some ⟨oc6, od6, .func (PySem.W.fnOf "_end_of_name" "_end_of_name" (defArgs s_end_of_name) (defBody s_end_of_name) (defScope s_end_of_name) .none kV6 dc6 pm6 an6 cd6 ct6), sl6⟩) (c6 : PySem.W.codeIn K cd6 "_end_of_name" = true) (k6 : PySem.W.keepIn K (.ref f6) = true)
    {f7 : Addr} {od7 an7 : Option Addr} {sl7 : Array (Option Value)} {oc7 kV7 dc7 pm7 cd7 ct7 : Value}
    (a7 : PySem.W.nsIn K mainGlobals "_read_name" = some (some (.ref f7))) (l7 : K.lookup f7 = some ⟨oc7, od7, .func (PySem.W.fnOf "_read_name" "_read_name" (defArgs s_read_name) (defBody s_read_name) (defScope s_read_name) .none kV7 dc7 pm7 an7 cd7 ct7), sl7⟩) (c7 : PySem.W.codeIn K cd7 "_read_name" = true) (k7 : PySem.W.keepIn K (.ref f7) = true)
    {f8 : Addr} {od8 an8 : Option Addr} {sl8 : Array (Option Value)} {oc8 kV8 dc8 pm8 cd8 ct8 : Value}
    (a8 : PySem.W.nsIn K mainGlobals "_read_number" = some (some (.ref f8))) (l8 : K.lookup f8 = some ⟨oc8, od8, .func (PySem.W.fnOf "_read_number" "_read_number" (defArgs s_read_number) (defBody s_read_number) (defScope s_read_number) .none kV8 dc8 pm8 an8 cd8 ct8), sl8⟩) (c8 : PySem.W.codeIn K cd8 "_read_number" = true) (k8 : PySem.W.keepIn K (.ref f8) = true)
    {f9 : Addr} {od9 an9 : Option Addr} {sl9 : Array (Option Value)} {oc9 kV9 dc9 pm9 cd9 ct9 : Value}
    (a9 : PySem.W.nsIn K mainGlobals "_read_variable" = some (some (.ref f9))) (l9 : K.lookup f9 = some ⟨oc9, od9, .func (PySem.W.fnOf "_read_variable" "_read_variable" (defArgs s_read_variable) (defBody s_read_variable) (defScope s_read_variable) .none kV9 dc9 pm9 an9 cd9 ct9), sl9⟩) (c9 : PySem.W.codeIn K cd9 "_read_variable" = true) (k9 : PySem.W.keepIn K (.ref f9) = true)
    {f10 : Addr} {od10 an10 : Option Addr} {sl10 : Array (Option Value)} {oc10 kV10 dc10 pm10 cd10 ct10 : Value}
    (a10 : PySem.W.nsIn K mainGlobals "_read_text" = some (some (.ref f10))) (l10 : K.lookup f10 = some ⟨oc10, od10, .func (PySem.W.fnOf "_read_text" "_read_text" (defArgs s_read_text) (defBody s_read_text) (defScope s_read_text) .none kV10 dc10 pm10 an10 cd10 ct10), sl10⟩) (c10 : PySem.W.codeIn K cd10 "_read_text" = true) (k10 : PySem.W.keepIn K (.ref f10) = true)
    {f11 : Addr} {od11 an11 : Option Addr} {sl11 : Array (Option Value)} {oc11 kV11 dc11 pm11 cd11 ct11 : Value}
    (a11 : PySem.W.nsIn K mainGlobals "_read_word" = some (some (.ref f11))) (l11 : K.lookup f11 = some ⟨oc11, od11, .func (PySem.W.fnOf "_read_word" "_read_word" (defArgs s_read_word) (defBody s_read_word) (defScope s_read_word) .none kV11 dc11 pm11 an11 cd11 ct11), sl11⟩) (c11 : PySem.W.codeIn K cd11 "_read_word" = true) (k11 : PySem.W.keepIn K (.ref f11) = true)
    {f12 : Addr} {od12 an12 : Option Addr} {sl12 : Array (Option Value)} {oc12 kV12 dc12 pm12 cd12 ct12 : Value}
    (a12 : PySem.W.nsIn K mainGlobals "split_words" = some (some (.ref f12))) (l12 : K.lookup f12 = some ⟨oc12, od12, .func (PySem.W.fnOf "split_words" "split_words" (defArgs s_split_words) (defBody s_split_words) (defScope s_split_words) .none kV12 dc12 pm12 an12 cd12 ct12), sl12⟩) (c12 : PySem.W.codeIn K cd12 "split_words" = true) (k12 : PySem.W.keepIn K (.ref f12) = true)
    {f13 : Addr} {od13 an13 : Option Addr} {sl13 : Array (Option Value)} {oc13 kV13 dc13 pm13 cd13 ct13 : Value}
    (a13 : PySem.W.findIn K (.ref CReader) "ahead" = some (some (.ref f13))) (l13 : K.lookup f13 = some ⟨oc13, od13, .func (PySem.W.fnOf "ahead" "Reader.ahead" (defArgs s_R_ahead) (defBody s_R_ahead) (defScope s_R_ahead) .none kV13 dc13 pm13 an13 cd13 ct13), sl13⟩) (c13 : PySem.W.codeIn K cd13 "Reader.ahead" = true) (k13 : PySem.W.keepIn K (.ref f13) = true)
    (i13 : PySem.W.isFn K (.ref f13) = true)
    {f14 : Addr} {od14 an14 : Option Addr} {sl14 : Array (Option Value)} {oc14 kV14 dc14 pm14 cd14 ct14 : Value}
    (a14 : PySem.W.findIn K (.ref CReader) "refuse" = some (some (.ref f14))) (l14 : K.lookup f14 = some ⟨oc14, od14, .func (PySem.W.fnOf "refuse" "Reader.refuse" (defArgs s_R_refuse) (defBody s_R_refuse) (defScope s_R_refuse) .none kV14 dc14 pm14 an14 cd14 ct14), sl14⟩) (c14 : PySem.W.codeIn K cd14 "Reader.refuse" = true) (k14 : PySem.W.keepIn K (.ref f14) = true)
    (i14 : PySem.W.isFn K (.ref f14) = true)
    {f15 : Addr} {od15 an15 : Option Addr} {sl15 : Array (Option Value)} {oc15 kV15 dc15 pm15 cd15 ct15 : Value}
    (a15 : PySem.W.findIn K (.ref CReader) "take" = some (some (.ref f15))) (l15 : K.lookup f15 = some ⟨oc15, od15, .func (PySem.W.fnOf "take" "Reader.take" (defArgs s_R_take) (defBody s_R_take) (defScope s_R_take) .none kV15 dc15 pm15 an15 cd15 ct15), sl15⟩) (c15 : PySem.W.codeIn K cd15 "Reader.take" = true) (k15 : PySem.W.keepIn K (.ref f15) = true)
    (i15 : PySem.W.isFn K (.ref f15) = true)
    {f16 : Addr} {od16 an16 : Option Addr} {sl16 : Array (Option Value)} {oc16 kV16 dc16 pm16 cd16 ct16 : Value}
    (a16 : PySem.W.findIn K (.ref CReader) "sees" = some (some (.ref f16))) (l16 : K.lookup f16 = some ⟨oc16, od16, .func (PySem.W.fnOf "sees" "Reader.sees" (defArgs s_R_sees) (defBody s_R_sees) (defScope s_R_sees) .none kV16 dc16 pm16 an16 cd16 ct16), sl16⟩) (c16 : PySem.W.codeIn K cd16 "Reader.sees" = true) (k16 : PySem.W.keepIn K (.ref f16) = true)
    (i16 : PySem.W.isFn K (.ref f16) = true)
    {f17 : Addr} {od17 an17 : Option Addr} {sl17 : Array (Option Value)} {oc17 kV17 dc17 pm17 cd17 ct17 : Value}
    (a17 : PySem.W.findIn K (.ref CReader) "accept" = some (some (.ref f17))) (l17 : K.lookup f17 = some ⟨oc17, od17, .func (PySem.W.fnOf "accept" "Reader.accept" (defArgs s_R_accept) (defBody s_R_accept) (defScope s_R_accept) .none kV17 dc17 pm17 an17 cd17 ct17), sl17⟩) (c17 : PySem.W.codeIn K cd17 "Reader.accept" = true) (k17 : PySem.W.keepIn K (.ref f17) = true)
    (i17 : PySem.W.isFn K (.ref f17) = true)
    {f18 : Addr} {od18 an18 : Option Addr} {sl18 : Array (Option Value)} {oc18 kV18 dc18 pm18 cd18 ct18 : Value}
    (a18 : PySem.W.findIn K (.ref CReader) "expect" = some (some (.ref f18))) (l18 : K.lookup f18 = some ⟨oc18, od18, .func (PySem.W.fnOf "expect" "Reader.expect" (defArgs s_R_expect) (defBody s_R_expect) (defScope s_R_expect) .none kV18 dc18 pm18 an18 cd18 ct18), sl18⟩) (c18 : PySem.W.codeIn K cd18 "Reader.expect" = true) (k18 : PySem.W.keepIn K (.ref f18) = true)
    (i18 : PySem.W.isFn K (.ref f18) = true)
    {f19 : Addr} {od19 an19 : Option Addr} {sl19 : Array (Option Value)} {oc19 kV19 dc19 pm19 cd19 ct19 : Value}
    (a19 : PySem.W.findIn K (.ref CReader) "expect_kind" = some (some (.ref f19))) (l19 : K.lookup f19 = some ⟨oc19, od19, .func (PySem.W.fnOf "expect_kind" "Reader.expect_kind" (defArgs s_R_expect_kind) (defBody s_R_expect_kind) (defScope s_R_expect_kind) .none kV19 dc19 pm19 an19 cd19 ct19), sl19⟩) (c19 : PySem.W.codeIn K cd19 "Reader.expect_kind" = true) (k19 : PySem.W.keepIn K (.ref f19) = true)
    (i19 : PySem.W.isFn K (.ref f19) = true)
    {f20 : Addr} {od20 an20 : Option Addr} {sl20 : Array (Option Value)} {oc20 kV20 dc20 pm20 cd20 ct20 : Value}
    (a20 : PySem.W.findIn K (.ref CReader) "expect_name" = some (some (.ref f20))) (l20 : K.lookup f20 = some ⟨oc20, od20, .func (PySem.W.fnOf "expect_name" "Reader.expect_name" (defArgs s_R_expect_name) (defBody s_R_expect_name) (defScope s_R_expect_name) .none kV20 dc20 pm20 an20 cd20 ct20), sl20⟩) (c20 : PySem.W.codeIn K cd20 "Reader.expect_name" = true) (k20 : PySem.W.keepIn K (.ref f20) = true)
    (i20 : PySem.W.isFn K (.ref f20) = true)
    {f21 : Addr} {od21 an21 : Option Addr} {sl21 : Array (Option Value)} {oc21 kV21 dc21 pm21 cd21 ct21 : Value}
    (a21 : PySem.W.nsIn K mainGlobals "_read_constant" = some (some (.ref f21))) (l21 : K.lookup f21 = some ⟨oc21, od21, .func (PySem.W.fnOf "_read_constant" "_read_constant" (defArgs s_read_constant) (defBody s_read_constant) (defScope s_read_constant) .none kV21 dc21 pm21 an21 cd21 ct21), sl21⟩) (c21 : PySem.W.codeIn K cd21 "_read_constant" = true) (k21 : PySem.W.keepIn K (.ref f21) = true)
    {f22 : Addr} {od22 an22 : Option Addr} {sl22 : Array (Option Value)} {oc22 kV22 dc22 pm22 cd22 ct22 : Value}
    (a22 : PySem.W.nsIn K mainGlobals "_read_value" = some (some (.ref f22))) (l22 : K.lookup f22 = some ⟨oc22, od22, .func (PySem.W.fnOf "_read_value" "_read_value" (defArgs s_read_value) (defBody s_read_value) (defScope s_read_value) .none kV22 dc22 pm22 an22 cd22 ct22), sl22⟩) (c22 : PySem.W.codeIn K cd22 "_read_value" = true) (k22 : PySem.W.keepIn K (.ref f22) = true)
    {f23 : Addr} {od23 an23 : Option Addr} {sl23 : Array (Option Value)} {oc23 kV23 dc23 pm23 cd23 ct23 : Value}
    (a23 : PySem.W.nsIn K mainGlobals "_read_condition" = some (some (.ref f23))) (l23 : K.lookup f23 = some ⟨oc23, od23, .func (PySem.W.fnOf "_read_condition" "_read_condition" (defArgs s_read_condition) (defBody s_read_condition) (defScope s_read_condition) .none kV23 dc23 pm23 an23 cd23 ct23), sl23⟩) (c23 : PySem.W.codeIn K cd23 "_read_condition" = true) (k23 : PySem.W.keepIn K (.ref f23) = true)
    {f24 : Addr} {od24 an24 : Option Addr} {sl24 : Array (Option Value)} {oc24 kV24 dc24 pm24 cd24 ct24 : Value}
    (a24 : PySem.W.nsIn K mainGlobals "_read_conditions" = some (some (.ref f24))) (l24 : K.lookup f24 = some ⟨oc24, od24, .func (PySem.W.fnOf "_read_conditions" "_read_conditions" (defArgs s_read_conditions) (defBody s_read_conditions) (defScope s_read_conditions) .none kV24 dc24 pm24 an24 cd24 ct24), sl24⟩) (c24 : PySem.W.codeIn K cd24 "_read_conditions" = true) (k24 : PySem.W.keepIn K (.ref f24) = true)
    {f25 : Addr} {od25 an25 : Option Addr} {sl25 : Array (Option Value)} {oc25 kV25 dc25 pm25 cd25 ct25 : Value}
    (a25 : PySem.W.nsIn K mainGlobals "_read_argument" = some (some (.ref f25))) (l25 : K.lookup f25 = some ⟨oc25, od25, .func (PySem.W.fnOf "_read_argument" "_read_argument" (defArgs s_read_argument) (defBody s_read_argument) (defScope s_read_argument) .none kV25 dc25 pm25 an25 cd25 ct25), sl25⟩) (c25 : PySem.W.codeIn K cd25 "_read_argument" = true) (k25 : PySem.W.keepIn K (.ref f25) = true)
    {f26 : Addr} {od26 an26 : Option Addr} {sl26 : Array (Option Value)} {oc26 kV26 dc26 pm26 cd26 ct26 : Value}
    (a26 : PySem.W.nsIn K mainGlobals "_read_arguments" = some (some (.ref f26))) (l26 : K.lookup f26 = some ⟨oc26, od26, .func (PySem.W.fnOf "_read_arguments" "_read_arguments" (defArgs s_read_arguments) (defBody s_read_arguments) (defScope s_read_arguments) .none kV26 dc26 pm26 an26 cd26 ct26), sl26⟩) (c26 : PySem.W.codeIn K cd26 "_read_arguments" = true) (k26 : PySem.W.keepIn K (.ref f26) = true)
    {f27 : Addr} {od27 an27 : Option Addr} {sl27 : Array (Option Value)} {oc27 kV27 dc27 pm27 cd27 ct27 : Value}
    (a27 : PySem.W.nsIn K mainGlobals "_read_kind" = some (some (.ref f27))) (l27 : K.lookup f27 = some ⟨oc27, od27, .func (PySem.W.fnOf "_read_kind" "_read_kind" (defArgs s_read_kind) (defBody s_read_kind) (defScope s_read_kind) .none kV27 dc27 pm27 an27 cd27 ct27), sl27⟩) (c27 : PySem.W.codeIn K cd27 "_read_kind" = true) (k27 : PySem.W.keepIn K (.ref f27) = true)
    {f28 : Addr} {od28 an28 : Option Addr} {sl28 : Array (Option Value)} {oc28 kV28 dc28 pm28 cd28 ct28 : Value}
    (a28 : PySem.W.nsIn K mainGlobals "_read_bare_kind" = some (some (.ref f28))) (l28 : K.lookup f28 = some ⟨oc28, od28, .func (PySem.W.fnOf "_read_bare_kind" "_read_bare_kind" (defArgs s_read_bare_kind) (defBody s_read_bare_kind) (defScope s_read_bare_kind) .none kV28 dc28 pm28 an28 cd28 ct28), sl28⟩) (c28 : PySem.W.codeIn K cd28 "_read_bare_kind" = true) (k28 : PySem.W.keepIn K (.ref f28) = true)
    {f29 : Addr} {od29 an29 : Option Addr} {sl29 : Array (Option Value)} {oc29 kV29 dc29 pm29 cd29 ct29 : Value}
    (a29 : PySem.W.nsIn K mainGlobals "_read_declaration" = some (some (.ref f29))) (l29 : K.lookup f29 = some ⟨oc29, od29, .func (PySem.W.fnOf "_read_declaration" "_read_declaration" (defArgs s_read_declaration) (defBody s_read_declaration) (defScope s_read_declaration) .none kV29 dc29 pm29 an29 cd29 ct29), sl29⟩) (c29 : PySem.W.codeIn K cd29 "_read_declaration" = true) (k29 : PySem.W.keepIn K (.ref f29) = true)
    {f30 : Addr} {od30 an30 : Option Addr} {sl30 : Array (Option Value)} {oc30 kV30 dc30 pm30 cd30 ct30 : Value}
    (a30 : PySem.W.nsIn K mainGlobals "_read_declarations" = some (some (.ref f30))) (l30 : K.lookup f30 = some ⟨oc30, od30, .func (PySem.W.fnOf "_read_declarations" "_read_declarations" (defArgs s_read_declarations) (defBody s_read_declarations) (defScope s_read_declarations) .none kV30 dc30 pm30 an30 cd30 ct30), sl30⟩) (c30 : PySem.W.codeIn K cd30 "_read_declarations" = true) (k30 : PySem.W.keepIn K (.ref f30) = true)
    {f31 : Addr} {od31 an31 : Option Addr} {sl31 : Array (Option Value)} {oc31 kV31 dc31 pm31 cd31 ct31 : Value}
    (a31 : PySem.W.nsIn K mainGlobals "_read_field" = some (some (.ref f31))) (l31 : K.lookup f31 = some ⟨oc31, od31, .func (PySem.W.fnOf "_read_field" "_read_field" (defArgs s_read_field) (defBody s_read_field) (defScope s_read_field) .none kV31 dc31 pm31 an31 cd31 ct31), sl31⟩) (c31 : PySem.W.codeIn K cd31 "_read_field" = true) (k31 : PySem.W.keepIn K (.ref f31) = true)
    {f32 : Addr} {od32 an32 : Option Addr} {sl32 : Array (Option Value)} {oc32 kV32 dc32 pm32 cd32 ct32 : Value}
    (a32 : PySem.W.nsIn K mainGlobals "_read_spread" = some (some (.ref f32))) (l32 : K.lookup f32 = some ⟨oc32, od32, .func (PySem.W.fnOf "_read_spread" "_read_spread" (defArgs s_read_spread) (defBody s_read_spread) (defScope s_read_spread) .none kV32 dc32 pm32 an32 cd32 ct32), sl32⟩) (c32 : PySem.W.codeIn K cd32 "_read_spread" = true) (k32 : PySem.W.keepIn K (.ref f32) = true)
    {f33 : Addr} {od33 an33 : Option Addr} {sl33 : Array (Option Value)} {oc33 kV33 dc33 pm33 cd33 ct33 : Value}
    (a33 : PySem.W.nsIn K mainGlobals "_read_part" = some (some (.ref f33))) (l33 : K.lookup f33 = some ⟨oc33, od33, .func (PySem.W.fnOf "_read_part" "_read_part" (defArgs s_read_part) (defBody s_read_part) (defScope s_read_part) .none kV33 dc33 pm33 an33 cd33 ct33), sl33⟩) (c33 : PySem.W.codeIn K cd33 "_read_part" = true) (k33 : PySem.W.keepIn K (.ref f33) = true)
    {f34 : Addr} {od34 an34 : Option Addr} {sl34 : Array (Option Value)} {oc34 kV34 dc34 pm34 cd34 ct34 : Value}
    (a34 : PySem.W.nsIn K mainGlobals "_read_selection" = some (some (.ref f34))) (l34 : K.lookup f34 = some ⟨oc34, od34, .func (PySem.W.fnOf "_read_selection" "_read_selection" (defArgs s_read_selection) (defBody s_read_selection) (defScope s_read_selection) .none kV34 dc34 pm34 an34 cd34 ct34), sl34⟩) (c34 : PySem.W.codeIn K cd34 "_read_selection" = true) (k34 : PySem.W.keepIn K (.ref f34) = true)
    {f35 : Addr} {od35 an35 : Option Addr} {sl35 : Array (Option Value)} {oc35 kV35 dc35 pm35 cd35 ct35 : Value}
    (a35 : PySem.W.nsIn K mainGlobals "_read_fragment" = some (some (.ref f35))) (l35 : K.lookup f35 = some ⟨oc35, od35, .func (PySem.W.fnOf "_read_fragment" "_read_fragment" (defArgs s_read_fragment) (defBody s_read_fragment) (defScope s_read_fragment) .none kV35 dc35 pm35 an35 cd35 ct35), sl35⟩) (c35 : PySem.W.codeIn K cd35 "_read_fragment" = true) (k35 : PySem.W.keepIn K (.ref f35) = true)
    {f36 : Addr} {od36 an36 : Option Addr} {sl36 : Array (Option Value)} {oc36 kV36 dc36 pm36 cd36 ct36 : Value}
    (a36 : PySem.W.nsIn K mainGlobals "_read_fragments" = some (some (.ref f36))) (l36 : K.lookup f36 = some ⟨oc36, od36, .func (PySem.W.fnOf "_read_fragments" "_read_fragments" (defArgs s_read_fragments) (defBody s_read_fragments) (defScope s_read_fragments) .none kV36 dc36 pm36 an36 cd36 ct36), sl36⟩) (c36 : PySem.W.codeIn K cd36 "_read_fragments" = true) (k36 : PySem.W.keepIn K (.ref f36) = true)
    {f37 : Addr} {od37 an37 : Option Addr} {sl37 : Array (Option Value)} {oc37 kV37 dc37 pm37 cd37 ct37 : Value}
    (a37 : PySem.W.nsIn K mainGlobals "parse_document" = some (some (.ref f37))) (l37 : K.lookup f37 = some ⟨oc37, od37, .func (PySem.W.fnOf "parse_document" "parse_document" (defArgs s_parse_document) (defBody s_parse_document) (defScope s_parse_document) .none kV37 dc37 pm37 an37 cd37 ct37), sl37⟩) (c37 : PySem.W.codeIn K cd37 "parse_document" = true) (k37 : PySem.W.keepIn K (.ref f37) = true)
    {f38 : Addr} {od38 an38 : Option Addr} {sl38 : Array (Option Value)} {oc38 kV38 dc38 pm38 cd38 ct38 : Value}
    (a38 : PySem.W.nsIn K mainGlobals "_law_refill" = some (some (.ref f38))) (l38 : K.lookup f38 = some ⟨oc38, od38, .func (PySem.W.fnOf "_law_refill" "_law_refill" (defArgs s_l_refill) (defBody s_l_refill) (defScope s_l_refill) .none kV38 dc38 pm38 an38 cd38 ct38), sl38⟩) (c38 : PySem.W.codeIn K cd38 "_law_refill" = true) (k38 : PySem.W.keepIn K (.ref f38) = true)
    {f39 : Addr} {od39 an39 : Option Addr} {sl39 : Array (Option Value)} {oc39 kV39 dc39 pm39 cd39 ct39 : Value}
    (a39 : PySem.W.nsIn K mainGlobals "_law_draw" = some (some (.ref f39))) (l39 : K.lookup f39 = some ⟨oc39, od39, .func (PySem.W.fnOf "_law_draw" "_law_draw" (defArgs s_l_draw) (defBody s_l_draw) (defScope s_l_draw) .none kV39 dc39 pm39 an39 cd39 ct39), sl39⟩) (c39 : PySem.W.codeIn K cd39 "_law_draw" = true) (k39 : PySem.W.keepIn K (.ref f39) = true)
    {f40 : Addr} {od40 an40 : Option Addr} {sl40 : Array (Option Value)} {oc40 kV40 dc40 pm40 cd40 ct40 : Value}
    (a40 : PySem.W.nsIn K mainGlobals "_law_run" = some (some (.ref f40))) (l40 : K.lookup f40 = some ⟨oc40, od40, .func (PySem.W.fnOf "_law_run" "_law_run" (defArgs s_l_run) (defBody s_l_run) (defScope s_l_run) .none kV40 dc40 pm40 an40 cd40 ct40), sl40⟩) (c40 : PySem.W.codeIn K cd40 "_law_run" = true) (k40 : PySem.W.keepIn K (.ref f40) = true)
    {f41 : Addr} {od41 an41 : Option Addr} {sl41 : Array (Option Value)} {oc41 kV41 dc41 pm41 cd41 ct41 : Value}
    (a41 : PySem.W.nsIn K mainGlobals "_law_named" = some (some (.ref f41))) (l41 : K.lookup f41 = some ⟨oc41, od41, .func (PySem.W.fnOf "_law_named" "_law_named" (defArgs s_l_named) (defBody s_l_named) (defScope s_l_named) .none kV41 dc41 pm41 an41 cd41 ct41), sl41⟩) (c41 : PySem.W.codeIn K cd41 "_law_named" = true) (k41 : PySem.W.keepIn K (.ref f41) = true)
    {f42 : Addr} {od42 an42 : Option Addr} {sl42 : Array (Option Value)} {oc42 kV42 dc42 pm42 cd42 ct42 : Value}
    (a42 : PySem.W.nsIn K mainGlobals "_law_word_at" = some (some (.ref f42))) (l42 : K.lookup f42 = some ⟨oc42, od42, .func (PySem.W.fnOf "_law_word_at" "_law_word_at" (defArgs s_l_word_at) (defBody s_l_word_at) (defScope s_l_word_at) .none kV42 dc42 pm42 an42 cd42 ct42), sl42⟩) (c42 : PySem.W.codeIn K cd42 "_law_word_at" = true) (k42 : PySem.W.keepIn K (.ref f42) = true)
    {f43 : Addr} {od43 an43 : Option Addr} {sl43 : Array (Option Value)} {oc43 kV43 dc43 pm43 cd43 ct43 : Value}
    (a43 : PySem.W.nsIn K mainGlobals "_law_split" = some (some (.ref f43))) (l43 : K.lookup f43 = some ⟨oc43, od43, .func (PySem.W.fnOf "_law_split" "_law_split" (defArgs s_l_split) (defBody s_l_split) (defScope s_l_split) .none kV43 dc43 pm43 an43 cd43 ct43), sl43⟩) (c43 : PySem.W.codeIn K cd43 "_law_split" = true) (k43 : PySem.W.keepIn K (.ref f43) = true)
    {f44 : Addr} {od44 an44 : Option Addr} {sl44 : Array (Option Value)} {oc44 kV44 dc44 pm44 cd44 ct44 : Value}
    (a44 : PySem.W.nsIn K mainGlobals "_law_is" = some (some (.ref f44))) (l44 : K.lookup f44 = some ⟨oc44, od44, .func (PySem.W.fnOf "_law_is" "_law_is" (defArgs s_l_is) (defBody s_l_is) (defScope s_l_is) .none kV44 dc44 pm44 an44 cd44 ct44), sl44⟩) (c44 : PySem.W.codeIn K cd44 "_law_is" = true) (k44 : PySem.W.keepIn K (.ref f44) = true)
    {f45 : Addr} {od45 an45 : Option Addr} {sl45 : Array (Option Value)} {oc45 kV45 dc45 pm45 cd45 ct45 : Value}
    (a45 : PySem.W.nsIn K mainGlobals "_law_kind_at" = some (some (.ref f45))) (l45 : K.lookup f45 = some ⟨oc45, od45, .func (PySem.W.fnOf "_law_kind_at" "_law_kind_at" (defArgs s_l_kind_at) (defBody s_l_kind_at) (defScope s_l_kind_at) .none kV45 dc45 pm45 an45 cd45 ct45), sl45⟩) (c45 : PySem.W.codeIn K cd45 "_law_kind_at" = true) (k45 : PySem.W.keepIn K (.ref f45) = true)
    {f46 : Addr} {od46 an46 : Option Addr} {sl46 : Array (Option Value)} {oc46 kV46 dc46 pm46 cd46 ct46 : Value}
    (a46 : PySem.W.nsIn K mainGlobals "_law_plain_at" = some (some (.ref f46))) (l46 : K.lookup f46 = some ⟨oc46, od46, .func (PySem.W.fnOf "_law_plain_at" "_law_plain_at" (defArgs s_l_plain_at) (defBody s_l_plain_at) (defScope s_l_plain_at) .none kV46 dc46 pm46 an46 cd46 ct46), sl46⟩) (c46 : PySem.W.codeIn K cd46 "_law_plain_at" = true) (k46 : PySem.W.keepIn K (.ref f46) = true)
    {f47 : Addr} {od47 an47 : Option Addr} {sl47 : Array (Option Value)} {oc47 kV47 dc47 pm47 cd47 ct47 : Value}
    (a47 : PySem.W.nsIn K mainGlobals "_law_constant" = some (some (.ref f47))) (l47 : K.lookup f47 = some ⟨oc47, od47, .func (PySem.W.fnOf "_law_constant" "_law_constant" (defArgs s_l_constant) (defBody s_l_constant) (defScope s_l_constant) .none kV47 dc47 pm47 an47 cd47 ct47), sl47⟩) (c47 : PySem.W.codeIn K cd47 "_law_constant" = true) (k47 : PySem.W.keepIn K (.ref f47) = true)
    {f48 : Addr} {od48 an48 : Option Addr} {sl48 : Array (Option Value)} {oc48 kV48 dc48 pm48 cd48 ct48 : Value}
    (a48 : PySem.W.nsIn K mainGlobals "_law_value_at" = some (some (.ref f48))) (l48 : K.lookup f48 = some ⟨oc48, od48, .func (PySem.W.fnOf "_law_value_at" "_law_value_at" (defArgs s_l_value_at) (defBody s_l_value_at) (defScope s_l_value_at) .none kV48 dc48 pm48 an48 cd48 ct48), sl48⟩) (c48 : PySem.W.codeIn K cd48 "_law_value_at" = true) (k48 : PySem.W.keepIn K (.ref f48) = true)
    {f49 : Addr} {od49 an49 : Option Addr} {sl49 : Array (Option Value)} {oc49 kV49 dc49 pm49 cd49 ct49 : Value}
    (a49 : PySem.W.nsIn K mainGlobals "_law_type_at" = some (some (.ref f49))) (l49 : K.lookup f49 = some ⟨oc49, od49, .func (PySem.W.fnOf "_law_type_at" "_law_type_at" (defArgs s_l_type_at) (defBody s_l_type_at) (defScope s_l_type_at) .none kV49 dc49 pm49 an49 cd49 ct49), sl49⟩) (c49 : PySem.W.codeIn K cd49 "_law_type_at" = true) (k49 : PySem.W.keepIn K (.ref f49) = true)
    {f50 : Addr} {od50 an50 : Option Addr} {sl50 : Array (Option Value)} {oc50 kV50 dc50 pm50 cd50 ct50 : Value}
    (a50 : PySem.W.nsIn K mainGlobals "_law_declared" = some (some (.ref f50))) (l50 : K.lookup f50 = some ⟨oc50, od50, .func (PySem.W.fnOf "_law_declared" "_law_declared" (defArgs s_l_declared) (defBody s_l_declared) (defScope s_l_declared) .none kV50 dc50 pm50 an50 cd50 ct50), sl50⟩) (c50 : PySem.W.codeIn K cd50 "_law_declared" = true) (k50 : PySem.W.keepIn K (.ref f50) = true)
    {f51 : Addr} {od51 an51 : Option Addr} {sl51 : Array (Option Value)} {oc51 kV51 dc51 pm51 cd51 ct51 : Value}
    (a51 : PySem.W.nsIn K mainGlobals "_law_conditions_at" = some (some (.ref f51))) (l51 : K.lookup f51 = some ⟨oc51, od51, .func (PySem.W.fnOf "_law_conditions_at" "_law_conditions_at" (defArgs s_l_conditions_at) (defBody s_l_conditions_at) (defScope s_l_conditions_at) .none kV51 dc51 pm51 an51 cd51 ct51), sl51⟩) (c51 : PySem.W.codeIn K cd51 "_law_conditions_at" = true) (k51 : PySem.W.keepIn K (.ref f51) = true)
    {f52 : Addr} {od52 an52 : Option Addr} {sl52 : Array (Option Value)} {oc52 kV52 dc52 pm52 cd52 ct52 : Value}
    (a52 : PySem.W.nsIn K mainGlobals "_law_arguments_at" = some (some (.ref f52))) (l52 : K.lookup f52 = some ⟨oc52, od52, .func (PySem.W.fnOf "_law_arguments_at" "_law_arguments_at" (defArgs s_l_arguments_at) (defBody s_l_arguments_at) (defScope s_l_arguments_at) .none kV52 dc52 pm52 an52 cd52 ct52), sl52⟩) (c52 : PySem.W.codeIn K cd52 "_law_arguments_at" = true) (k52 : PySem.W.keepIn K (.ref f52) = true)
    {f53 : Addr} {od53 an53 : Option Addr} {sl53 : Array (Option Value)} {oc53 kV53 dc53 pm53 cd53 ct53 : Value}
    (a53 : PySem.W.nsIn K mainGlobals "_law_field_at" = some (some (.ref f53))) (l53 : K.lookup f53 = some ⟨oc53, od53, .func (PySem.W.fnOf "_law_field_at" "_law_field_at" (defArgs s_l_field_at) (defBody s_l_field_at) (defScope s_l_field_at) .none kV53 dc53 pm53 an53 cd53 ct53), sl53⟩) (c53 : PySem.W.codeIn K cd53 "_law_field_at" = true) (k53 : PySem.W.keepIn K (.ref f53) = true)
    {f54 : Addr} {od54 an54 : Option Addr} {sl54 : Array (Option Value)} {oc54 kV54 dc54 pm54 cd54 ct54 : Value}
    (a54 : PySem.W.nsIn K mainGlobals "_law_spread_at" = some (some (.ref f54))) (l54 : K.lookup f54 = some ⟨oc54, od54, .func (PySem.W.fnOf "_law_spread_at" "_law_spread_at" (defArgs s_l_spread_at) (defBody s_l_spread_at) (defScope s_l_spread_at) .none kV54 dc54 pm54 an54 cd54 ct54), sl54⟩) (c54 : PySem.W.codeIn K cd54 "_law_spread_at" = true) (k54 : PySem.W.keepIn K (.ref f54) = true)
    {f55 : Addr} {od55 an55 : Option Addr} {sl55 : Array (Option Value)} {oc55 kV55 dc55 pm55 cd55 ct55 : Value}
    (a55 : PySem.W.nsIn K mainGlobals "_law_selection_at" = some (some (.ref f55))) (l55 : K.lookup f55 = some ⟨oc55, od55, .func (PySem.W.fnOf "_law_selection_at" "_law_selection_at" (defArgs s_l_selection_at) (defBody s_l_selection_at) (defScope s_l_selection_at) .none kV55 dc55 pm55 an55 cd55 ct55), sl55⟩) (c55 : PySem.W.codeIn K cd55 "_law_selection_at" = true) (k55 : PySem.W.keepIn K (.ref f55) = true)
    {f56 : Addr} {od56 an56 : Option Addr} {sl56 : Array (Option Value)} {oc56 kV56 dc56 pm56 cd56 ct56 : Value}
    (a56 : PySem.W.nsIn K mainGlobals "_law_fragment_at" = some (some (.ref f56))) (l56 : K.lookup f56 = some ⟨oc56, od56, .func (PySem.W.fnOf "_law_fragment_at" "_law_fragment_at" (defArgs s_l_fragment_at) (defBody s_l_fragment_at) (defScope s_l_fragment_at) .none kV56 dc56 pm56 an56 cd56 ct56), sl56⟩) (c56 : PySem.W.codeIn K cd56 "_law_fragment_at" = true) (k56 : PySem.W.keepIn K (.ref f56) = true)
    {f57 : Addr} {od57 an57 : Option Addr} {sl57 : Array (Option Value)} {oc57 kV57 dc57 pm57 cd57 ct57 : Value}
    (a57 : PySem.W.nsIn K mainGlobals "_law_document_at" = some (some (.ref f57))) (l57 : K.lookup f57 = some ⟨oc57, od57, .func (PySem.W.fnOf "_law_document_at" "_law_document_at" (defArgs s_l_document_at) (defBody s_l_document_at) (defScope s_l_document_at) .none kV57 dc57 pm57 an57 cd57 ct57), sl57⟩) (c57 : PySem.W.codeIn K cd57 "_law_document_at" = true) (k57 : PySem.W.keepIn K (.ref f57) = true)
    {f58 : Addr} {od58 an58 : Option Addr} {sl58 : Array (Option Value)} {oc58 kV58 dc58 pm58 cd58 ct58 : Value}
    (a58 : PySem.W.nsIn K mainGlobals "_law_expected" = some (some (.ref f58))) (l58 : K.lookup f58 = some ⟨oc58, od58, .func (PySem.W.fnOf "_law_expected" "_law_expected" (defArgs s_l_expected) (defBody s_l_expected) (defScope s_l_expected) .none kV58 dc58 pm58 an58 cd58 ct58), sl58⟩) (c58 : PySem.W.codeIn K cd58 "_law_expected" = true) (k58 : PySem.W.keepIn K (.ref f58) = true)
    {f59 : Addr} {od59 an59 : Option Addr} {sl59 : Array (Option Value)} {oc59 kV59 dc59 pm59 cd59 ct59 : Value}
    (a59 : PySem.W.nsIn K mainGlobals "_law_told" = some (some (.ref f59))) (l59 : K.lookup f59 = some ⟨oc59, od59, .func (PySem.W.fnOf "_law_told" "_law_told" (defArgs s_l_told) (defBody s_l_told) (defScope s_l_told) .none kV59 dc59 pm59 an59 cd59 ct59), sl59⟩) (c59 : PySem.W.codeIn K cd59 "_law_told" = true) (k59 : PySem.W.keepIn K (.ref f59) = true)
    {f60 : Addr} {od60 an60 : Option Addr} {sl60 : Array (Option Value)} {oc60 kV60 dc60 pm60 cd60 ct60 : Value}
    (a60 : PySem.W.nsIn K mainGlobals "_law_start" = some (some (.ref f60))) (l60 : K.lookup f60 = some ⟨oc60, od60, .func (PySem.W.fnOf "_law_start" "_law_start" (defArgs s_l_start) (defBody s_l_start) (defScope s_l_start) .none kV60 dc60 pm60 an60 cd60 ct60), sl60⟩) (c60 : PySem.W.codeIn K cd60 "_law_start" = true) (k60 : PySem.W.keepIn K (.ref f60) = true)
    {f61 : Addr} {od61 an61 : Option Addr} {sl61 : Array (Option Value)} {oc61 kV61 dc61 pm61 cd61 ct61 : Value}
    (a61 : PySem.W.nsIn K mainGlobals "law" = some (some (.ref f61))) (l61 : K.lookup f61 = some ⟨oc61, od61, .func (PySem.W.fnOf "law" "law" (defArgs s_law) (defBody s_law) (defScope s_law) .none kV61 dc61 pm61 an61 cd61 ct61), sl61⟩) (c61 : PySem.W.codeIn K cd61 "law" = true) (k61 : PySem.W.keepIn K (.ref f61) = true)
    {t_LONGEST_NAME : Tok} (g_LONGEST_NAME : PySem.W.nsIn K mainGlobals "LONGEST_NAME" = some (some (.int (30) t_LONGEST_NAME)))
    {t_LEAST_INT : Tok} (g_LEAST_INT : PySem.W.nsIn K mainGlobals "LEAST_INT" = some (some (.int (-2147483648) t_LEAST_INT)))
    {t_GREATEST_INT : Tok} (g_GREATEST_INT : PySem.W.nsIn K mainGlobals "GREATEST_INT" = some (some (.int (2147483647) t_GREATEST_INT)))
    {t_FIRST_CODE : Tok} (g_FIRST_CODE : PySem.W.nsIn K mainGlobals "FIRST_CODE" = some (some (.int (32) t_FIRST_CODE)))
    {t_LAST_CODE : Tok} (g_LAST_CODE : PySem.W.nsIn K mainGlobals "LAST_CODE" = some (some (.int (126) t_LAST_CODE)))
    {t_EXCEPTED_CODE : Tok} (g_EXCEPTED_CODE : PySem.W.nsIn K mainGlobals "EXCEPTED_CODE" = some (some (.int (37) t_EXCEPTED_CODE)))
    {t_BLANKS : Tok} (g_BLANKS : PySem.W.nsIn K mainGlobals "BLANKS" = some (some (.str " \n," t_BLANKS)))
    {t_SIGNS : Tok} (g_SIGNS : PySem.W.nsIn K mainGlobals "SIGNS" = some (some (.str "{}():=![]@" t_SIGNS)))
    {t_DOTS : Tok} (g_DOTS : PySem.W.nsIn K mainGlobals "DOTS" = some (some (.str "..." t_DOTS)))
    {t_QUOTE : Tok} (g_QUOTE : PySem.W.nsIn K mainGlobals "QUOTE" = some (some (.str "\"" t_QUOTE)))
    {t_MOST_DIGITS : Tok} (g_MOST_DIGITS : PySem.W.nsIn K mainGlobals "MOST_DIGITS" = some (some (.int (10) t_MOST_DIGITS)))
    {t_TYPE_FIELD : Tok} (g_TYPE_FIELD : PySem.W.nsIn K mainGlobals "TYPE_FIELD" = some (some (.str "_type" t_TYPE_FIELD)))
    {t_DEEPEST_LIST : Tok} (g_DEEPEST_LIST : PySem.W.nsIn K mainGlobals "DEEPEST_LIST" = some (some (.int (5) t_DEEPEST_LIST)))
    {t_DEEPEST_SELECTION : Tok} (g_DEEPEST_SELECTION : PySem.W.nsIn K mainGlobals "DEEPEST_SELECTION" = some (some (.int (10) t_DEEPEST_SELECTION)))
    {t_MOST_FRAGMENTS : Tok} (g_MOST_FRAGMENTS : PySem.W.nsIn K mainGlobals "MOST_FRAGMENTS" = some (some (.int (10) t_MOST_FRAGMENTS)))
    (z_all : PySem.W.nsIn K mainGlobals "all" = some none)
    (z_bool : PySem.W.nsIn K mainGlobals "bool" = some none)
    (z_int : PySem.W.nsIn K mainGlobals "int" = some none)
    (z_isinstance : PySem.W.nsIn K mainGlobals "isinstance" = some none)
    (z_len : PySem.W.nsIn K mainGlobals "len" = some none)
    (z_ord : PySem.W.nsIn K mainGlobals "ord" = some none)
    (z_range : PySem.W.nsIn K mainGlobals "range" = some none)
    (z_str : PySem.W.nsIn K mainGlobals "str" = some none)
    (z_tuple : PySem.W.nsIn K mainGlobals "tuple" = some none)
    {td tp1 tp2 tp3 : Addr} {th1 th2 th3 : Int} {tt1 tt2 tt3 ts1 ts2 ts3 : Tok} {tn tm1 tm2 tm3 : Nat} {to1 to2 to3 : Option Addr} {tl1 tl2 tl3 : Array (Option Value)}
    (ta : PySem.W.nsIn K mainGlobals "NAMED_CONSTANTS" = some (some (.ref td)))
    (tk : K.lookup td = some ⟨.type "dict", none, .dict #[⟨th1, .str "true" tt1, .ref tp1⟩, ⟨th2, .str "false" tt2, .ref tp2⟩, ⟨th3, .str "null" tt3, .ref tp3⟩] tn, #[]⟩)
    (te1 : th1 = PyData.keyHash w.params "true") (te2 : th2 = PyData.keyHash w.params "false") (te3 : th3 = PyData.keyHash w.params "null") (tlow : (td == sysModules) = false)
    (tq1 : K.lookup tp1 = some ⟨.type "tuple", to1, .seq #[.str "truth" ts1, .bool true] tm1, tl1⟩) (tq2 : K.lookup tp2 = some ⟨.type "tuple", to2, .seq #[.str "truth" ts2, .bool false] tm2, tl2⟩) (tq3 : K.lookup tp3 = some ⟨.type "tuple", to3, .seq #[.str "null" ts3] tm3, tl3⟩)
    {C fI cda cc E : Addr} {kV doc pm ct : Value} {an : Option Addr} {nm q : Str} {N0 : Addr} {bs bm : List Value} {sn : List Str} {sub : List Value} {ab : Bool} {col : Option Bool} {dd : Option Addr} {q0 q1 q2 q3 q5 : Option Value}
    (u1 : PySem.W.nsIn K mainGlobals "InvalidDocument" = some (some (.ref C)))
    (u2 : K.lookup C = some (excClassObj nm q C N0 bs bm true sn sub ab col dd q0 q1 q2 q3 q5 "ValueError.__new__")) (u3 : PySem.HandSPX.refsVE bm = true)
    (u4 : PySem.W.findIn K (.ref C) "__setattr__" = some (some (.builtin "object.__setattr__"))) (u5 : PySem.W.subIn K (.ref C) (.type "BaseException") = some true) (u6 : PySem.W.typeIn K (.ref C) = some (.type "type")) (u7 : PySem.W.keepIn K (.ref C) = true)
    (u8 : PySem.W.findIn K (.ref C) "__init__" = some (some (.ref fI))) {oc : Value} {od : Option Addr} {osl : Array (Option Value)}
    (u9 : K.lookup fI = some ⟨oc, od, .func (PySem.W.ksFn "__init__" "InvalidDocument.__init__" (defArgs sx_InvalidDocument) (defBody sx_InvalidDocument) (defScope sx_InvalidDocument) .none kV doc pm an (.ref cda) ct cc), osl⟩)
    {ccl : Value} {cdd : Option Addr} {vs : Array Value} {ccs : Array (Option Value)} {file : Str} {tf : Tok}
    (u10 : K.lookup cda = some ⟨ccl, cdd, .fields vs, ccs⟩) (u11 : vs[2]? = some (.str file tf)) (u12 : ((l.prog.main.file : Str) == file) = true)
    {cl : Value} {cld : Option Addr} {csl : Array (Option Value)} (u13 : K.lookup cc = some ⟨cl, cld, .cell (some (.ref C)), csl⟩)
    (u14 : PySem.W.mroIn K C (.ref C) = some true) (u15 : PySem.W.nsIn K cStatics "thirdparty.any" = some none) (u16 : PySem.W.ks_superIn K C C "__init__" = some (some (.builtin "ValueError.__init__")))
    (u17 : PySem.W.subIn K (.ref C) (.type "ValueError") = some true) (u18 : PySem.W.nsIn K mainGlobals "super" = some none) (u19 : (l.prog.main.scope.names.lookup ("super" : Str)).isSome = false)
    (u20 : PySem.W.codeIn K (.ref cda) "InvalidDocument.__init__" = true) (u21 : PySem.W.findIn K (.ref C) "place" = some none) (u22 : PySem.W.typeIn K (.ref fI) = some (.type "function"))
    (u23 : PySem.W.nsIn K mainGlobals "SeamError" = some (some (.ref E))) (u24 : PySem.W.subIn K (.ref C) (.ref C) = some true) (u25 : PySem.W.hasDictIn K C = true)
    (u26 : PySem.W.findIn K (.ref C) "__getattribute__" = some (some (.builtin "BaseException.__getattribute__"))) (u27 : PySem.W.findIn K (.ref C) "__getattr__" = some none) (u28 : PySem.W.findIn K (.ref C) "__class__" = some (some (.builtin "object.__class__")))
    (u29 : PySem.W.specialIn K (.builtin "object.__class__") "__get__" = some (some (.builtin "getset_descriptor.__get__"))) (u30 : PySem.W.takesIn K (.builtin "object.__class__") = some true) (u31 : PySem.W.mroIn K C (.type "object") = some true)
    (u32 : PySem.W.subIn K (.ref C) (.ref E) = some true) (u33 : PySem.W.hasDictIn K E = true) (u34 : PySem.W.typeIn K (.ref E) = some (.type "type")) :
    ∃ fd : FuncData, (∀ (s : Shared) (v : Value), BindsTo s fd ⟨[v], []⟩ [("script", v)]) ∧ ∀ base : Heap, K.In base → base.Ns mainGlobals mg → FnOk l.prog w K mg base CX0 70 fa fd ["script"] (spLaw K) := by
  have e := hfa.symm.trans (PySem.W.mg_of X G a61)
  cases e
  have FIReader := fun_mk (st := si_Reader) lIReader cIReader kIReader
  have bIReader := FIReader.binds (ps := ["self", "text"]) fun _ _ _ _ _ _ us hl => match us, hl with | [_, _], _ => rfl
  have FIDocument := fun_mk (st := si_Document) lIDocument cIDocument kIDocument
  have bIDocument := FIDocument.binds (ps := ["self", "variables", "selection", "fragments"]) fun _ _ _ _ _ _ us hl => match us, hl with | [_, _, _, _], _ => rfl
  have F1 := fun_mk (st := s_is_name) l1 c1 k1
  have b1 := F1.binds (ps := ["text"]) fun _ _ _ _ _ _ us hl => match us, hl with | [_], _ => rfl
  have F2 := fun_mk (st := s_is_plain) l2 c2 k2
  have b2 := F2.binds (ps := ["code"]) fun _ _ _ _ _ _ us hl => match us, hl with | [_], _ => rfl
  have F3 := fun_mk (st := s_fits) l3 c3 k3
  have b3 := F3.binds (ps := ["scalar", "value"]) fun _ _ _ _ _ _ us hl => match us, hl with | [_, _], _ => rfl
  have F4 := fun_mk (st := s_may_follow) l4 c4 k4
  have b4 := F4.binds (ps := ["sign"]) fun _ _ _ _ _ _ us hl => match us, hl with | [_], _ => rfl
  have F5 := fun_mk (st := s_is_digit) l5 c5 k5
  have b5 := F5.binds (ps := ["sign"]) fun _ _ _ _ _ _ us hl => match us, hl with | [_], _ => rfl
  have F6 := fun_mk (st := s_end_of_name) l6 c6 k6
  have b6 := F6.binds (ps := ["text", "place"]) fun _ _ _ _ _ _ us hl => match us, hl with | [_, _], _ => rfl
  have F7 := fun_mk (st := s_read_name) l7 c7 k7
  have b7 := F7.binds (ps := ["text", "place"]) fun _ _ _ _ _ _ us hl => match us, hl with | [_, _], _ => rfl
  have F8 := fun_mk (st := s_read_number) l8 c8 k8
  have b8 := F8.binds (ps := ["text", "place"]) fun _ _ _ _ _ _ us hl => match us, hl with | [_, _], _ => rfl
  have F9 := fun_mk (st := s_read_variable) l9 c9 k9
  have b9 := F9.binds (ps := ["text", "place"]) fun _ _ _ _ _ _ us hl => match us, hl with | [_, _], _ => rfl
  have F10 := fun_mk (st := s_read_text) l10 c10 k10
  have b10 := F10.binds (ps := ["text", "place"]) fun _ _ _ _ _ _ us hl => match us, hl with | [_, _], _ => rfl
  have F11 := fun_mk (st := s_read_word) l11 c11 k11
  have b11 := F11.binds (ps := ["text", "place"]) fun _ _ _ _ _ _ us hl => match us, hl with | [_, _], _ => rfl
  have F12 := fun_mk (st := s_split_words) l12 c12 k12
  have b12 := F12.binds (ps := ["text"]) fun _ _ _ _ _ _ us hl => match us, hl with | [_], _ => rfl
  have F13 := fun_mk (st := s_R_ahead) l13 c13 k13
  have b13 := F13.binds (ps := ["self"]) fun _ _ _ _ _ _ us hl => match us, hl with | [_], _ => rfl
  have F14 := fun_mk (st := s_R_refuse) l14 c14 k14
  have b14 := F14.binds (ps := ["self"]) fun _ _ _ _ _ _ us hl => match us, hl with | [_], _ => rfl
  have F15 := fun_mk (st := s_R_take) l15 c15 k15
  have b15 := F15.binds (ps := ["self"]) fun _ _ _ _ _ _ us hl => match us, hl with | [_], _ => rfl
  have F16 := fun_mk (st := s_R_sees) l16 c16 k16
  have b16 := F16.binds (ps := ["self", "kind", "word"]) fun _ _ _ _ _ _ us hl => match us, hl with | [_, _, _], _ => rfl
  have F17 := fun_mk (st := s_R_accept) l17 c17 k17
  have b17 := F17.binds (ps := ["self", "kind", "word"]) fun _ _ _ _ _ _ us hl => match us, hl with | [_, _, _], _ => rfl
  have F18 := fun_mk (st := s_R_expect) l18 c18 k18
  have b18 := F18.binds (ps := ["self", "kind", "word"]) fun _ _ _ _ _ _ us hl => match us, hl with | [_, _, _], _ => rfl
  have F19 := fun_mk (st := s_R_expect_kind) l19 c19 k19
  have b19 := F19.binds (ps := ["self", "kind"]) fun _ _ _ _ _ _ us hl => match us, hl with | [_, _], _ => rfl
  have F20 := fun_mk (st := s_R_expect_name) l20 c20 k20
  have b20 := F20.binds (ps := ["self"]) fun _ _ _ _ _ _ us hl => match us, hl with | [_], _ => rfl
  have F21 := fun_mk (st := s_read_constant) l21 c21 k21
  have b21 := F21.binds (ps := ["reader"]) fun _ _ _ _ _ _ us hl => match us, hl with | [_], _ => rfl
  have F22 := fun_mk (st := s_read_value) l22 c22 k22
  have b22 := F22.binds (ps := ["reader"]) fun _ _ _ _ _ _ us hl => match us, hl with | [_], _ => rfl
  have F23 := fun_mk (st := s_read_condition) l23 c23 k23
  have b23 := F23.binds (ps := ["reader"]) fun _ _ _ _ _ _ us hl => match us, hl with | [_], _ => rfl
  have F24 := fun_mk (st := s_read_conditions) l24 c24 k24
  have b24 := F24.binds (ps := ["reader"]) fun _ _ _ _ _ _ us hl => match us, hl with | [_], _ => rfl
  have F25 := fun_mk (st := s_read_argument) l25 c25 k25
  have b25 := F25.binds (ps := ["reader"]) fun _ _ _ _ _ _ us hl => match us, hl with | [_], _ => rfl
  have F26 := fun_mk (st := s_read_arguments) l26 c26 k26
  have b26 := F26.binds (ps := ["reader"]) fun _ _ _ _ _ _ us hl => match us, hl with | [_], _ => rfl
  have F27 := fun_mk (st := s_read_kind) l27 c27 k27
  have b27 := F27.binds (ps := ["reader", "depth"]) fun _ _ _ _ _ _ us hl => match us, hl with | [_, _], _ => rfl
  have F28 := fun_mk (st := s_read_bare_kind) l28 c28 k28
  have b28 := F28.binds (ps := ["reader", "depth"]) fun _ _ _ _ _ _ us hl => match us, hl with | [_, _], _ => rfl
  have F29 := fun_mk (st := s_read_declaration) l29 c29 k29
  have b29 := F29.binds (ps := ["reader"]) fun _ _ _ _ _ _ us hl => match us, hl with | [_], _ => rfl
  have F30 := fun_mk (st := s_read_declarations) l30 c30 k30
  have b30 := F30.binds (ps := ["reader"]) fun _ _ _ _ _ _ us hl => match us, hl with | [_], _ => rfl
  have F31 := fun_mk (st := s_read_field) l31 c31 k31
  have b31 := F31.binds (ps := ["reader", "depth"]) fun _ _ _ _ _ _ us hl => match us, hl with | [_, _], _ => rfl
  have F32 := fun_mk (st := s_read_spread) l32 c32 k32
  have b32 := F32.binds (ps := ["reader", "depth"]) fun _ _ _ _ _ _ us hl => match us, hl with | [_, _], _ => rfl
  have F33 := fun_mk (st := s_read_part) l33 c33 k33
  have b33 := F33.binds (ps := ["reader", "depth"]) fun _ _ _ _ _ _ us hl => match us, hl with | [_, _], _ => rfl
  have F34 := fun_mk (st := s_read_selection) l34 c34 k34
  have b34 := F34.binds (ps := ["reader", "depth"]) fun _ _ _ _ _ _ us hl => match us, hl with | [_, _], _ => rfl
  have F35 := fun_mk (st := s_read_fragment) l35 c35 k35
  have b35 := F35.binds (ps := ["reader"]) fun _ _ _ _ _ _ us hl => match us, hl with | [_], _ => rfl
  have F36 := fun_mk (st := s_read_fragments) l36 c36 k36
  have b36 := F36.binds (ps := ["reader"]) fun _ _ _ _ _ _ us hl => match us, hl with | [_], _ => rfl
  have F37 := fun_mk (st := s_parse_document) l37 c37 k37
  have b37 := F37.binds (ps := ["text"]) fun _ _ _ _ _ _ us hl => match us, hl with | [_], _ => rfl
  have F38 := fun_mk (st := s_l_refill) l38 c38 k38
  have b38 := F38.binds (ps := ["script", "k"]) fun _ _ _ _ _ _ us hl => match us, hl with | [_, _], _ => rfl
  have F39 := fun_mk (st := s_l_draw) l39 c39 k39
  have b39 := F39.binds (ps := ["state", "script", "size"]) fun _ _ _ _ _ _ us hl => match us, hl with | [_, _, _], _ => rfl
  have F40 := fun_mk (st := s_l_run) l40 c40 k40
  have b40 := F40.binds (ps := ["text", "at", "signs"]) fun _ _ _ _ _ _ us hl => match us, hl with | [_, _, _], _ => rfl
  have F41 := fun_mk (st := s_l_named) l41 c41 k41
  have b41 := F41.binds (ps := ["text", "at", "place"]) fun _ _ _ _ _ _ us hl => match us, hl with | [_, _, _], _ => rfl
  have F42 := fun_mk (st := s_l_word_at) l42 c42 k42
  have b42 := F42.binds (ps := ["text", "at"]) fun _ _ _ _ _ _ us hl => match us, hl with | [_, _], _ => rfl
  have F43 := fun_mk (st := s_l_split) l43 c43 k43
  have b43 := F43.binds (ps := ["text"]) fun _ _ _ _ _ _ us hl => match us, hl with | [_], _ => rfl
  have F44 := fun_mk (st := s_l_is) l44 c44 k44
  have b44 := F44.binds (ps := ["words", "at", "kind", "word"]) fun _ _ _ _ _ _ us hl => match us, hl with | [_, _, _, _], _ => rfl
  have F45 := fun_mk (st := s_l_kind_at) l45 c45 k45
  have b45 := F45.binds (ps := ["words", "at", "kind"]) fun _ _ _ _ _ _ us hl => match us, hl with | [_, _, _], _ => rfl
  have F46 := fun_mk (st := s_l_plain_at) l46 c46 k46
  have b46 := F46.binds (ps := ["words", "at"]) fun _ _ _ _ _ _ us hl => match us, hl with | [_, _], _ => rfl
  have F47 := fun_mk (st := s_l_constant) l47 c47 k47
  have b47 := F47.binds (ps := ["words", "at"]) fun _ _ _ _ _ _ us hl => match us, hl with | [_, _], _ => rfl
  have F48 := fun_mk (st := s_l_value_at) l48 c48 k48
  have b48 := F48.binds (ps := ["words", "at"]) fun _ _ _ _ _ _ us hl => match us, hl with | [_, _], _ => rfl
  have F49 := fun_mk (st := s_l_type_at) l49 c49 k49
  have b49 := F49.binds (ps := ["words", "at", "depth"]) fun _ _ _ _ _ _ us hl => match us, hl with | [_, _, _], _ => rfl
  have F50 := fun_mk (st := s_l_declared) l50 c50 k50
  have b50 := F50.binds (ps := ["words", "at"]) fun _ _ _ _ _ _ us hl => match us, hl with | [_, _], _ => rfl
  have F51 := fun_mk (st := s_l_conditions_at) l51 c51 k51
  have b51 := F51.binds (ps := ["words", "at"]) fun _ _ _ _ _ _ us hl => match us, hl with | [_, _], _ => rfl
  have F52 := fun_mk (st := s_l_arguments_at) l52 c52 k52
  have b52 := F52.binds (ps := ["words", "at"]) fun _ _ _ _ _ _ us hl => match us, hl with | [_, _], _ => rfl
  have F53 := fun_mk (st := s_l_field_at) l53 c53 k53
  have b53 := F53.binds (ps := ["words", "at", "depth"]) fun _ _ _ _ _ _ us hl => match us, hl with | [_, _, _], _ => rfl
  have F54 := fun_mk (st := s_l_spread_at) l54 c54 k54
  have b54 := F54.binds (ps := ["words", "at", "depth"]) fun _ _ _ _ _ _ us hl => match us, hl with | [_, _, _], _ => rfl
  have F55 := fun_mk (st := s_l_selection_at) l55 c55 k55
  have b55 := F55.binds (ps := ["words", "at", "depth"]) fun _ _ _ _ _ _ us hl => match us, hl with | [_, _, _], _ => rfl
  have F56 := fun_mk (st := s_l_fragment_at) l56 c56 k56
  have b56 := F56.binds (ps := ["words", "at", "count"]) fun _ _ _ _ _ _ us hl => match us, hl with | [_, _, _], _ => rfl
  have F57 := fun_mk (st := s_l_document_at) l57 c57 k57
  have b57 := F57.binds (ps := ["words"]) fun _ _ _ _ _ _ us hl => match us, hl with | [_], _ => rfl
  have F58 := fun_mk (st := s_l_expected) l58 c58 k58
  have b58 := F58.binds (ps := ["text"]) fun _ _ _ _ _ _ us hl => match us, hl with | [_], _ => rfl
  have F59 := fun_mk (st := s_l_told) l59 c59 k59
  have b59 := F59.binds (ps := ["text"]) fun _ _ _ _ _ _ us hl => match us, hl with | [_], _ => rfl
  have F60 := fun_mk (st := s_l_start) l60 c60 k60
  have b60 := F60.binds (ps := ["state", "script"]) fun _ _ _ _ _ _ us hl => match us, hl with | [_, _], _ => rfl
  have F61 := fun_mk (st := s_law) l61 c61 k61
  have b61 := F61.binds (ps := ["script"]) fun _ _ _ _ _ _ us hl => match us, hl with | [_], _ => rfl
  obtain ⟨TD, TK⟩ := ktab3 (mg := mg) tk te1 te2 te3 tlow tq1 tq2 tq3
  let T : Tx K mg w := {
    C_Reader := CReader, g_Reader := PySem.W.mg_of X G aCReader, i_Reader := fIReader, di_Reader := _, Fi_Reader := FIReader, bi_Reader := bIReader, M_Reader := ⟨mkReader, aIReader, iIReader, kcReader⟩, cl_Reader := ⟨pgReader, hdReader, poReader, saReader⟩,
    n_Reader_words := nReader_words,
    n_Reader_at := nReader_at,
    C_Document := CDocument, g_Document := PySem.W.mg_of X G aCDocument, i_Document := fIDocument, di_Document := _, Fi_Document := FIDocument, bi_Document := bIDocument, M_Document := ⟨mkDocument, aIDocument, iIDocument, kcDocument⟩, cl_Document := ⟨pgDocument, hdDocument, poDocument, saDocument⟩,
    n_Document_variables := nDocument_variables,
    n_Document_selection := nDocument_selection,
    n_Document_fragments := nDocument_fragments,
    a_is_name := f1, d_is_name := _, F_is_name := F1, b_is_name := b1, m_is_name := PySem.W.mg_of X G a1,
    a_is_plain := f2, d_is_plain := _, F_is_plain := F2, b_is_plain := b2, m_is_plain := PySem.W.mg_of X G a2,
    a_fits := f3, d_fits := _, F_fits := F3, b_fits := b3, m_fits := PySem.W.mg_of X G a3,
    a_may_follow := f4, d_may_follow := _, F_may_follow := F4, b_may_follow := b4, m_may_follow := PySem.W.mg_of X G a4,
    a_is_digit := f5, d_is_digit := _, F_is_digit := F5, b_is_digit := b5, m_is_digit := PySem.W.mg_of X G a5,
    a_end_of_name := f6, d_end_of_name := _, F_end_of_name := F6, b_end_of_name := b6, m_end_of_name := PySem.W.mg_of X G a6,
    a_read_name := f7, d_read_name := _, F_read_name := F7, b_read_name := b7, m_read_name := PySem.W.mg_of X G a7,
    a_read_number := f8, d_read_number := _, F_read_number := F8, b_read_number := b8, m_read_number := PySem.W.mg_of X G a8,
    a_read_variable := f9, d_read_variable := _, F_read_variable := F9, b_read_variable := b9, m_read_variable := PySem.W.mg_of X G a9,
    a_read_text := f10, d_read_text := _, F_read_text := F10, b_read_text := b10, m_read_text := PySem.W.mg_of X G a10,
    a_read_word := f11, d_read_word := _, F_read_word := F11, b_read_word := b11, m_read_word := PySem.W.mg_of X G a11,
    a_split_words := f12, d_split_words := _, F_split_words := F12, b_split_words := b12, m_split_words := PySem.W.mg_of X G a12,
    a_R_ahead := f13, d_R_ahead := _, F_R_ahead := F13, b_R_ahead := b13, me_R_ahead := ⟨a13, i13, k13⟩,
    a_R_refuse := f14, d_R_refuse := _, F_R_refuse := F14, b_R_refuse := b14, me_R_refuse := ⟨a14, i14, k14⟩,
    a_R_take := f15, d_R_take := _, F_R_take := F15, b_R_take := b15, me_R_take := ⟨a15, i15, k15⟩,
    a_R_sees := f16, d_R_sees := _, F_R_sees := F16, b_R_sees := b16, me_R_sees := ⟨a16, i16, k16⟩,
    a_R_accept := f17, d_R_accept := _, F_R_accept := F17, b_R_accept := b17, me_R_accept := ⟨a17, i17, k17⟩,
    a_R_expect := f18, d_R_expect := _, F_R_expect := F18, b_R_expect := b18, me_R_expect := ⟨a18, i18, k18⟩,
    a_R_expect_kind := f19, d_R_expect_kind := _, F_R_expect_kind := F19, b_R_expect_kind := b19, me_R_expect_kind := ⟨a19, i19, k19⟩,
    a_R_expect_name := f20, d_R_expect_name := _, F_R_expect_name := F20, b_R_expect_name := b20, me_R_expect_name := ⟨a20, i20, k20⟩,
    a_read_constant := f21, d_read_constant := _, F_read_constant := F21, b_read_constant := b21, m_read_constant := PySem.W.mg_of X G a21,
    a_read_value := f22, d_read_value := _, F_read_value := F22, b_read_value := b22, m_read_value := PySem.W.mg_of X G a22,
    a_read_condition := f23, d_read_condition := _, F_read_condition := F23, b_read_condition := b23, m_read_condition := PySem.W.mg_of X G a23,
    a_read_conditions := f24, d_read_conditions := _, F_read_conditions := F24, b_read_conditions := b24, m_read_conditions := PySem.W.mg_of X G a24,
    a_read_argument := f25, d_read_argument := _, F_read_argument := F25, b_read_argument := b25, m_read_argument := PySem.W.mg_of X G a25,
    a_read_arguments := f26, d_read_arguments := _, F_read_arguments := F26, b_read_arguments := b26, m_read_arguments := PySem.W.mg_of X G a26,
    a_read_kind := f27, d_read_kind := _, F_read_kind := F27, b_read_kind := b27, m_read_kind := PySem.W.mg_of X G a27,
    a_read_bare_kind := f28, d_read_bare_kind := _, F_read_bare_kind := F28, b_read_bare_kind := b28, m_read_bare_kind := PySem.W.mg_of X G a28,
    a_read_declaration := f29, d_read_declaration := _, F_read_declaration := F29, b_read_declaration := b29, m_read_declaration := PySem.W.mg_of X G a29,
    a_read_declarations := f30, d_read_declarations := _, F_read_declarations := F30, b_read_declarations := b30, m_read_declarations := PySem.W.mg_of X G a30,
    a_read_field := f31, d_read_field := _, F_read_field := F31, b_read_field := b31, m_read_field := PySem.W.mg_of X G a31,
    a_read_spread := f32, d_read_spread := _, F_read_spread := F32, b_read_spread := b32, m_read_spread := PySem.W.mg_of X G a32,
    a_read_part := f33, d_read_part := _, F_read_part := F33, b_read_part := b33, m_read_part := PySem.W.mg_of X G a33,
    a_read_selection := f34, d_read_selection := _, F_read_selection := F34, b_read_selection := b34, m_read_selection := PySem.W.mg_of X G a34,
    a_read_fragment := f35, d_read_fragment := _, F_read_fragment := F35, b_read_fragment := b35, m_read_fragment := PySem.W.mg_of X G a35,
    a_read_fragments := f36, d_read_fragments := _, F_read_fragments := F36, b_read_fragments := b36, m_read_fragments := PySem.W.mg_of X G a36,
    a_parse_document := f37, d_parse_document := _, F_parse_document := F37, b_parse_document := b37, m_parse_document := PySem.W.mg_of X G a37,
    a_l_refill := f38, d_l_refill := _, F_l_refill := F38, b_l_refill := b38, m_l_refill := PySem.W.mg_of X G a38,
    a_l_draw := f39, d_l_draw := _, F_l_draw := F39, b_l_draw := b39, m_l_draw := PySem.W.mg_of X G a39,
    a_l_run := f40, d_l_run := _, F_l_run := F40, b_l_run := b40, m_l_run := PySem.W.mg_of X G a40,
    a_l_named := f41, d_l_named := _, F_l_named := F41, b_l_named := b41, m_l_named := PySem.W.mg_of X G a41,
    a_l_word_at := f42, d_l_word_at := _, F_l_word_at := F42, b_l_word_at := b42, m_l_word_at := PySem.W.mg_of X G a42,
    a_l_split := f43, d_l_split := _, F_l_split := F43, b_l_split := b43, m_l_split := PySem.W.mg_of X G a43,
    a_l_is := f44, d_l_is := _, F_l_is := F44, b_l_is := b44, m_l_is := PySem.W.mg_of X G a44,
    a_l_kind_at := f45, d_l_kind_at := _, F_l_kind_at := F45, b_l_kind_at := b45, m_l_kind_at := PySem.W.mg_of X G a45,
    a_l_plain_at := f46, d_l_plain_at := _, F_l_plain_at := F46, b_l_plain_at := b46, m_l_plain_at := PySem.W.mg_of X G a46,
    a_l_constant := f47, d_l_constant := _, F_l_constant := F47, b_l_constant := b47, m_l_constant := PySem.W.mg_of X G a47,
    a_l_value_at := f48, d_l_value_at := _, F_l_value_at := F48, b_l_value_at := b48, m_l_value_at := PySem.W.mg_of X G a48,
    a_l_type_at := f49, d_l_type_at := _, F_l_type_at := F49, b_l_type_at := b49, m_l_type_at := PySem.W.mg_of X G a49,
    a_l_declared := f50, d_l_declared := _, F_l_declared := F50, b_l_declared := b50, m_l_declared := PySem.W.mg_of X G a50,
    a_l_conditions_at := f51, d_l_conditions_at := _, F_l_conditions_at := F51, b_l_conditions_at := b51, m_l_conditions_at := PySem.W.mg_of X G a51,
    a_l_arguments_at := f52, d_l_arguments_at := _, F_l_arguments_at := F52, b_l_arguments_at := b52, m_l_arguments_at := PySem.W.mg_of X G a52,
    a_l_field_at := f53, d_l_field_at := _, F_l_field_at := F53, b_l_field_at := b53, m_l_field_at := PySem.W.mg_of X G a53,
    a_l_spread_at := f54, d_l_spread_at := _, F_l_spread_at := F54, b_l_spread_at := b54, m_l_spread_at := PySem.W.mg_of X G a54,
    a_l_selection_at := f55, d_l_selection_at := _, F_l_selection_at := F55, b_l_selection_at := b55, m_l_selection_at := PySem.W.mg_of X G a55,
    a_l_fragment_at := f56, d_l_fragment_at := _, F_l_fragment_at := F56, b_l_fragment_at := b56, m_l_fragment_at := PySem.W.mg_of X G a56,
    a_l_document_at := f57, d_l_document_at := _, F_l_document_at := F57, b_l_document_at := b57, m_l_document_at := PySem.W.mg_of X G a57,
    a_l_expected := f58, d_l_expected := _, F_l_expected := F58, b_l_expected := b58, m_l_expected := PySem.W.mg_of X G a58,
    a_l_told := f59, d_l_told := _, F_l_told := F59, b_l_told := b59, m_l_told := PySem.W.mg_of X G a59,
    a_l_start := f60, d_l_start := _, F_l_start := F60, b_l_start := b60, m_l_start := PySem.W.mg_of X G a60,
    a_law := fa, d_law := _, F_law := F61, b_law := b61, m_law := PySem.W.mg_of X G a61,
    t_LONGEST_NAME := t_LONGEST_NAME, c_LONGEST_NAME := PySem.W.mg_of X G g_LONGEST_NAME,
    t_LEAST_INT := t_LEAST_INT, c_LEAST_INT := PySem.W.mg_of X G g_LEAST_INT,
    t_GREATEST_INT := t_GREATEST_INT, c_GREATEST_INT := PySem.W.mg_of X G g_GREATEST_INT,
    t_FIRST_CODE := t_FIRST_CODE, c_FIRST_CODE := PySem.W.mg_of X G g_FIRST_CODE,
    t_LAST_CODE := t_LAST_CODE, c_LAST_CODE := PySem.W.mg_of X G g_LAST_CODE,
    t_EXCEPTED_CODE := t_EXCEPTED_CODE, c_EXCEPTED_CODE := PySem.W.mg_of X G g_EXCEPTED_CODE,
    t_BLANKS := t_BLANKS, c_BLANKS := PySem.W.mg_of X G g_BLANKS,
    t_SIGNS := t_SIGNS, c_SIGNS := PySem.W.mg_of X G g_SIGNS,
    t_DOTS := t_DOTS, c_DOTS := PySem.W.mg_of X G g_DOTS,
    t_QUOTE := t_QUOTE, c_QUOTE := PySem.W.mg_of X G g_QUOTE,
    t_MOST_DIGITS := t_MOST_DIGITS, c_MOST_DIGITS := PySem.W.mg_of X G g_MOST_DIGITS,
    t_TYPE_FIELD := t_TYPE_FIELD, c_TYPE_FIELD := PySem.W.mg_of X G g_TYPE_FIELD,
    t_DEEPEST_LIST := t_DEEPEST_LIST, c_DEEPEST_LIST := PySem.W.mg_of X G g_DEEPEST_LIST,
    t_DEEPEST_SELECTION := t_DEEPEST_SELECTION, c_DEEPEST_SELECTION := PySem.W.mg_of X G g_DEEPEST_SELECTION,
    t_MOST_FRAGMENTS := t_MOST_FRAGMENTS, c_MOST_FRAGMENTS := PySem.W.mg_of X G g_MOST_FRAGMENTS,
    z_all := PySem.W.mg_none_of X G z_all,
    z_bool := PySem.W.mg_none_of X G z_bool,
    z_int := PySem.W.mg_none_of X G z_int,
    z_isinstance := PySem.W.mg_none_of X G z_isinstance,
    z_len := PySem.W.mg_none_of X G z_len,
    z_ord := PySem.W.mg_none_of X G z_ord,
    z_range := PySem.W.mg_none_of X G z_range,
    z_str := PySem.W.mg_none_of X G z_str,
    z_tuple := PySem.W.mg_none_of X G z_tuple,
    tb_NAMED_CONSTANTS := td, es_NAMED_CONSTANTS := _, nn_NAMED_CONSTANTS := _, tm_NAMED_CONSTANTS := PySem.W.mg_of X G ta, kd_NAMED_CONSTANTS := TD, kt_NAMED_CONSTANTS := TK }
  have UT : OexC K C := ⟨⟨nm, q, N0, bs, bm, sn, sub, ab, col, dd, q0, q1, q2, q3, q5, u2, u3⟩, u4, u5, u6, u7⟩
  have U : Ts K l.prog mg := { C := C, fI := fI, cda := cda, cc := cc, kV := kV, doc := doc, pm := pm, ct := ct, an := an, S := ⟨UT, ⟨oc, od, osl, u9⟩, ⟨ccl, cdd, vs, ccs, file, tf, u10, u11, u12⟩, ⟨cl, cld, csl, u13⟩, u14, u15, u16, u17, PySem.W.mg_none_of X G u18, u19⟩, hcd := u20, hno := u21, fx := ⟨PySem.W.mg_of X G u1, UT, u8, u22⟩, bi := .all (fun us hl => match us, hl with | [_, _], _ => rfl), ex := PySem.W.exm_ref u5 u25 u6 u24, ec := ⟨u26, u27, u5, u25, u28, u29, u30, u31⟩, xf := ⟨u26, u27, u5, u25⟩, E := E, mE := PySem.W.mg_of X G u23, kE := kit_ref u33 u34 u32 }
  exact ⟨_, fun s v => .of_eq rfl, fun base _ _ => ok_law T U⟩
theorem walk {l : PySem.W.OpenLaw} {q : Program} {loose : List Str} {XP : (Str → Option Value) → Heap → Prop} {YP : World → Heap → Prop} {d : DefRec} {K : Params → PySem.W.Frag} (hn : l.most = some 63) (hdf : d.params.defaults = [])
    (hY : ∀ (w : World) (h : Heap), YP w h → (K w.params).In h)
    (F : ∀ (w : World) (mg : Str → Option Value) (fa : Addr) (h : Heap), (K w.params).In h → h.Ns mainGlobals mg → mg d.name = some (.ref fa) →
      ∃ fd : FuncData, (∀ (s : Shared) (u : Value), BindsTo s fd ⟨[u], []⟩ [("script", u)]) ∧ ∀ base : Heap, (K w.params).In base → base.Ns mainGlobals mg → FnOk l.prog w (K w.params) mg base CX0 70 fa fd ["script"] (spLaw (K w.params))) :
    PySem.W.WalkO q loose XP YP l.row.toRowW d [] (fun f vs => PySem.call f vs) :=
  L2.walk_of (n := 63) (k := 70) (x := "script") (CX := fun _ => CX0) (sp := fun w => spLaw (K w.params)) hn (by decide) hdf ⟨rfl, by decide, by decide⟩ hY F (fun _ _ a ns hl _ hS => ⟨a, ns, rfl, hS, hl, fun _ => rfl⟩) fun _ _ _ _ _ z => z
end K5
open PySem PySem.W PyProof.Rows
set_option maxRecDepth 100000 in
set_option maxHeartbeats 0 in
theorem PySem.Challenge.cw_seamgraph_k07_faults_of_documents_holds : PySem.Challenge.rw_seamgraph_k07_faults_of_documents.Holds := by
  w_on; o_law; k_head; (case hw => w_witness2)
  k_fill
  refine K5.walk (l := PySem.Challenge.rw_seamgraph_k07_faults_of_documents) rfl rfl (fun w h Y => PySem.W.kIn_of Y) ?F
  case F =>
    intro w mg fa h KX G hmg
    refine' K5.all_mk KX G hmg ?aCReader ?aIReader ?lIReader ?cIReader ?kIReader ?iIReader ?pgReader ?hdReader ?poReader ?saReader ?mkReader ?kcReader ?nReader_words ?nReader_at ?aCDocument ?aIDocument ?lIDocument ?cIDocument ?kIDocument ?iIDocument ?pgDocument ?hdDocument ?poDocument ?saDocument ?mkDocument ?kcDocument ?nDocument_variables ?nDocument_selection ?nDocument_fragments ?a1 ?l1 ?c1 ?k1 ?a2 ?l2 ?c2 ?k2 ?a3 ?l3 ?c3 ?k3 ?a4 ?l4 ?c4 ?k4 ?a5 ?l5 ?c5 ?k5 ?a6 ?l6 ?c6 ?k6 ?a7 ?l7 ?c7 ?k7 ?a8 ?l8 ?c8 ?k8 ?a9 ?l9 ?c9 ?k9 ?a10 ?l10 ?c10 ?k10 ?a11 ?l11 ?c11 ?k11 ?a12 ?l12 ?c12 ?k12 ?a13 ?l13 ?c13 ?k13 ?i13 ?a14 ?l14 ?c14 ?k14 ?i14 ?a15 ?l15 ?c15 ?k15 ?i15 ?a16 ?l16 ?c16 ?k16 ?i16 ?a17 ?l17 ?c17 ?k17 ?i17 ?a18 ?l18 ?c18 ?k18 ?i18 ?a19 ?l19 ?c19 ?k19 ?i19 ?a20 ?l20 ?c20 ?k20 ?i20 ?a21 ?l21 ?c21 ?k21 ?a22 ?l22 ?c22 ?k22 ?a23 ?l23 ?c23 ?k23 ?a24 ?l24 ?c24 ?k24 ?a25 ?l25 ?c25 ?k25 ?a26 ?l26 ?c26 ?k26 ?a27 ?l27 ?c27 ?k27 ?a28 ?l28 ?c28 ?k28 ?a29 ?l29 ?c29 ?k29 ?a30 ?l30 ?c30 ?k30 ?a31 ?l31 ?c31 ?k31 ?a32 ?l32 ?c32 ?k32 ?a33 ?l33 ?c33 ?k33 ?a34 ?l34 ?c34 ?k34 ?a35 ?l35 ?c35 ?k35 ?a36 ?l36 ?c36 ?k36 ?a37 ?l37 ?c37 ?k37 ?a38 ?l38 ?c38 ?k38 ?a39 ?l39 ?c39 ?k39 ?a40 ?l40 ?c40 ?k40 ?a41 ?l41 ?c41 ?k41 ?a42 ?l42 ?c42 ?k42 ?a43 ?l43 ?c43 ?k43 ?a44 ?l44 ?c44 ?k44 ?a45 ?l45 ?c45 ?k45 ?a46 ?l46 ?c46 ?k46 ?a47 ?l47 ?c47 ?k47 ?a48 ?l48 ?c48 ?k48 ?a49 ?l49 ?c49 ?k49 ?a50 ?l50 ?c50 ?k50 ?a51 ?l51 ?c51 ?k51 ?a52 ?l52 ?c52 ?k52 ?a53 ?l53 ?c53 ?k53 ?a54 ?l54 ?c54 ?k54 ?a55 ?l55 ?c55 ?k55 ?a56 ?l56 ?c56 ?k56 ?a57 ?l57 ?c57 ?k57 ?a58 ?l58 ?c58 ?k58 ?a59 ?l59 ?c59 ?k59 ?a60 ?l60 ?c60 ?k60 ?a61 ?l61 ?c61 ?k61 ?g_LONGEST_NAME ?g_LEAST_INT ?g_GREATEST_INT ?g_FIRST_CODE ?g_LAST_CODE ?g_EXCEPTED_CODE ?g_BLANKS ?g_SIGNS ?g_DOTS ?g_QUOTE ?g_MOST_DIGITS ?g_TYPE_FIELD ?g_DEEPEST_LIST ?g_DEEPEST_SELECTION ?g_MOST_FRAGMENTS ?z_all ?z_bool ?z_int ?z_isinstance ?z_len ?z_ord ?z_range ?z_str ?z_tuple ?ta ?tk ?te1 ?te2 ?te3 ?tlow ?tq1 ?tq2 ?tq3 ?u1 ?u2 ?u3 ?u4 ?u5 ?u6 ?u7 ?u8 ?u9 ?u10 ?u11 ?u12 ?u13 ?u14 ?u15 ?u16 ?u17 ?u18 ?u19 ?u20 ?u21 ?u22 ?u23 ?u24 ?u25 ?u26 ?u27 ?u28 ?u29 ?u30 ?u31 ?u32 ?u33 ?u34
    (case aCReader => k_is)
    (case aIReader => k_is)
    (case lIReader => k_is)
    (case cIReader => k_is)
    (case kIReader => k_is)
    (case iIReader => k_is)
    (case pgReader => k_is)
    (case hdReader => k_is)
    (case poReader => k_is)
    (case saReader => k_is)
    (case mkReader => k_is)
    (case kcReader => k_is)
    (case nReader_words => k_is)
    (case nReader_at => k_is)
    (case aCDocument => k_is)
    (case aIDocument => k_is)
    (case lIDocument => k_is)
    (case cIDocument => k_is)
    (case kIDocument => k_is)
    (case iIDocument => k_is)
    (case pgDocument => k_is)
    (case hdDocument => k_is)
    (case poDocument => k_is)
    (case saDocument => k_is)
    (case mkDocument => k_is)
    (case kcDocument => k_is)
    (case nDocument_variables => k_is)
    (case nDocument_selection => k_is)
    (case nDocument_fragments => k_is)
    (case a1 => k_is)
    (case l1 => k_is)
    (case c1 => k_is)
    (case k1 => k_is)
    (case a2 => k_is)
    (case l2 => k_is)
    (case c2 => k_is)
    (case k2 => k_is)
    (case a3 => k_is)
    (case l3 => k_is)
    (case c3 => k_is)
    (case k3 => k_is)
    (case a4 => k_is)
    (case l4 => k_is)
    (case c4 => k_is)
    (case k4 => k_is)
    (case a5 => k_is)
    (case l5 => k_is)
    (case c5 => k_is)
    (case k5 => k_is)
    (case a6 => k_is)
    (case l6 => k_is)
    (case c6 => k_is)
    (case k6 => k_is)
    (case a7 => k_is)
    (case l7 => k_is)
    (case c7 => k_is)
    (case k7 => k_is)
    (case a8 => k_is)
    (case l8 => k_is)
    (case c8 => k_is)
    (case k8 => k_is)
    (case a9 => k_is)
    (case l9 => k_is)
    (case c9 => k_is)
    (case k9 => k_is)
    (case a10 => k_is)
    (case l10 => k_is)
    (case c10 => k_is)
    (case k10 => k_is)
    (case a11 => k_is)
    (case l11 => k_is)
    (case c11 => k_is)
    (case k11 => k_is)
    (case a12 => k_is)
    (case l12 => k_is)
    (case c12 => k_is)
    (case k12 => k_is)
    (case a13 => k_is)
    (case l13 => k_is)
    (case c13 => k_is)
    (case k13 => k_is)
    (case i13 => k_is)
    (case a14 => k_is)
    (case l14 => k_is)
    (case c14 => k_is)
    (case k14 => k_is)
    (case i14 => k_is)
    (case a15 => k_is)
    (case l15 => k_is)
    (case c15 => k_is)
    (case k15 => k_is)
    (case i15 => k_is)
    (case a16 => k_is)
    (case l16 => k_is)
    (case c16 => k_is)
    (case k16 => k_is)
    (case i16 => k_is)
    (case a17 => k_is)
    (case l17 => k_is)
    (case c17 => k_is)
    (case k17 => k_is)
    (case i17 => k_is)
    (case a18 => k_is)
    (case l18 => k_is)
    (case c18 => k_is)
    (case k18 => k_is)
    (case i18 => k_is)
    (case a19 => k_is)
    (case l19 => k_is)
    (case c19 => k_is)
    (case k19 => k_is)
    (case i19 => k_is)
    (case a20 => k_is)
    (case l20 => k_is)
    (case c20 => k_is)
    (case k20 => k_is)
    (case i20 => k_is)
    (case a21 => k_is)
    (case l21 => k_is)
    (case c21 => k_is)
    (case k21 => k_is)
    (case a22 => k_is)
    (case l22 => k_is)
    (case c22 => k_is)
    (case k22 => k_is)
    (case a23 => k_is)
    (case l23 => k_is)
    (case c23 => k_is)
    (case k23 => k_is)
    (case a24 => k_is)
    (case l24 => k_is)
    (case c24 => k_is)
    (case k24 => k_is)
    (case a25 => k_is)
    (case l25 => k_is)
    (case c25 => k_is)
    (case k25 => k_is)
    (case a26 => k_is)
    (case l26 => k_is)
    (case c26 => k_is)
    (case k26 => k_is)
    (case a27 => k_is)
    (case l27 => k_is)
    (case c27 => k_is)
    (case k27 => k_is)
    (case a28 => k_is)
    (case l28 => k_is)
    (case c28 => k_is)
    (case k28 => k_is)
    (case a29 => k_is)
    (case l29 => k_is)
    (case c29 => k_is)
    (case k29 => k_is)
    (case a30 => k_is)
    (case l30 => k_is)
    (case c30 => k_is)
    (case k30 => k_is)
    (case a31 => k_is)
    (case l31 => k_is)
    (case c31 => k_is)
    (case k31 => k_is)
    (case a32 => k_is)
    (case l32 => k_is)
    (case c32 => k_is)
    (case k32 => k_is)
    (case a33 => k_is)
    (case l33 => k_is)
    (case c33 => k_is)
    (case k33 => k_is)
    (case a34 => k_is)
    (case l34 => k_is)
    (case c34 => k_is)
    (case k34 => k_is)
    (case a35 => k_is)
    (case l35 => k_is)
    (case c35 => k_is)
    (case k35 => k_is)
    (case a36 => k_is)
    (case l36 => k_is)
    (case c36 => k_is)
    (case k36 => k_is)
    (case a37 => k_is)
    (case l37 => k_is)
    (case c37 => k_is)
    (case k37 => k_is)
    (case a38 => k_is)
    (case l38 => k_is)
    (case c38 => k_is)
    (case k38 => k_is)
    (case a39 => k_is)
    (case l39 => k_is)
    (case c39 => k_is)
    (case k39 => k_is)
    (case a40 => k_is)
    (case l40 => k_is)
    (case c40 => k_is)
    (case k40 => k_is)
    (case a41 => k_is)
    (case l41 => k_is)
    (case c41 => k_is)
    (case k41 => k_is)
    (case a42 => k_is)
    (case l42 => k_is)
    (case c42 => k_is)
    (case k42 => k_is)
    (case a43 => k_is)
    (case l43 => k_is)
    (case c43 => k_is)
    (case k43 => k_is)
    (case a44 => k_is)
    (case l44 => k_is)
    (case c44 => k_is)
    (case k44 => k_is)
    (case a45 => k_is)
    (case l45 => k_is)
    (case c45 => k_is)
    (case k45 => k_is)
    (case a46 => k_is)
    (case l46 => k_is)
    (case c46 => k_is)
    (case k46 => k_is)
    (case a47 => k_is)
    (case l47 => k_is)
    (case c47 => k_is)
    (case k47 => k_is)
    (case a48 => k_is)
    (case l48 => k_is)
    (case c48 => k_is)
    (case k48 => k_is)
    (case a49 => k_is)
    (case l49 => k_is)
    (case c49 => k_is)
    (case k49 => k_is)
    (case a50 => k_is)
    (case l50 => k_is)
    (case c50 => k_is)
    (case k50 => k_is)
    (case a51 => k_is)
    (case l51 => k_is)
    (case c51 => k_is)
    (case k51 => k_is)
    (case a52 => k_is)
    (case l52 => k_is)
    (case c52 => k_is)
    (case k52 => k_is)
    (case a53 => k_is)
    (case l53 => k_is)
    (case c53 => k_is)
    (case k53 => k_is)
    (case a54 => k_is)
    (case l54 => k_is)
    (case c54 => k_is)
    (case k54 => k_is)
    (case a55 => k_is)
    (case l55 => k_is)
    (case c55 => k_is)
    (case k55 => k_is)
    (case a56 => k_is)
    (case l56 => k_is)
    (case c56 => k_is)
    (case k56 => k_is)
    (case a57 => k_is)
    (case l57 => k_is)
    (case c57 => k_is)
    (case k57 => k_is)
    (case a58 => k_is)
    (case l58 => k_is)
    (case c58 => k_is)
    (case k58 => k_is)
    (case a59 => k_is)
    (case l59 => k_is)
    (case c59 => k_is)
    (case k59 => k_is)
    (case a60 => k_is)
    (case l60 => k_is)
    (case c60 => k_is)
    (case k60 => k_is)
    (case a61 => k_is)
    (case l61 => k_is)
    (case c61 => k_is)
    (case k61 => k_is)
    (case g_LONGEST_NAME => k_is)
    (case g_LEAST_INT => k_is)
    (case g_GREATEST_INT => k_is)
    (case g_FIRST_CODE => k_is)
    (case g_LAST_CODE => k_is)
    (case g_EXCEPTED_CODE => k_is)
    (case g_BLANKS => k_is)
    (case g_SIGNS => k_is)
    (case g_DOTS => k_is)
    (case g_QUOTE => k_is)
    (case g_MOST_DIGITS => k_is)
    (case g_TYPE_FIELD => k_is)
    (case g_DEEPEST_LIST => k_is)
    (case g_DEEPEST_SELECTION => k_is)
    (case g_MOST_FRAGMENTS => k_is)
    (case z_all => k_is)
    (case z_bool => k_is)
    (case z_int => k_is)
    (case z_isinstance => k_is)
    (case z_len => k_is)
    (case z_ord => k_is)
    (case z_range => k_is)
    (case z_str => k_is)
    (case z_tuple => k_is)
    (case ta => k_is)
    (case tk => k_is)
    (case te1 => rfl)
    (case te2 => rfl)
    (case te3 => rfl)
    (case tlow => first | rfl | decide +kernel)
    (case tq1 => k_is)
    (case tq2 => k_is)
    (case tq3 => k_is)
    (case u1 => k_is)
    (case u2 => k_is)
    (case u3 => first | rfl | decide +kernel)
    (case u4 => k_is)
    (case u5 => k_is)
    (case u6 => k_is)
    (case u7 => k_is)
    (case u8 => k_is)
    (case u9 => k_is)
    (case u10 => k_is)
    (case u11 => rfl)
    (case u12 => first | rfl | decide +kernel)
    (case u13 => k_is)
    (case u14 => k_is)
    (case u15 => k_is)
    (case u16 => ks_is)
    (case u17 => k_is)
    (case u18 => k_is)
    (case u19 => first | rfl | decide +kernel)
    (case u20 => k_is)
    (case u21 => k_is)
    (case u22 => k_is)
    (case u23 => k_is)
    (case u24 => k_is)
    (case u25 => k_is)
    (case u26 => k_is)
    (case u27 => k_is)
    (case u28 => k_is)
    (case u29 => k_is)
    (case u30 => k_is)
    (case u31 => k_is)
    (case u32 => k_is)
    (case u33 => k_is)
    (case u34 => k_is)
