import PyProof.Rows.All
import Wide.All
import OpenK.AllK
import Wide.FinOn
import HandS.ForMost
import HandS.ForExc
import HandS.IsInst
import HandS.Wide
import HandS.StrMore
import HandS.Conv
import HandS.FStr
import HandS.EndBits
import HandS.RaiseMore
import HandS.ReplaceLit
import HandS.ExcIs
import HandS.ExcSuper
import HandS.ExcInit
import KE.KExcSuper
import KE.KSuper
import HandS.ExcField
import KE.KExcIs
import HandS.TryOnly
import HandS.SetKeys
import HandS.DictComp
import HandS.TupAny
import HandS.HotCalls
import HandS.ExcInitHot
import HandS.Text
import KE.KxIndex
import KE.IntTextLaws
import HandS.ReplaceList
import PySem.Challenge.RW_seamgraph_k05_words
set_option Elab.async false
set_option linter.all false
set_option maxRecDepth 100000
set_option maxHeartbeats 2000000
/-! A layer over the hand layer: values as trees, what is read as predicate transformers over them -/
namespace Dl
open PySem L2
/-- a value as a tree; drw: the one object that the draws change -/
inductive D where
  | non | bl (b : Bool) | int (i : Int) | str (s : Str)
  | lst (xs : List D) | tup (xs : List D) | dic (kvs : List (Key × D)) | ins (C : Str) (fs : List (Str × D)) | drw | scr (ns : List Int) | ty (n : String) | rf (a : Addr) | exc (a d : Addr) (fs : List (Str × D))
def D.I (d : D) (Q : Int → Prop) : Prop := match d with
  | .int i => Q i
  | _ => False
def D.B (d : D) (Q : Bool → Prop) : Prop := match d with
  | .bl i => Q i
  | _ => False
def D.S (d : D) (Q : Str → Prop) : Prop := match d with
  | .str i => Q i
  | _ => False
def D.L (d : D) (Q : List D → Prop) : Prop := match d with
  | .lst i => Q i
  | _ => False
def D.T (d : D) (Q : List D → Prop) : Prop := match d with
  | .tup i => Q i
  | _ => False
def D.K (d : D) (Q : List (Key × D) → Prop) : Prop := match d with
  | .dic i => Q i
  | _ => False
theorem D.I_ex {d : D} {Q : Int → Prop} (h : d.I Q) : ∃ i, d = .int i ∧ Q i := by
  cases d <;> first | exact ⟨_, rfl, h⟩ | exact h.elim
theorem D.B_ex {d : D} {Q : Bool → Prop} (h : d.B Q) : ∃ i, d = .bl i ∧ Q i := by
  cases d <;> first | exact ⟨_, rfl, h⟩ | exact h.elim
theorem D.S_ex {d : D} {Q : Str → Prop} (h : d.S Q) : ∃ i, d = .str i ∧ Q i := by
  cases d <;> first | exact ⟨_, rfl, h⟩ | exact h.elim
theorem D.L_ex {d : D} {Q : List D → Prop} (h : d.L Q) : ∃ i, d = .lst i ∧ Q i := by
  cases d <;> first | exact ⟨_, rfl, h⟩ | exact h.elim
theorem D.T_ex {d : D} {Q : List D → Prop} (h : d.T Q) : ∃ i, d = .tup i ∧ Q i := by
  cases d <;> first | exact ⟨_, rfl, h⟩ | exact h.elim
theorem D.K_ex {d : D} {Q : List (Key × D) → Prop} (h : d.K Q) : ∃ i, d = .dic i ∧ Q i := by
  cases d <;> first | exact ⟨_, rfl, h⟩ | exact h.elim
structure Wc where
  K : PySem.W.Frag
  mg : Str → Option Value
  s : Addr
mutual
inductive Rp (c : Wc) (Z : Hp) : V → D → Prop
  | non : Rp c Z .non .non
  | bl (b : Bool) : Rp c Z (.bl b) (.bl b)
  | int (i : Int) : Rp c Z (.int i) (.int i)
  | str (x : Str) : Rp c Z (.str x) (.str x)
  | lst {a : Addr} {xs : List V} {ds : List D} : Z a = some (.lst xs) → RpA c Z xs ds → Rp c Z (.ref a) (.lst ds)
  | tup {a : Addr} {xs : List V} {ds : List D} : SqT c.K Z a xs → RpA c Z xs ds → Rp c Z (.ref a) (.tup ds)
  | dic {a : Addr} {xs : List (Key × V)} {ds : List (Key × D)} : Rd Z a (.dK xs) → RpK c Z xs ds → Rp c Z (.ref a) (.dic ds)
  | ins {a C dx : Addr} {n : Str} {fs : List (Str × V)} {ds : List (Str × D)} : c.mg n = some (.ref C) → Z a = some (.ins C dx fs) → RpF c Z fs ds → Rp c Z (.ref a) (.ins n ds)
  | drw : Rp c Z (.ref c.s) .drw
  | scr {a : Addr} {ns : List Int} : SqL c.K Z a (ns.map V.int) → Rp c Z (.ref a) (.scr ns)
  | ty (n : String) : Rp c Z (.ty n) (.ty n)
  | rf (a : Addr) : Rp c Z (.ref a) (.rf a)
  | exc {a d : Addr} {fs : List (Str × V)} {ds : List (Str × D)} : Z d = some (.xd fs) → RpF c Z fs ds → Rp c Z (.ref a) (.exc a d ds)
inductive RpA (c : Wc) (Z : Hp) : List V → List D → Prop
  | nil : RpA c Z [] []
  | cons {v : V} {vs : List V} {d : D} {ds : List D} : Rp c Z v d → RpA c Z vs ds → RpA c Z (v :: vs) (d :: ds)
inductive RpK (c : Wc) (Z : Hp) : List (Key × V) → List (Key × D) → Prop
  | nil : RpK c Z [] []
  | cons {k : Key} {v : V} {vs : List (Key × V)} {d : D} {ds : List (Key × D)} : Rp c Z v d → RpK c Z vs ds → RpK c Z ((k, v) :: vs) ((k, d) :: ds)
inductive RpF (c : Wc) (Z : Hp) : List (Str × V) → List (Str × D) → Prop
  | nil : RpF c Z [] []
  | cons {k : Str} {v : V} {vs : List (Str × V)} {d : D} {ds : List (Str × D)} : Rp c Z v d → RpF c Z vs ds → RpF c Z ((k, v) :: vs) ((k, d) :: ds)
end
section
variable {c : Wc} {Z Z' : Hp}
theorem rd_mono {H H' : Hp} {a : Addr} {u : HO} (e : Same H H') (h : Rd H a u) : Rd H' a u := by
  rcases h with h | ⟨o, h⟩
  · exact .inl (e _ _ h)
  · exact .inr ⟨o, e _ _ h⟩
theorem same_t {K : PySem.W.Frag} {H H' : Hp} {a : Addr} {xs : List V} (e : Same H H') (h : SqT K H a xs) : SqT K H' a xs := by
  rcases h with (h | ⟨o, h⟩) | h
  · exact .inl (.inl (e _ _ h))
  · exact .inl (.inr ⟨o, e _ _ h⟩)
  · exact .inr h
mutual
theorem Rp.mono (e : Same Z Z') : ∀ {v : V} {d : D}, Rp c Z v d → Rp c Z' v d
  | _, _, .non => .non
  | _, _, .bl b => .bl b
  | _, _, .int i => .int i
  | _, _, .str x => .str x
  | _, _, .lst h r => .lst (e _ _ h) (RpA.mono e r)
  | _, _, .tup h r => .tup (same_t e h) (RpA.mono e r)
  | _, _, .dic h r => .dic (rd_mono e h) (RpK.mono e r)
  | _, _, .ins n h r => .ins n (e _ _ h) (RpF.mono e r)
  | _, _, .drw => .drw
  | _, _, .scr h => .scr (e.seq h)
  | _, _, .ty n => .ty n
  | _, _, .rf a => .rf a
  | _, _, .exc h r => .exc (e _ _ h) (RpF.mono e r)
theorem RpA.mono (e : Same Z Z') : ∀ {v : List V} {d : List D}, RpA c Z v d → RpA c Z' v d
  | _, _, .nil => .nil
  | _, _, .cons h r => .cons (Rp.mono e h) (RpA.mono e r)
theorem RpK.mono (e : Same Z Z') : ∀ {v : List (Key × V)} {d : List (Key × D)}, RpK c Z v d → RpK c Z' v d
  | _, _, .nil => .nil
  | _, _, .cons h r => .cons (Rp.mono e h) (RpK.mono e r)
theorem RpF.mono (e : Same Z Z') : ∀ {v : List (Str × V)} {d : List (Str × D)}, RpF c Z v d → RpF c Z' v d
  | _, _, .nil => .nil
  | _, _, .cons h r => .cons (Rp.mono e h) (RpF.mono e r)
end
theorem RpA.length : ∀ {vs : List V} {ds : List D}, RpA c Z vs ds → vs.length = ds.length
  | _, _, .nil => rfl
  | _, _, .cons _ r => by rw [List.length_cons, List.length_cons, RpA.length r]
theorem RpA.get : ∀ {vs : List V} {ds : List D} (i : Nat) {d : D}, RpA c Z vs ds → ds[i]? = some d → ∃ v, vs[i]? = some v ∧ Rp c Z v d
  | _, _, i, _, .nil, h => by simp at h
  | _, _, 0, _, .cons h _, e => by
    rw [List.getElem?_cons_zero] at e
    cases e
    exact ⟨_, rfl, h⟩
  | _, _, i + 1, _, .cons _ r, e => by
    rw [List.getElem?_cons_succ] at e
    obtain ⟨v, h1, h2⟩ := RpA.get i r e
    exact ⟨v, by rw [List.getElem?_cons_succ]; exact h1, h2⟩
theorem RpA.getV : ∀ {vs : List V} {ds : List D} (i : Nat) {v : V}, RpA c Z vs ds → vs[i]? = some v → ∃ d, ds[i]? = some d ∧ Rp c Z v d
  | _, _, i, _, .nil, h => by simp at h
  | _, _, 0, _, .cons h _, e => by
    rw [List.getElem?_cons_zero] at e
    cases e
    exact ⟨_, rfl, h⟩
  | _, _, i + 1, _, .cons _ r, e => by
    rw [List.getElem?_cons_succ] at e
    obtain ⟨v, h1, h2⟩ := RpA.getV i r e
    exact ⟨v, by rw [List.getElem?_cons_succ]; exact h1, h2⟩
theorem RpA.append : ∀ {vs ws : List V} {ds es : List D}, RpA c Z vs ds → RpA c Z ws es → RpA c Z (vs ++ ws) (ds ++ es)
  | _, _, _, _, .nil, h => h
  | _, _, _, _, .cons h r, h2 => .cons h (RpA.append r h2)
theorem RpA.drop : ∀ {vs : List V} {ds : List D} (n : Nat), RpA c Z vs ds → RpA c Z (vs.drop n) (ds.drop n)
  | _, _, 0, h => h
  | _, _, n + 1, .nil => .nil
  | _, _, n + 1, .cons _ r => RpA.drop n r
theorem RpA.take : ∀ {vs : List V} {ds : List D} (n : Nat), RpA c Z vs ds → RpA c Z (vs.take n) (ds.take n)
  | _, _, 0, _ => .nil
  | _, _, n + 1, .nil => .nil
  | _, _, n + 1, .cons h r => .cons h (RpA.take n r)
theorem RpA.set : ∀ {vs : List V} {ds : List D} (n : Nat) {v : V} {d : D}, RpA c Z vs ds → Rp c Z v d → RpA c Z (vs.set n v) (ds.set n d)
  | _, _, _, _, _, .nil, _ => .nil
  | _, _, 0, _, _, .cons h r, q => .cons q r
  | _, _, n + 1, _, _, .cons h r, q => .cons h (RpA.set n r q)
end
/-- the draws' object: two numbers, none below 0 -/
def StOk (s : Addr) (H : Hp) : Prop := ∃ i j : Int, H s = some (.lst [.int i, .int j]) ∧ 0 ≤ i ∧ 0 ≤ j
/-- the trees stand in the heap, apart from the draws' object -/
structure Bs (s : Addr) (Z H : Hp) : Prop where
  zh : Same Z H
  st : StOk s H
  zs : Z s = none
/-- from (Z, H) to (Z', H'): trees are added at new places, all else stands but the draws' object -/
structure Stp (s : Addr) (Z H Z' H' : Hp) : Prop where
  zz : Same Z Z'
  bs : Bs s Z' H'
  nw : ∀ a o, Z' a = some o → Z a = some o ∨ H a = none
  hh : ∀ a o, H a = some o → a ≠ s → H' a = some o
section
variable {s : Addr} {Z H Z' H' Z2 H2 : Hp}
theorem StOk.ne {p : Addr} (h : StOk s H) (e : H p = none) : s ≠ p := fun z => by
  obtain ⟨_, _, h, _⟩ := h
  rw [z, e] at h
  cases h
theorem Stp.refl (h : Bs s Z H) : Stp s Z H Z H := ⟨Same.refl _, h, fun _ _ e => .inl e, fun _ _ e _ => e⟩
theorem Stp.free {a : Addr} (h : Stp s Z H Z' H') (st : StOk s H) (e : H' a = none) : H a = none := by
  cases q : H a with
  | none => rfl
  | some o =>
    by_cases z : a = s
    · obtain ⟨i, j, h1, _⟩ := h.bs.st
      rw [z, h1] at e
      cases e
    · rw [h.hh a o q z] at e
      cases e
theorem Stp.trans (h : Stp s Z H Z' H') (h2 : Stp s Z' H' Z2 H2) (b : StOk s H) : Stp s Z H Z2 H2 :=
  ⟨h.zz.trans h2.zz, h2.bs, fun a o e => by
    rcases h2.nw a o e with e1 | e1
    · exact h.nw a o e1
    · exact .inr (h.free b e1), fun a o e n => h2.hh a o (h.hh a o e n) n⟩
/-- a new tree -/
theorem Stp.add {p : Addr} {o : HO} (h : Bs s Z H) (n : H p = none) : Stp s Z H (upd Z p o) (upd H p o) := by
  have zn : Z p = none := h.zh.free n
  have ne : s ≠ p := h.st.ne n
  refine ⟨fun a u e => by rw [upd_ne (ne_of_none e zn)]; exact e, ⟨fun a u e => ?_, ?_, by rw [upd_ne ne]; exact h.zs⟩, fun a u e => ?_, fun a u e _ => by rw [upd_ne (ne_of_none e n)]; exact e⟩
  · by_cases z : a = p
    · subst z
      rw [upd_same] at e ⊢
      exact e
    · rw [upd_ne z] at e ⊢
      exact h.zh a u e
  · obtain ⟨i, j, h1, h2, h3⟩ := h.st
    exact ⟨i, j, by rw [upd_ne ne]; exact h1, h2, h3⟩
  · by_cases z : a = p
    · subst z
      exact .inr n
    · rw [upd_ne z] at e
      exact .inl e
/-- a new object that is not yet a tree -/
theorem Stp.own {p : Addr} {o : HO} (h : Bs s Z H) (n : H p = none) : Stp s Z H Z (upd H p o) := by
  have ne : s ≠ p := h.st.ne n
  refine ⟨Same.refl _, ⟨fun a u e => by rw [upd_ne (ne_of_none (h.zh a u e) n)]; exact h.zh a u e, ?_, h.zs⟩, fun a u e => .inl e, fun a u e _ => by rw [upd_ne (ne_of_none e n)]; exact e⟩
  obtain ⟨i, j, h1, h2, h3⟩ := h.st
  exact ⟨i, j, by rw [upd_ne ne]; exact h1, h2, h3⟩
end
/-- what a name holds: nothing that is known, a tree, a list or a dict of this def's own that may still change -/
inductive Sl where
  | un | val (d : D) | ol (ds : List D) | od (kvs : List (Key × D))
abbrev En := List Sl
def SlOk (c : Wc) (Z H : Hp) : Sl → Option V → Prop
  | .un, _ => True
  | .val d, o => ∃ v, o = some v ∧ Rp c Z v d
  | .ol ds, o => ∃ a vs, o = some (.ref a) ∧ H a = some (.lst vs) ∧ RpA c Z vs ds
  | .od ds, o => ∃ a vs, o = some (.ref a) ∧ H a = some (.dK vs) ∧ RpK c Z vs ds
def Sl.own : Sl → Bool
  | .ol _ => true
  | .od _ => true
  | _ => false
/-- an error: its class by name, its fields where it has any -/
structure Exn where
  cls : Str
  fs : Option (List (Str × D))
def ExR (c : Wc) (Z H : Hp) (ex : Exn) (cls : Value) (od : Option Addr) : Prop :=
  ∃ C : Addr, c.mg ex.cls = some (.ref C) ∧ cls = .ref C ∧ match ex.fs with
    | none => od = none
    | some ds => ∃ d fs, od = some d ∧ Z d = some (.xd fs) ∧ RpF c Z fs ds
/-- the wishes: where the draws' object stands, what is wished of errors (of trees, of the hand layer) -/
structure Cc where
  s : Addr
  xd : Exn → Prop
  xk : XK
abbrev wc (X : Cx) (s : Addr) : Wc := ⟨X.K, X.mg, s⟩
structure Rt where
  Z0 : Hp
  H0 : Hp
  Zl : Hp
structure Ok (c : Wc) (k : Cc) (r : Rt) (Z H : Hp) (σ : St) (ρ : En) : Prop where
  en : Stp c.s r.Z0 r.H0 Z H
  s0 : StOk c.s r.H0
  lb : Same r.Zl Z
  sl : ∀ (i : Nat) (t : Sl), ρ[i]? = some t → ∃ o, σ[i]? = some o ∧ SlOk c Z H t o
  ow : ∀ (i : Nat) (t : Sl) (a : Addr), ρ[i]? = some t → t.own = true → σ[i]? = some (some (.ref a)) → Z a = none ∧ r.H0 a = none ∧ a ≠ c.s
  ds : ∀ (i j : Nat) (t u : Sl) (a : Addr), i ≠ j → ρ[i]? = some t → ρ[j]? = some u → t.own = true → u.own = true → σ[i]? = some (some (.ref a)) → σ[j]? ≠ some (some (.ref a))
  lk : ∀ (Z H : Hp) (ex : Exn) (cls : Value) (od : Option Addr), Stp c.s r.Z0 r.H0 Z H → ExR c Z H ex cls od → k.xd ex → k.xk cls od H
section
variable {c : Wc} {k : Cc} {r : Rt} {Z H Z' H' : Hp} {σ : St} {ρ : En}
theorem SlOk.own {t : Sl} {o : Option V} (h : SlOk c Z H t o) (ho : t.own = true) : ∃ a u, o = some (.ref a) ∧ H a = some u := by
  cases t with
  | un => cases ho
  | val d => cases ho
  | ol ds =>
    obtain ⟨a, vs, h1, h2, _⟩ := h
    exact ⟨a, _, h1, h2⟩
  | od ds =>
    obtain ⟨a, vs, h1, h2, _⟩ := h
    exact ⟨a, _, h1, h2⟩
theorem Ok.bs (h : Ok c k r Z H σ ρ) : Bs c.s Z H := h.en.bs
theorem SlOk.stp {t : Sl} {o : Option V} (h : SlOk c Z H t o) (e : Stp c.s Z H Z' H') (n : t.own = true → ∀ a, o = some (.ref a) → a ≠ c.s) : SlOk c Z' H' t o := by
  cases t with
  | un => trivial
  | val d =>
    obtain ⟨v, h1, h2⟩ := h
    exact ⟨v, h1, h2.mono e.zz⟩
  | ol ds =>
    obtain ⟨a, vs, h1, h2, h3⟩ := h
    exact ⟨a, vs, h1, e.hh _ _ h2 (n rfl a h1), h3.mono e.zz⟩
  | od ds =>
    obtain ⟨a, vs, h1, h2, h3⟩ := h
    exact ⟨a, vs, h1, e.hh _ _ h2 (n rfl a h1), h3.mono e.zz⟩
theorem Ok.stp (h : Ok c k r Z H σ ρ) (e : Stp c.s Z H Z' H') : Ok c k r Z' H' σ ρ := by
  refine ⟨h.en.trans e h.s0, h.s0, h.lb.trans e.zz, fun i t ht => ?_, fun i t a ht ho ha => ?_, h.ds, h.lk⟩
  · obtain ⟨o, h1, h2⟩ := h.sl i t ht
    exact ⟨o, h1, h2.stp e fun hw a ea => (h.ow i t a ht hw (by rw [h1, ea])).2.2⟩
  · obtain ⟨q1, q2, q3⟩ := h.ow i t a ht ho ha
    refine ⟨?_, q2, q3⟩
    obtain ⟨o, h1, h2⟩ := h.sl i t ht
    obtain ⟨b, u, h3, h4⟩ := h2.own ho
    rw [h1, h3] at ha
    cases ha
    cases z : Z' a with
    | none => rfl
    | some w =>
      rcases e.nw a w z with z1 | z1
      · rw [q1] at z1
        cases z1
      · rw [h4] at z1
        cases z1
/-- a name is given a tree -/
theorem Ok.set {i : Nat} {v : V} {d : D} (h : Ok c k r Z H σ ρ) (hv : Rp c Z v d) : Ok c k r Z H (σ.set i (some v)) (ρ.set i (.val d)) := by
  refine ⟨h.en, h.s0, h.lb, fun j t ht => ?_, fun j t a ht ho ha => ?_, fun j l t u a hjl ht hu ho ho' ha => ?_, h.lk⟩
  · by_cases hj : i = j
    · subst hj
      rw [List.getElem?_set] at ht
      rw [if_pos rfl] at ht
      split at ht
      · rename_i hl
        cases ht
        obtain ⟨o, h1, _⟩ := h.sl i _ (List.getElem?_eq_getElem hl)
        have hl2 : i < σ.length := (List.getElem?_eq_some_iff.mp h1).1
        refine ⟨some v, by rw [List.getElem?_set_self hl2], v, rfl, hv⟩
      · cases ht
    · rw [List.getElem?_set_ne hj] at ht ⊢
      exact h.sl j t ht
  · by_cases hj : i = j
    · subst hj
      rw [List.getElem?_set, if_pos rfl] at ht
      split at ht
      · cases ht
        cases ho
      · cases ht
    · rw [List.getElem?_set_ne hj] at ht ha
      exact h.ow j t a ht ho ha
  · have hj : i ≠ j := fun e => by
      subst e
      rw [List.getElem?_set, if_pos rfl] at ht
      split at ht
      · cases ht
        cases ho
      · cases ht
    have hl : i ≠ l := fun e => by
      subst e
      rw [List.getElem?_set, if_pos rfl] at hu
      split at hu
      · cases hu
        cases ho'
      · cases hu
    rw [List.getElem?_set_ne hj] at ht ha
    rw [List.getElem?_set_ne hl] at hu ⊢
    exact h.ds j l t u a hjl ht hu ho ho' ha
end
/-! ### judgements -/
abbrev WE := En → (D → Prop) → Prop
abbrev WA := En → (List D → Prop) → Prop
abbrev WT := En → (Bool → Prop) → Prop
structure DEnds where
  nx : En → Prop
  rt : D → Prop
  bk : En → Prop := fun _ => False
  ct : En → Prop := fun _ => False
abbrev WS := DEnds → En → Prop
def DE (X : Cx) (k : Cc) (e : Expr) (w : WE) : Prop := ∃ t, PE X e t ∧ ∀ (r : Rt) (Z H : Hp) (σ : St) (ρ : En) (Qd : D → Prop) (Q : VK), Ok (wc X k.s) k r Z H σ ρ → w ρ Qd →
  (∀ d v Z' H', Stp k.s Z H Z' H' → Rp (wc X k.s) Z' v d → Qd d → Q v H') → t σ H Q
def DA (X : Cx) (k : Cc) (es : List Expr) (w : WA) : Prop := ∃ t, PA X es t ∧ ∀ (r : Rt) (Z H : Hp) (σ : St) (ρ : En) (Qd : List D → Prop) (Q : List V → Hp → Prop), Ok (wc X k.s) k r Z H σ ρ → w ρ Qd →
  (∀ d v Z' H', Stp k.s Z H Z' H' → RpA (wc X k.s) Z' v d → Qd d → Q v H') → t σ H Q
def DT (X : Cx) (k : Cc) (e : Expr) (w : WT) : Prop := ∃ t, PT X e t ∧ ∀ (r : Rt) (Z H : Hp) (σ : St) (ρ : En) (Qd : Bool → Prop) (Q : Bool → Hp → Prop), Ok (wc X k.s) k r Z H σ ρ → w ρ Qd →
  (∀ b Z' H', Stp k.s Z H Z' H' → Qd b → Q b H') → t σ H Q
def DW (X : Cx) (k : Cc) (e : Expr) (w : WT) : Prop := ∃ t, PW X e t ∧ ∀ (r : Rt) (Z H : Hp) (σ : St) (ρ : En) (Qd : Bool → Prop) (Q : Bool → Hp → Prop), Ok (wc X k.s) k r Z H σ ρ → w ρ Qd →
  (∀ b Z' H', Stp k.s Z H Z' H' → Qd b → Q b H') → t σ H Q
structure Lk (c : Wc) (k : Cc) (r : Rt) (d : DEnds) (D : Ends) : Prop where
  nx : ∀ Z H σ ρ, Ok c k r Z H σ ρ → d.nx ρ → D.nx σ H
  rt : ∀ Z H v x, Stp c.s r.Z0 r.H0 Z H → Same r.Zl Z → Rp c Z v x → d.rt x → D.rt v H
  bk : ∀ Z H σ ρ, Ok c k r Z H σ ρ → d.bk ρ → D.bk σ H
  ct : ∀ Z H σ ρ, Ok c k r Z H σ ρ → d.ct ρ → D.ct σ H
def DS (X : Cx) (k : Cc) (st : Stmt) (w : WS) : Prop := ∃ t, PS X st t ∧ ∀ (r : Rt) (Z H : Hp) (σ : St) (ρ : En) (d : DEnds) (E : Ends), Ok (wc X k.s) k r Z H σ ρ → Lk (wc X k.s) k r d E → w d ρ → t E σ H
def DB (X : Cx) (k : Cc) (sts : List Stmt) (w : WS) : Prop := ∃ t, PSs X sts t ∧ ∀ (r : Rt) (Z H : Hp) (σ : St) (ρ : En) (d : DEnds) (E : Ends), Ok (wc X k.s) k r Z H σ ρ → Lk (wc X k.s) k r d E → w d ρ → t E σ H
abbrev WG := D → En → (En → Prop) → Prop
def DG (X : Cx) (k : Cc) (tg : Expr) (us : List Nat) (w : WG) : Prop := ∃ g, PG X tg g ∧ ∀ (r : Rt) (Z H : Hp) (σ : St) (ρ : En) (v : V) (d : D) (Qd : En → Prop) (Q : St → Hp → Prop), Ok (wc X k.s) k r Z H σ ρ → Rp (wc X k.s) Z v d → w d ρ Qd →
  (∀ σ' ρ', Ok (wc X k.s) k r Z H σ' ρ' → (∀ vs, (∀ i ∈ us, i ∈ vs) → wipe σ' vs = wipe σ vs) → Qd ρ' → Q σ' H) → g v σ H Q
abbrev WGs := List D → En → (En → Prop) → Prop
def DGs (X : Cx) (k : Cc) (tgs : List Expr) (us : List Nat) (w : WGs) : Prop := ∃ g, PGs X tgs g ∧ ∀ (r : Rt) (Z H : Hp) (σ : St) (ρ : En) (vs : List V) (ds : List D) (Qd : En → Prop) (Q : St → Hp → Prop), Ok (wc X k.s) k r Z H σ ρ → RpA (wc X k.s) Z vs ds → w ds ρ Qd →
  (∀ σ' ρ', Ok (wc X k.s) k r Z H σ' ρ' → (∀ vs, (∀ i ∈ us, i ∈ vs) → wipe σ' vs = wipe σ vs) → Qd ρ' → Q σ' H) → g vs σ H Q
/-- an operation of two values, of trees -/
abbrev R2D := D → D → (D → Prop) → Prop
def Op2 (X : Cx) (k : Cc) (r : R2) (rd : R2D) : Prop := ∀ (Z H : Hp) (x y : V) (a b : D) (Qd : D → Prop) (Q : VK), Bs k.s Z H → Rp (wc X k.s) Z x a → Rp (wc X k.s) Z y b → rd a b Qd →
  (∀ d v Z' H', Stp k.s Z H Z' H' → Rp (wc X k.s) Z' v d → Qd d → Q v H') → r x y H Q
abbrev R1D := D → (D → Prop) → Prop
def Op1 (X : Cx) (k : Cc) (r : V → Hp → VK → Prop) (rd : R1D) : Prop := ∀ (Z H : Hp) (x : V) (a : D) (Qd : D → Prop) (Q : VK), Bs k.s Z H → Rp (wc X k.s) Z x a → rd a Qd →
  (∀ d v Z' H', Stp k.s Z H Z' H' → Rp (wc X k.s) Z' v d → Qd d → Q v H') → r x H Q
abbrev RAD := List D → (D → Prop) → Prop
def OpA (X : Cx) (k : Cc) (r : List V → Hp → VK → Prop) (rd : RAD) : Prop := ∀ (Z H : Hp) (xs : List V) (ds : List D) (Qd : D → Prop) (Q : VK), Bs k.s Z H → RpA (wc X k.s) Z xs ds → rd ds Qd →
  (∀ d v Z' H', Stp k.s Z H Z' H' → Rp (wc X k.s) Z' v d → Qd d → Q v H') → r xs H Q
/-! ### expressions -/
section
variable {X : Cx} {k : Cc} {a b e : Expr} {es : List Expr} {wa wb w : WE} {pos : Pos}
def Sl.V (t : Option Sl) (Q : D → Prop) : Prop := match t with
  | some (.val d) => Q d
  | _ => False
theorem Sl.V_ex {t : Option Sl} {Q : D → Prop} (h : Sl.V t Q) : ∃ d, t = some (.val d) ∧ Q d := by
  cases t with
  | none => exact h.elim
  | some t => cases t <;> first | exact ⟨_, rfl, h⟩ | exact h.elim
def wVar (i : Nat) : WE := fun ρ Q => Sl.V ρ[i]? Q
theorem de_var {i : Nat} {x : Str} (hN : X.N[i]? = some x := by rfl) (hv : Vis X.env.scope x := by first | exact Or.inl rfl | exact Or.inr (Or.inl rfl) | exact Or.inr (Or.inr rfl)) (hd : (x == ("__debug__" : Str)) = false := by decide)
    (hcd : (x == ("__classdict__" : Str)) = false := by decide) : DE X k (.Name x pos) (wVar i) := by
  refine ⟨_, pe_var hN hv hd hcd, fun r Z H σ ρ Qd Q O h q => ?_⟩
  obtain ⟨d, h1, h2⟩ := Sl.V_ex h
  obtain ⟨o, h3, v, rfl, h4⟩ := O.sl i _ h1
  exact ⟨v, h3, q d v Z H (.refl O.bs) h4 h2⟩
def wC (d : D) : WE := fun _ Q => Q d
theorem de_int {i : Int} {j : Nat} : DE X k (.Constant (.int i) j pos) (wC (.int i)) := ⟨_, pe_int, fun r Z H σ ρ Qd Q O h q => q _ _ Z H (.refl O.bs) (.int i) h⟩
theorem de_str {x : Str} {j : Nat} : DE X k (.Constant (.str x) j pos) (wC (.str x)) := ⟨_, pe_str, fun r Z H σ ρ Qd Q O h q => q _ _ Z H (.refl O.bs) (.str x) h⟩
theorem de_bl {x : Bool} {j : Nat} : DE X k (.Constant (.bool x) j pos) (wC (.bl x)) := ⟨_, pe_bl, fun r Z H σ ρ Qd Q O h q => q _ _ Z H (.refl O.bs) (.bl x) h⟩
theorem de_non {j : Nat} : DE X k (.Constant .none j pos) (wC .non) := ⟨_, pe_non, fun r Z H σ ρ Qd Q O h q => q _ _ Z H (.refl O.bs) .non h⟩
/-- a module's constant -/
theorem de_glob {x : Str} {v : V} {d : D} {u : Value} (hm : X.mg x = some u) (r : RelV v u) (hd : ∀ Z, Rp (wc X k.s) Z v d) (hg : Gl X x := by rfl) (hdb : (x == ("__debug__" : Str)) = false := by decide) : DE X k (.Name x pos) (wC d) :=
  ⟨_, pe_glob hg hm r hdb, fun _ Z H σ ρ Qd Q O h q => q _ _ Z H (.refl O.bs) (hd Z) h⟩
theorem de_imp {w' : WE} (h : DE X k e w) (hw : ∀ ρ Q, w' ρ Q → w ρ Q) : DE X k e w' := by
  obtain ⟨t, p, f⟩ := h
  exact ⟨t, p, fun r Z H σ ρ Qd Q O h q => f r Z H σ ρ Qd Q O (hw _ _ h) q⟩
def wOp (rd : R2D) (wa wb : WE) : WE := fun ρ Q => wa ρ fun x => wb ρ fun y => rd x y Q
theorem op_core {r : R2} {rd : R2D} {ta tb : TE} (o : Op2 X k r rd)
    (ha : ∀ (r : Rt) (Z H : Hp) (σ : St) (ρ : En) (Qd : D → Prop) (Q : VK), Ok (wc X k.s) k r Z H σ ρ → wa ρ Qd → (∀ d v Z' H', Stp k.s Z H Z' H' → Rp (wc X k.s) Z' v d → Qd d → Q v H') → ta σ H Q)
    (hb : ∀ (r : Rt) (Z H : Hp) (σ : St) (ρ : En) (Qd : D → Prop) (Q : VK), Ok (wc X k.s) k r Z H σ ρ → wb ρ Qd → (∀ d v Z' H', Stp k.s Z H Z' H' → Rp (wc X k.s) Z' v d → Qd d → Q v H') → tb σ H Q) :
    ∀ (r' : Rt) (Z H : Hp) (σ : St) (ρ : En) (Qd : D → Prop) (Q : VK), Ok (wc X k.s) k r' Z H σ ρ → wOp rd wa wb ρ Qd → (∀ d v Z' H', Stp k.s Z H Z' H' → Rp (wc X k.s) Z' v d → Qd d → Q v H') → tOp r ta tb σ H Q := by
  intro r' Z H σ ρ Qd Q O h q
  refine ha r' Z H σ ρ _ _ O h fun x v Z1 H1 s1 r1 h1 => ?_
  refine hb r' Z1 H1 σ ρ _ _ (O.stp s1) h1 fun y u Z2 H2 s2 r2 h2 => ?_
  exact o Z2 H2 v u x y Qd Q s2.bs (r1.mono s2.zz) r2 h2 fun d w Z3 H3 s3 r3 h3 => q d w Z3 H3 ((s1.trans s2 O.bs.st).trans s3 O.bs.st) r3 h3
theorem de_op {op : Operator} {r : R2} {rd : R2D} (ho : OpR X (binaryOp op) r) (o : Op2 X k r rd) (ha : DE X k a wa) (hb : DE X k b wb) : DE X k (.BinOp a op b pos) (wOp rd wa wb) := by
  obtain ⟨ta, pa, fa⟩ := ha
  obtain ⟨tb, pb, fb⟩ := hb
  exact ⟨_, pe_op ho pa pb, op_core o fa fb⟩
theorem de_cmp {op : CmpOp} {r : R2} {rd : R2D} (ho : OpR X (compareOp op) r) (o : Op2 X k r rd) (ha : DE X k a wa) (hb : DE X k b wb) (hm : behindInMarks op b = false := by first | exact nobehind _ (by decide) (by decide) | rfl) : DE X k (.Compare a [op] [b] pos) (wOp rd wa wb) := by
  obtain ⟨ta, pa, fa⟩ := ha
  obtain ⟨tb, pb, fb⟩ := hb
  exact ⟨_, pe_cmpR ho pa pb hm, op_core o fa fb⟩
/-- a bool as a test's answer -/
def wB (w : WE) : WT := fun ρ Q => w ρ fun d => d.B Q
theorem dt_cmp {op : CmpOp} {r : R2} {rd : R2D} (ho : OpR X (compareOp op) r) (o : Op2 X k r rd) (ha : DE X k a wa) (hb : DE X k b wb) (hm : behindInMarks op b = false := by first | exact nobehind _ (by decide) (by decide) | rfl) : DT X k (.Compare a [op] [b] pos) (wB (wOp rd wa wb)) := by
  obtain ⟨ta, pa, fa⟩ := ha
  obtain ⟨tb, pb, fb⟩ := hb
  refine ⟨_, pt_cmpR ho pa pb hm, fun r Z H σ ρ Qd Q O h q => ?_⟩
  refine op_core o fa fb r Z H σ ρ _ _ O h fun d v Z1 H1 s1 r1 h1 => ?_
  obtain ⟨c, e0, g0⟩ := D.B_ex h1
  clear h1
  have h1 := g0
  clear g0
  subst e0
  cases r1
  exact ⟨c, rfl, q c Z1 H1 s1 h1⟩
/-- an expression whose value is a bool, as a test -/
theorem dt_val (h : DE X k e w) (he : ∀ whole, isTrue e X.env whole = (do let v ← whole; standAt e.pos; holding [v] (truthy v)) := by intro _; rfl) : DT X k e (wB w) := by
  obtain ⟨t, p, f⟩ := h
  refine ⟨_, pt_val p he, fun r Z H σ ρ Qd Q O h q => ?_⟩
  refine f r Z H σ ρ _ _ O h fun d v Z1 H1 s1 r1 h1 => ?_
  obtain ⟨c, e0, g0⟩ := D.B_ex h1
  clear h1
  have h1 := g0
  clear g0
  subst e0
  cases r1
  exact ⟨c, rfl, q c Z1 H1 s1 h1⟩
def wNotT (w : WT) : WT := fun ρ Q => w ρ fun b => Q (!b)
theorem dt_not {w : WT} (h : DT X k e w) : DT X k (.UnaryOp .Not e pos) (wNotT w) := by
  obtain ⟨t, p, f⟩ := h
  exact ⟨_, pt_not p, fun r Z H σ ρ Qd Q O h q => f r Z H σ ρ _ _ O h fun b Z1 H1 s1 h1 => q _ Z1 H1 s1 h1⟩
def wAndT (w u : WT) : WT := fun ρ Q => w ρ fun b => if b = true then u ρ Q else Q false
def wOrT (w u : WT) : WT := fun ρ Q => w ρ fun b => if b = true then Q true else u ρ Q
theorem dw_and1 {w : WT} (h : DT X k a w) : DW X k (.BoolOp .And [a] pos) w := by
  obtain ⟨t, p, f⟩ := h
  exact ⟨_, pw_and1 p, f⟩
theorem dw_or1 {w : WT} (h : DT X k a w) : DW X k (.BoolOp .Or [a] pos) w := by
  obtain ⟨t, p, f⟩ := h
  exact ⟨_, pw_or1 p, f⟩
theorem dw_and {w u : WT} (h : DT X k a w) (h2 : DW X k (.BoolOp .And (b :: es) pos) u) : DW X k (.BoolOp .And (a :: b :: es) pos) (wAndT w u) := by
  obtain ⟨t, p, f⟩ := h
  obtain ⟨t2, p2, f2⟩ := h2
  refine ⟨_, pw_and p p2, fun r Z H σ ρ Qd Q O h q => ?_⟩
  refine f r Z H σ ρ _ _ O h fun b Z1 H1 s1 h1 => ?_
  cases b with
  | true => exact iteT (f2 r Z1 H1 σ ρ Qd Q (O.stp s1) (by simpa using h1) fun c Z2 H2 s2 h2 => q c Z2 H2 (s1.trans s2 O.bs.st) h2)
  | false => exact iteF (q false Z1 H1 s1 (by simpa using h1))
theorem dw_or {w u : WT} (h : DT X k a w) (h2 : DW X k (.BoolOp .Or (b :: es) pos) u) : DW X k (.BoolOp .Or (a :: b :: es) pos) (wOrT w u) := by
  obtain ⟨t, p, f⟩ := h
  obtain ⟨t2, p2, f2⟩ := h2
  refine ⟨_, pw_or p p2, fun r Z H σ ρ Qd Q O h q => ?_⟩
  refine f r Z H σ ρ _ _ O h fun b Z1 H1 s1 h1 => ?_
  cases b with
  | false => exact iteF (f2 r Z1 H1 σ ρ Qd Q (O.stp s1) (by simpa using h1) fun c Z2 H2 s2 h2 => q c Z2 H2 (s1.trans s2 O.bs.st) h2)
  | true => exact iteT (q true Z1 H1 s1 (by simpa using h1))
theorem dt_w {w : WT} (h : DW X k e w) : DT X k e w := by
  obtain ⟨t, p, f⟩ := h
  exact ⟨t, p.pt, f⟩
/-- and, or, not of bools as values -/
def wAndV (wa wb : WE) : WE := fun ρ Q => wa ρ fun x => x.B fun b => if b = true then wb ρ Q else Q (.bl false)
def wOrV (wa wb : WE) : WE := fun ρ Q => wa ρ fun x => x.B fun b => if b = true then Q (.bl true) else wb ρ Q
def wNotV (wa : WE) : WE := fun ρ Q => wa ρ fun x => x.B fun b => Q (.bl (!b))
theorem de_one {op : BoolOp} (h : DE X k a wa) : DE X k (.BoolOp op [a] pos) wa := by
  obtain ⟨t, p, f⟩ := h
  exact ⟨t, pe_one p, f⟩
theorem de_and (h : DE X k a wa) (h2 : DE X k (.BoolOp .And (b :: es) pos) wb) : DE X k (.BoolOp .And (a :: b :: es) pos) (wAndV wa wb) := by
  obtain ⟨t, p, f⟩ := h
  obtain ⟨t2, p2, f2⟩ := h2
  refine ⟨_, pe_and p p2, fun r Z H σ ρ Qd Q O h q => ?_⟩
  refine f r Z H σ ρ _ _ O h fun d v Z1 H1 s1 r1 h1 => ?_
  obtain ⟨c, e0, g0⟩ := D.B_ex h1
  clear h1
  have h1 := g0
  clear g0
  subst e0
  cases r1
  refine ⟨c, rfl, ?_⟩
  cases c with
  | true => exact iteT (f2 r Z1 H1 σ ρ Qd Q (O.stp s1) (by simpa using h1) fun c v Z2 H2 s2 r2 h2 => q c v Z2 H2 (s1.trans s2 O.bs.st) r2 h2)
  | false => exact iteF (q _ _ Z1 H1 s1 (.bl false) (by simpa using h1))
theorem de_or (h : DE X k a wa) (h2 : DE X k (.BoolOp .Or (b :: es) pos) wb) : DE X k (.BoolOp .Or (a :: b :: es) pos) (wOrV wa wb) := by
  obtain ⟨t, p, f⟩ := h
  obtain ⟨t2, p2, f2⟩ := h2
  refine ⟨_, pe_or p p2, fun r Z H σ ρ Qd Q O h q => ?_⟩
  refine f r Z H σ ρ _ _ O h fun d v Z1 H1 s1 r1 h1 => ?_
  obtain ⟨c, e0, g0⟩ := D.B_ex h1
  clear h1
  have h1 := g0
  clear g0
  subst e0
  cases r1
  refine ⟨c, rfl, ?_⟩
  cases c with
  | false => exact iteF (f2 r Z1 H1 σ ρ Qd Q (O.stp s1) (by simpa using h1) fun c v Z2 H2 s2 r2 h2 => q c v Z2 H2 (s1.trans s2 O.bs.st) r2 h2)
  | true => exact iteT (q _ _ Z1 H1 s1 (.bl true) (by simpa using h1))
theorem de_not (h : DE X k a wa) : DE X k (.UnaryOp .Not a pos) (wNotV wa) := by
  obtain ⟨t, p, f⟩ := h
  refine ⟨_, pe_not p, fun r Z H σ ρ Qd Q O h q => ?_⟩
  refine f r Z H σ ρ _ _ O h fun d v Z1 H1 s1 r1 h1 => ?_
  obtain ⟨c, e0, g0⟩ := D.B_ex h1
  clear h1
  have h1 := g0
  clear g0
  subst e0
  cases r1
  exact ⟨c, rfl, q _ _ Z1 H1 s1 (.bl _) h1⟩
def wIfE (w : WT) (wa wb : WE) : WE := fun ρ Q => w ρ fun c => if c = true then wa ρ Q else wb ρ Q
theorem de_if {w : WT} {c : Expr} (h : DT X k c w) (ha : DE X k a wa) (hb : DE X k b wb) : DE X k (.IfExp c a b pos) (wIfE w wa wb) := by
  obtain ⟨t, p, f⟩ := h
  obtain ⟨ta, pa, fa⟩ := ha
  obtain ⟨tb, pb, fb⟩ := hb
  refine ⟨_, pe_ifExp p pa pb, fun r Z H σ ρ Qd Q O h q => ?_⟩
  refine f r Z H σ ρ _ _ O h fun b Z1 H1 s1 h1 => ?_
  cases b with
  | true => exact iteT (fa r Z1 H1 σ ρ Qd Q (O.stp s1) (by simpa using h1) fun c v Z2 H2 s2 r2 h2 => q c v Z2 H2 (s1.trans s2 O.bs.st) r2 h2)
  | false => exact iteF (fb r Z1 H1 σ ρ Qd Q (O.stp s1) (by simpa using h1) fun c v Z2 H2 s2 r2 h2 => q c v Z2 H2 (s1.trans s2 O.bs.st) r2 h2)
/-- two comparisons in a chain -/
def wChain (rd rd' : R2D) (wa wb wc : WE) : WE := fun ρ Q => wa ρ fun x => wb ρ fun y => rd x y fun z => z.B fun c => if c = true then wc ρ fun u => rd' y u Q else Q (.bl false)
theorem chain_core {r r' : R2} {rd rd' : R2D} {ta tb tc : TE} {wc' : WE} (o : Op2 X k r rd) (o' : Op2 X k r' rd')
    (ha : ∀ (r : Rt) (Z H : Hp) (σ : St) (ρ : En) (Qd : D → Prop) (Q : VK), Ok (wc X k.s) k r Z H σ ρ → wa ρ Qd → (∀ d v Z' H', Stp k.s Z H Z' H' → Rp (wc X k.s) Z' v d → Qd d → Q v H') → ta σ H Q)
    (hb : ∀ (r : Rt) (Z H : Hp) (σ : St) (ρ : En) (Qd : D → Prop) (Q : VK), Ok (wc X k.s) k r Z H σ ρ → wb ρ Qd → (∀ d v Z' H', Stp k.s Z H Z' H' → Rp (wc X k.s) Z' v d → Qd d → Q v H') → tb σ H Q)
    (hc : ∀ (r : Rt) (Z H : Hp) (σ : St) (ρ : En) (Qd : D → Prop) (Q : VK), Ok (wc X k.s) k r Z H σ ρ → wc' ρ Qd → (∀ d v Z' H', Stp k.s Z H Z' H' → Rp (wc X k.s) Z' v d → Qd d → Q v H') → tc σ H Q) :
    ∀ (r0 : Rt) (Z H : Hp) (σ : St) (ρ : En) (Qd : D → Prop) (Q : VK), Ok (wc X k.s) k r0 Z H σ ρ → wChain rd rd' wa wb wc' ρ Qd → (∀ d v Z' H', Stp k.s Z H Z' H' → Rp (wc X k.s) Z' v d → Qd d → Q v H') → tChain r r' ta tb tc σ H Q := by
  intro r0 Z H σ ρ Qd Q O h q
  refine ha r0 Z H σ ρ _ _ O h fun x v Z1 H1 s1 r1 h1 => ?_
  refine hb r0 Z1 H1 σ ρ _ _ (O.stp s1) h1 fun y u Z2 H2 s2 r2 h2 => ?_
  refine o Z2 H2 v u x y _ _ s2.bs (r1.mono s2.zz) r2 h2 fun d w Z3 H3 s3 r3 h3 => ?_
  have s13 := (s1.trans s2 O.bs.st).trans s3 O.bs.st
  obtain ⟨c, e0, g0⟩ := D.B_ex h3
  clear h3
  have h3 := g0
  clear g0
  subst e0
  cases r3
  refine ⟨c, rfl, ?_⟩
  cases c with
  | true =>
    refine iteT (hc r0 Z3 H3 σ ρ _ _ (O.stp s13) (by simpa using h3) fun z w' Z4 H4 s4 r4 h4 => ?_)
    exact o' Z4 H4 u w' y z Qd Q s4.bs (r2.mono (s3.zz.trans s4.zz)) r4 h4 fun d w5 Z5 H5 s5 r5 h5 => q d w5 Z5 H5 ((s13.trans s4 O.bs.st).trans s5 O.bs.st) r5 h5
  | false => exact iteF (q _ _ Z3 H3 s13 (.bl false) (by simpa using h3))
theorem de_chain {op op' : CmpOp} {c : Expr} {r r' : R2} {rd rd' : R2D} {wc' : WE} (ho : OpR X (compareOp op) r) (o : Op2 X k r rd) (ho' : OpR X (compareOp op') r') (o' : Op2 X k r' rd') (ha : DE X k a wa) (hb : DE X k b wb) (hc : DE X k c wc') (hm : lastMarks [op, op'] [b, c] = false := by rfl) :
    DE X k (.Compare a [op, op'] [b, c] pos) (wChain rd rd' wa wb wc') := by
  obtain ⟨ta, pa, fa⟩ := ha
  obtain ⟨tb, pb, fb⟩ := hb
  obtain ⟨tc, pc, fc⟩ := hc
  exact ⟨_, pe_chain ho ho' pa pb pc hm, chain_core o o' fa fb fc⟩
theorem dt_chain {op op' : CmpOp} {c : Expr} {r r' : R2} {rd rd' : R2D} {wc' : WE} (ho : OpR X (compareOp op) r) (o : Op2 X k r rd) (ho' : OpR X (compareOp op') r') (o' : Op2 X k r' rd') (ha : DE X k a wa) (hb : DE X k b wb) (hc : DE X k c wc') (hm : lastMarks [op, op'] [b, c] = false := by rfl) :
    DT X k (.Compare a [op, op'] [b, c] pos) (wB (wChain rd rd' wa wb wc')) := by
  obtain ⟨ta, pa, fa⟩ := ha
  obtain ⟨tb, pb, fb⟩ := hb
  obtain ⟨tc, pc, fc⟩ := hc
  refine ⟨_, pt_chain ho ho' pa pb pc hm, fun r Z H σ ρ Qd Q O h q => ?_⟩
  refine chain_core o o' fa fb fc r Z H σ ρ _ _ O h fun d v Z1 H1 s1 r1 h1 => ?_
  obtain ⟨c, e0, g0⟩ := D.B_ex h1
  clear h1
  have h1 := g0
  clear g0
  subst e0
  cases r1
  exact ⟨c, rfl, q c Z1 H1 s1 h1⟩
/-- argument lists -/
def wNil : WA := fun _ Q => Q []
def wCons (w : WE) (u : WA) : WA := fun ρ Q => w ρ fun x => u ρ fun xs => Q (x :: xs)
theorem da_nil : DA X k [] wNil := ⟨_, pa_nil, fun r Z H σ ρ Qd Q O h q => q [] [] Z H (.refl O.bs) .nil h⟩
theorem da_cons {u : WA} (h : DE X k e w) (h2 : DA X k es u) (hs : starEach (e :: es) X.env = (false, eval e X.env) :: starEach es X.env := by rfl) : DA X k (e :: es) (wCons w u) := by
  obtain ⟨t, p, f⟩ := h
  obtain ⟨t2, p2, f2⟩ := h2
  refine ⟨_, pa_cons p p2 hs, fun r Z H σ ρ Qd Q O h q => ?_⟩
  refine f r Z H σ ρ _ _ O h fun d v Z1 H1 s1 r1 h1 => ?_
  exact f2 r Z1 H1 σ ρ _ _ (O.stp s1) h1 fun ds vs Z2 H2 s2 r2 h2 => q _ _ Z2 H2 (s1.trans s2 O.bs.st) (.cons (r1.mono s2.zz) r2) h2
/-- tuples, lists as they are written; lists are trees from the start -/
def wTup (u : WA) : WE := fun ρ Q => u ρ fun xs => xs.length ≤ 100000 ∧ Q (.tup xs)
def wLst (u : WA) : WE := fun ρ Q => u ρ fun xs => xs.length ≤ 100000 ∧ Q (.lst xs)
theorem sz {n : Nat} (h : n ≤ 100000) : n ≤ sizeLine := Nat.le_trans h (by decide)
theorem rp_tup {c : Wc} {Z H : Hp} {p : Addr} {vs : List V} {ds : List D} (h : RpA c Z vs ds) (b : Bs c.s Z H) (n : H p = none) : Rp c (upd Z p (.tup vs)) (.ref p) (.tup ds) :=
  .tup (.inl (.inl upd_same)) (h.mono (Stp.add b n).zz)
theorem rp_lst {c : Wc} {Z H : Hp} {p : Addr} {vs : List V} {ds : List D} (h : RpA c Z vs ds) (b : Bs c.s Z H) (n : H p = none) : Rp c (upd Z p (.lst vs)) (.ref p) (.lst ds) :=
  .lst upd_same (h.mono (Stp.add b n).zz)
theorem de_tup {u : WA} {x1 : Nat} (h : DA X k es u) : DE X k (.Tuple es x1 pos) (wTup u) := by
  obtain ⟨t, p, f⟩ := h
  refine ⟨_, pe_tup p, fun r Z H σ ρ Qd Q O h q => ?_⟩
  refine f r Z H σ ρ _ _ O h fun ds vs Z1 H1 s1 r1 h1 => ?_
  refine ⟨by rw [r1.length]; exact sz h1.1, fun p hp => ?_⟩
  exact q _ _ _ _ (s1.trans (.add s1.bs hp) O.bs.st) (rp_tup r1 s1.bs hp) h1.2
theorem de_lst {u : WA} (h : DA X k es u) : DE X k (.List es pos) (wLst u) := by
  obtain ⟨t, p, f⟩ := h
  refine ⟨_, pe_lst p, fun r Z H σ ρ Qd Q O h q => ?_⟩
  refine f r Z H σ ρ _ _ O h fun ds vs Z1 H1 s1 r1 h1 => ?_
  refine ⟨by rw [r1.length]; exact sz h1.1, fun p hp => ?_⟩
  exact q _ _ _ _ (s1.trans (.add s1.bs hp) O.bs.st) (rp_lst r1 s1.bs hp) h1.2
end
end Dl
set_option Elab.async false
set_option linter.all false
set_option maxRecDepth 100000
set_option maxHeartbeats 2000000
namespace Dl
open PySem L2
/-! ### targets -/
section
variable {X : Cx} {k : Cc} {a b e : Expr} {es : List Expr} {wa wb w : WE} {pos : Pos}
def wgName (i : Nat) : WG := fun d ρ Q => Q (ρ.set i (.val d))
theorem wipe_set {σ : St} {i : Nat} {x : Option V} : ∀ {vs : List Nat}, i ∈ vs → wipe (σ.set i x) vs = wipe σ vs
  | [], h => by cases h
  | v :: vs, h => by
    by_cases e : i ∈ vs
    · show (wipe (σ.set i x) vs).set v none = (wipe σ vs).set v none
      rw [wipe_set e]
    · have e2 : i = v := by
        rcases List.mem_cons.mp h with z | z
        · exact z
        · exact absurd z e
      subst e2
      have q : ∀ ws : List Nat, i ∉ ws → wipe (σ.set i x) ws = (wipe σ ws).set i x := by
        intro ws
        induction ws with
        | nil => intro _; rfl
        | cons w ws ih =>
          intro hn
          have h1 : i ≠ w := fun z => hn (by rw [z]; exact List.mem_cons_self)
          have h2 : i ∉ ws := fun z => hn (List.mem_cons_of_mem _ z)
          show (wipe (σ.set i x) ws).set w none = ((wipe σ ws).set w none).set i x
          rw [ih h2, List.set_comm _ _ h1]
      show (wipe (σ.set i x) vs).set i none = (wipe σ vs).set i none
      rw [q vs e, List.set_set]
theorem dg_name {i : Nat} {x : Str} (hN : X.N.Nodup) (hi : X.N[i]? = some x := by rfl) (hx : Loc X.env.scope x := by first | exact Or.inl rfl | exact Or.inr rfl) (hf : X.fn x = true ∨ X.env.scope.names.lookup x = some .local := by first | exact .inl rfl | exact .inr rfl | assumption) : DG X k (.Name x pos) [i] (wgName i) :=
  ⟨_, pg_name hN hi hx hf, fun r Z H σ ρ v d Qd Q O rv h q => q _ _ (O.set rv) (fun vs hv => wipe_set (hv i List.mem_cons_self)) h⟩
def wgNil : WGs := fun ds ρ Q => match ds with
  | [] => Q ρ
  | _ => False
def wgCons (w : WG) (u : WGs) : WGs := fun ds ρ Q => match ds with
  | d :: r => w d ρ fun ρ' => u r ρ' Q
  | [] => False
theorem dgs_nil : DGs X k [] [] wgNil := ⟨_, pgs_nil, fun r Z H σ ρ vs ds Qd Q O rv h q => by
  cases rv with
  | nil => exact ⟨rfl, q _ _ O (fun _ _ => rfl) h⟩
  | cons _ _ => exact h.elim⟩
theorem dgs_cons {w : WG} {u : WGs} {us vs : List Nat} (h1 : DG X k e us w) (h2 : DGs X k es vs u) (hs : (assignEach (e :: es) X.env).map (·.2) = assign e X.env :: (assignEach es X.env).map (·.2) := by rfl) : DGs X k (e :: es) (us ++ vs) (wgCons w u) := by
  obtain ⟨g, p, f⟩ := h1
  obtain ⟨g2, p2, f2⟩ := h2
  refine ⟨_, pgs_cons p p2 hs, fun r Z H σ ρ vs ds Qd Q O rv h q => ?_⟩
  cases rv with
  | nil => exact h.elim
  | cons r1 r2 => exact ⟨_, _, rfl, f r Z H σ ρ _ _ _ _ O r1 h fun σ' ρ' O' w1 h' => f2 r Z H σ' ρ' _ _ _ _ O' r2 h' fun σ2 ρ2 O2 w2 h2 => q σ2 ρ2 O2 (fun vs hv => (w2 vs fun i hi => hv i (List.mem_append_right _ hi)).trans (w1 vs fun i hi => hv i (List.mem_append_left _ hi))) h2⟩
def wgTup (n : Nat) (u : WGs) : WG := fun d ρ Q => d.T fun ds => ds.length = n ∧ u ds ρ Q
theorem dg_tup {kk : Nat} {u : WGs} {n : Nat} {us : List Nat} (hc : X.calm = true) (h : DGs X k es us u) (hn : (assignEach es X.env).length = n := by rfl) (hst : (assignEach es X.env).findIdx? (·.1) = none := by rfl) : DG X k (.Tuple es kk pos) us (wgTup n u) := by
  obtain ⟨g, p, f⟩ := h
  refine ⟨_, pg_tup hc p hn hst, fun r Z H σ ρ v d Qd Q O rv h q => ?_⟩
  obtain ⟨ds, e0, hl, g0⟩ := D.T_ex h
  clear h
  have h := g0
  clear g0
  subst e0
  cases rv with
  | tup hs hr => exact ⟨_, _, rfl, same_t O.bs.zh hs, by rw [hr.length, hl], f r Z H σ ρ _ _ _ _ O hr h q⟩
/-! ### statements -/
variable {st : Stmt} {rest : List Stmt} {u v : WS}
def wNext : WS := fun d ρ => d.nx ρ
theorem db_nil : DB X k [] wNext := ⟨_, pss_nil, fun r Z H σ ρ d E O L h => L.nx Z H σ ρ O h⟩
def wSeq (u v : WS) : WS := fun d ρ => u { d with nx := v d } ρ
theorem db_cons (h : DS X k st u) (h2 : DB X k rest v) : DB X k (st :: rest) (wSeq u v) := by
  obtain ⟨t, p, f⟩ := h
  obtain ⟨t2, p2, f2⟩ := h2
  refine ⟨_, pss_cons p p2, fun r Z H σ ρ d E O L h => ?_⟩
  exact f r Z H σ ρ { d with nx := v d } { E with nx := t2 E } O ⟨fun Z' H' σ' ρ' O' h' => f2 r Z' H' σ' ρ' d E O' L h', L.rt, L.bk, L.ct⟩ h
theorem db_one (h : DS X k st u) : DB X k [st] u := by
  obtain ⟨t, p, f⟩ := h
  exact ⟨_, pss_one p, f⟩
def wSet (i : Nat) (w : WE) : WS := fun d ρ => w ρ fun x => d.nx (ρ.set i (.val x))
theorem ds_set {i : Nat} {x : Str} {pos' : Pos} (hN : X.N.Nodup) (h : DE X k e w) (hi : X.N[i]? = some x := by rfl) (hx : Loc X.env.scope x := by first | exact Or.inl rfl | exact Or.inr rfl) (hs : swapsWith e (some (.Name x pos')) pos.line X.env = pure false := by rfl)
    (hf : X.fn x = true ∨ X.env.scope.names.lookup x = some .local := by first | exact .inl rfl | exact .inr rfl | assumption) : DS X k (.Assign [.Name x pos'] e pos) (wSet i w) := by
  obtain ⟨t, p, f⟩ := h
  refine ⟨_, ps_set hN hi hx p hs hf, fun r Z H σ ρ d E O L h => ?_⟩
  exact f r Z H σ ρ _ _ O h fun x v Z1 H1 s1 r1 h1 => L.nx Z1 H1 _ _ ((O.stp s1).set r1) h1
def wAsg (w : WE) (g : WG) : WS := fun d ρ => w ρ fun x => g x ρ d.nx
theorem ds_asg {tg : Expr} {g : WG} {us : List Nat} (h : DE X k e w) (hg : DG X k tg us g) (hs : swapsWithSole [tg] e pos.line X.env = pure false := by rfl) (hw : swappedStores [tg] e X.env = pure none := by rfl) (h1 : (assignEach [tg] X.env).map (·.2) = [assign tg X.env] := by rfl) : DS X k (.Assign [tg] e pos) (wAsg w g) := by
  obtain ⟨t, p, f⟩ := h
  obtain ⟨g', p', f'⟩ := hg
  refine ⟨_, ps_asg p p' hs hw h1, fun r Z H σ ρ d E O L h => ?_⟩
  exact f r Z H σ ρ _ _ O h fun x v Z1 H1 s1 r1 h1 => f' r Z1 H1 σ ρ v x _ _ (O.stp s1) r1 h1 fun σ' ρ' O' _ h' => L.nx Z1 H1 σ' ρ' O' h'
def wDrop (w : WE) : WS := fun d ρ => w ρ fun _ => d.nx ρ
theorem ds_expr (h : DE X k e w) (hs : swapsWith e none pos.line X.env = pure false := by rfl) : DS X k (.Expr e pos) (wDrop w) := by
  obtain ⟨t, p, f⟩ := h
  refine ⟨_, ps_expr p hs, fun r Z H σ ρ d E O L h => ?_⟩
  exact f r Z H σ ρ _ _ O h fun x v Z1 H1 s1 r1 h1 => L.nx Z1 H1 _ _ (O.stp s1) h1
def wRet (w : WE) : WS := fun d ρ => w ρ d.rt
theorem ds_ret (h : DE X k e w) : DS X k (.Return (some e) pos) (wRet w) := by
  obtain ⟨t, p, f⟩ := h
  refine ⟨_, ps_ret p, fun r Z H σ ρ d E O L h => ?_⟩
  exact f r Z H σ ρ _ _ O h fun x v Z1 H1 s1 r1 h1 => L.rt Z1 H1 v x (O.en.trans s1 O.s0) (O.lb.trans s1.zz) r1 h1
def wRetN : WS := fun d _ => d.rt .non
theorem ds_retN : DS X k (.Return none pos) wRetN := ⟨_, ps_retN, fun r Z H σ ρ d E O L h => L.rt Z H _ _ O.en O.lb .non h⟩
theorem ds_pass : DS X k (.Pass pos) wNext := ⟨_, ps_pass, fun r Z H σ ρ d E O L h => L.nx Z H σ ρ O h⟩
def wBrk : WS := fun d ρ => d.bk ρ
def wCont : WS := fun d ρ => d.ct ρ
theorem ds_break : DS X k (.Break pos) wBrk := ⟨_, ps_break, fun r Z H σ ρ d E O L h => L.bk Z H σ ρ O h⟩
theorem ds_continue : DS X k (.Continue pos) wCont := ⟨_, ps_continue, fun r Z H σ ρ d E O L h => L.ct Z H σ ρ O h⟩
def wIf (w : WT) (u v : WS) : WS := fun d ρ => w ρ fun b => if b = true then u d ρ else v d ρ
theorem ds_if {w : WT} {p q : List Stmt} (h : DT X k e w) (hu : DB X k p u) (hv : DB X k q v) : DS X k (.If e p q pos) (wIf w u v) := by
  obtain ⟨t, p, f⟩ := h
  obtain ⟨t1, p1, f1⟩ := hu
  obtain ⟨t2, p2, f2⟩ := hv
  refine ⟨_, ps_if p p1 p2, fun r Z H σ ρ d E O L h => ?_⟩
  refine f r Z H σ ρ _ _ O h fun b Z1 H1 s1 h1 => ?_
  cases b with
  | true => exact iteT (f1 r Z1 H1 σ ρ d E (O.stp s1) L (by simpa using h1))
  | false => exact iteF (f2 r Z1 H1 σ ρ d E (O.stp s1) L (by simpa using h1))
theorem ds_imp {u' : WS} (h : DS X k st u) (hu : ∀ d ρ, u' d ρ → u d ρ) : DS X k st u' := by
  obtain ⟨t, p, f⟩ := h
  exact ⟨t, p, fun r Z H σ ρ d E O L h => f r Z H σ ρ d E O L (hu _ _ h)⟩
theorem db_imp {u' : WS} (h : DB X k rest u) (hu : ∀ d ρ, u' d ρ → u d ρ) : DB X k rest u' := by
  obtain ⟨t, p, f⟩ := h
  exact ⟨t, p, fun r Z H σ ρ d E O L h => f r Z H σ ρ d E O L (hu _ _ h)⟩
/-! ### what is walked -/
/-- the turns of an iterator give the trees ds -/
def ItD (c : Wc) (Z : Hp) (J : It) (ds : List D) : Prop := ∀ Z2 H2, Same Z Z2 → Bs c.s Z2 H2 → (∀ i, i < ds.length → J.go i H2) ∧ (∀ i, ds.length ≤ i → J.stop i H2) ∧
  ∀ i x H', J.yld i H2 x H' → i < ds.length → ∃ d Z3, ds[i]? = some d ∧ Stp c.s Z2 H2 Z3 H' ∧ Rp c Z3 x d
def DI (X : Cx) (k : Cc) (tg it : Expr) (w : WA) : Prop := ∃ wi, PI X tg it wi ∧ ∀ (r : Rt) (Z H : Hp) (σ : St) (ρ : En) (Qd : List D → Prop) (R : It → Hp → Prop), Ok (wc X k.s) k r Z H σ ρ → w ρ Qd →
  (∀ ds Z' H' J, Stp k.s Z H Z' H' → ItD (wc X k.s) Z' J ds → Qd ds → R J H') → wi σ H R
theorem itd_list {c : Wc} {Z : Hp} {a : Addr} {xs : List V} {ds : List D} (h : Z a = some (.lst xs)) (hr : RpA c Z xs ds) : ItD c Z (Itl c.K a) ds := by
  intro Z2 H2 e b
  have h2 : SqL c.K H2 a xs := .inl (.inl (b.zh _ _ (e _ _ h)))
  refine ⟨fun i hi => ?_, fun i hi => ⟨xs, h2, by rw [hr.length]; exact hi⟩, fun i x H' y hi => ?_⟩
  · rw [← hr.length] at hi
    exact ⟨xs, xs[i], h2, List.getElem?_eq_getElem hi⟩
  · obtain ⟨rfl, y⟩ := y
    obtain ⟨d, h3, h4⟩ := hr.getV i (y xs h2)
    exact ⟨d, Z2, h3, .refl b, h4.mono e⟩
theorem itd_tup {c : Wc} {Z : Hp} {a : Addr} {xs : List V} {ds : List D} (h : SqT c.K Z a xs) (hr : RpA c Z xs ds) : ItD c Z (Itt c.K a) ds := by
  intro Z2 H2 e b
  have h2 : SqT c.K H2 a xs := same_t b.zh (same_t e h)
  refine ⟨fun i hi => ?_, fun i hi => ⟨xs, h2, by rw [hr.length]; exact hi⟩, fun i x H' y hi => ?_⟩
  · rw [← hr.length] at hi
    exact ⟨xs, xs[i], h2, List.getElem?_eq_getElem hi⟩
  · obtain ⟨rfl, y⟩ := y
    obtain ⟨d, h3, h4⟩ := hr.getV i (y xs h2)
    exact ⟨d, Z2, h3, .refl b, h4.mono e⟩
/-- a list, a tuple that is a tree -/
def wiL (w : WE) : WA := fun ρ Q => w ρ fun d => d.L Q
def wiT (w : WE) : WA := fun ρ Q => w ρ fun d => d.T Q
theorem di_list {tg : Expr} (h : DE X k e w) : DI X k tg e (wiL w) := by
  obtain ⟨t, p, f⟩ := h
  refine ⟨_, pi_list p, fun r Z H σ ρ Qd R O h q => ?_⟩
  refine f r Z H σ ρ _ _ O h fun d v Z1 H1 s1 r1 h1 => ?_
  obtain ⟨ds, e0, g0⟩ := D.L_ex h1
  clear h1
  have h1 := g0
  clear g0
  subst e0
  cases r1 with
  | lst hs hr => exact ⟨_, rfl, ⟨_, .inl (.inl (s1.bs.zh _ _ hs))⟩, q ds Z1 H1 _ s1 (itd_list hs hr) h1⟩
theorem di_tup {tg : Expr} (h : DE X k e w) : DI X k tg e (wiT w) := by
  obtain ⟨t, p, f⟩ := h
  refine ⟨_, pi_tup p, fun r Z H σ ρ Qd R O h q => ?_⟩
  refine f r Z H σ ρ _ _ O h fun d v Z1 H1 s1 r1 h1 => ?_
  obtain ⟨ds, e0, g0⟩ := D.T_ex h1
  clear h1
  have h1 := g0
  clear g0
  subst e0
  cases r1 with
  | tup hs hr => exact ⟨_, rfl, ⟨_, same_t s1.bs.zh hs⟩, q ds Z1 H1 _ s1 (itd_tup hs hr) h1⟩
/-- range(n) -/
def rngD (n : Int) : List D := (List.range n.toNat).map fun i => .int (i : Nat)
def wiR (w : WE) : WA := fun ρ Q => w ρ fun d => d.I fun n => (-1000000 ≤ n ∧ n ≤ 1000000) ∧ Q (rngD n)
theorem itd_range {c : Wc} (Z : Hp) (n : Int) : ItD c Z (Itr 0 n.toNat) (rngD n) := by
  intro Z2 H2 e b
  have hl : (rngD n).length = n.toNat := by unfold rngD; rw [List.length_map, List.length_range]
  refine ⟨fun i hi => by rw [hl] at hi; exact hi, fun i hi => by rw [hl] at hi; exact hi, fun i x H' y hi => ?_⟩
  obtain ⟨rfl, rfl⟩ := y
  rw [hl] at hi
  refine ⟨.int (i : Nat), Z2, ?_, .refl b, ?_⟩
  · unfold rngD
    rw [List.getElem?_map, List.getElem?_range hi]
    rfl
  · rw [Int.zero_add]
    exact .int _
theorem di_range {tg a : Expr} {p pos : Pos} (h : DE X k a w) (hg : Gl X "range") (hm : X.mg "range" = none) (hs : starEach [a] X.env = [(false, eval a X.env)] := by rfl) : DI X k tg (.Call (.Name "range" p) [a] [] pos) (wiR w) := by
  obtain ⟨t, p, f⟩ := h
  refine ⟨_, pi_range1 hg hm (pa_cons p pa_nil hs) hs, fun r Z H σ ρ Qd R O h q => ?_⟩
  refine f r Z H σ ρ _ _ O h fun d v Z1 H1 s1 r1 h1 => ?_
  obtain ⟨n, e0, ⟨hlo, hn⟩, g0⟩ := D.I_ex h1
  clear h1
  have h1 := g0
  clear g0
  subst e0
  cases r1
  exact ⟨n, rfl, by omega, by omega, q _ Z1 H1 _ s1 (itd_range _ n) h1⟩
/-! ### for -/
def wForL (g : WG) (u : WS) : List D → WS
  | [] => fun d ρ => d.nx ρ
  | x :: xs => fun d ρ => g x ρ fun ρ1 => u { nx := wForL g u xs d, rt := d.rt, bk := d.nx, ct := wForL g u xs d } ρ1
def wFor (wi : WA) (g : WG) (u : WS) : WS := fun d ρ => wi ρ fun ds => wForL g u ds d ρ
theorem Ok.lower {c : Wc} {r : Rt} {Z H Zl : Hp} {σ : St} {ρ : En} (O : Ok c k { r with Zl := Zl } Z H σ ρ) (e : Same r.Zl Zl) : Ok c k r Z H σ ρ := ⟨O.en, O.s0, e.trans O.lb, O.sl, O.ow, O.ds, O.lk⟩
theorem Ok.raise {c : Wc} {r : Rt} {Z H : Hp} {σ : St} {ρ : En} (O : Ok c k r Z H σ ρ) : Ok c k { r with Zl := Z } Z H σ ρ := ⟨O.en, O.s0, Same.refl _, O.sl, O.ow, O.ds, O.lk⟩
theorem ds_for {tg it : Expr} {body : List Stmt} {wi : WA} {g : WG} {us : List Nat} (hp : PassesOwn (model X.prog X.w) X.A X.env X.xe) (hi : DI X k tg it wi) (hg : DG X k tg us g) (hb : DB X k body u) (hc : X.calm = true := by rfl)
    (hs : ∀ x, foldedSetIterable it X.env x = pure x := by intro _; rfl) : DS X k (.For tg it body [] pos) (wFor wi g u) := by
  obtain ⟨ti, pi, fi⟩ := hi
  obtain ⟨g', pg, fg⟩ := hg
  obtain ⟨tb, pb, fb⟩ := hb
  refine ⟨_, ps_for hp hc pi pg pb hs, fun r Z H σ ρ d E O L h => ?_⟩
  refine fi r Z H σ ρ _ _ O h fun ds Z1 H1 J s1 it h1 => ?_
  have O1 := O.stp s1
  have lw : Same r.Zl Z1 := O1.lb
  refine ⟨fun i m σ' H' => ∃ Z' ρ', Ok (wc X k.s) k { r with Zl := Z1 } Z' H' σ' ρ' ∧ wForL g u (ds.drop i) d ρ' ∧ i ≤ ds.length ∧ m = ds.length - i, ⟨_, Z1, ρ, O1.raise, h1, Nat.zero_le _, rfl⟩, ?_⟩
  rintro i m σ' H' ⟨Z', ρ', O', h', hi, rfl⟩
  obtain ⟨go, stop, yld⟩ := it Z' H' O'.lb O'.bs
  by_cases hlt : i < ds.length
  · refine .inr ⟨go i hlt, fun σ2 H2 => ∃ Z2 ρ2, Ok (wc X k.s) k { r with Zl := Z1 } Z2 H2 σ2 ρ2 ∧ wForL g u (ds.drop (i + 1)) d ρ2, ?_, ?_⟩
    · rintro σ2 H2 ⟨Z2, ρ2, O2, h2⟩
      exact ⟨_, by omega, Z2, ρ2, O2, h2, hlt, rfl⟩
    · intro x H2 y
      obtain ⟨dx, Z3, e1, s3, r3⟩ := yld i x H2 y hlt
      have e2 : ds.drop i = dx :: ds.drop (i + 1) := by
        rw [List.drop_eq_getElem_cons hlt]
        rw [List.getElem?_eq_getElem hlt] at e1
        rw [Option.some.inj e1]
      rw [e2] at h'
      refine fg _ Z3 H2 σ' ρ' x dx _ _ (O'.stp s3) r3 h' fun σ4 ρ4 O4 _ h4 => ?_
      refine fb _ Z3 H2 σ4 ρ4 _ _ O4 ⟨?_, ?_, ?_, ?_⟩ h4
      · exact fun Z5 H5 σ5 ρ5 O5 h5 => ⟨Z5, ρ5, O5, h5⟩
      · exact fun Z5 H5 v5 x5 e5 l5 => L.rt Z5 H5 v5 x5 e5 (lw.trans l5)
      · exact fun Z5 H5 σ5 ρ5 O5 h5 => L.nx Z5 H5 σ5 ρ5 (O5.lower lw) h5
      · exact fun Z5 H5 σ5 ρ5 O5 h5 => ⟨Z5, ρ5, O5, h5⟩
  · have e : i = ds.length := by omega
    subst e
    refine .inl ⟨stop _ (Nat.le_refl _), L.nx Z' H' σ' ρ' (O'.lower lw) ?_⟩
    rw [List.drop_length] at h'
    exact h'
/-! ### while -/
def wWhN (w : WT) (u : WS) : Nat → WS
  | 0 => fun _ _ => False
  | n + 1 => fun d ρ => w ρ fun b => if b = true then u { nx := wWhN w u n d, rt := d.rt, bk := d.nx, ct := wWhN w u n d } ρ else d.nx ρ
def wWhile (w : WT) (u : WS) : WS := fun d ρ => ∃ n, wWhN w u n d ρ
theorem ds_while {w : WT} {body : List Stmt} (hp : PassesOwn (model X.prog X.w) X.A X.env X.xe) (h : DT X k e w) (hb : DB X k body u) : DS X k (.While e body [] pos) (wWhile w u) := by
  obtain ⟨t, p, f⟩ := h
  obtain ⟨tb, pb, fb⟩ := hb
  refine ⟨_, ps_while hp p pb, fun r Z H σ ρ d E O L h => ?_⟩
  obtain ⟨n, h⟩ := h
  refine ⟨fun m σ' H' => ∃ Z' ρ', Ok (wc X k.s) k r Z' H' σ' ρ' ∧ wWhN w u m d ρ', ⟨n, Z, ρ, O, h⟩, ?_⟩
  rintro m σ' H' ⟨Z', ρ', O', h'⟩
  cases m with
  | zero => exact h'.elim
  | succ m =>
    refine f r Z' H' σ' ρ' _ _ O' h' fun b Z1 H1 s1 h1 => ?_
    cases b with
    | true =>
      refine iteT ⟨fun σ2 H2 => ∃ Z2 ρ2, Ok (wc X k.s) k r Z2 H2 σ2 ρ2 ∧ wWhN w u m d ρ2, fun σ2 H2 ⟨Z2, ρ2, O2, h2⟩ => ⟨m, Nat.lt_succ_self _, Z2, ρ2, O2, h2⟩, ?_⟩
      refine fb r Z1 H1 σ' ρ' { nx := wWhN w u m d, rt := d.rt, bk := d.nx, ct := wWhN w u m d } _ (O'.stp s1) ⟨?_, L.rt, L.nx, ?_⟩ (by simpa using h1)
      · exact fun Z5 H5 σ5 ρ5 O5 h5 => ⟨Z5, ρ5, O5, h5⟩
      · exact fun Z5 H5 σ5 ρ5 O5 h5 => ⟨Z5, ρ5, O5, h5⟩
    | false => exact iteF (L.nx Z1 H1 σ' ρ' (O'.stp s1) (by simpa using h1))
end
end Dl
set_option Elab.async false
set_option linter.all false
set_option maxRecDepth 100000
set_option maxHeartbeats 2000000
namespace Dl
open PySem PySem.Spec PyProof.Rows L2
/-! ### what a def promises, by trees -/
abbrev SpecD := List D → (D → Prop) → (Exn → Prop) → Prop
def spD (K : PySem.W.Frag) (mg : Str → Option Value) (spec : SpecD) : Sp := fun vs H Q E => ∃ (s : Addr) (Z : Hp) (ds : List D) (Qd : D → Prop) (Ed : Exn → Prop), Bs s Z H ∧ RpA ⟨K, mg, s⟩ Z vs ds ∧ spec ds Qd Ed ∧
  (∀ d v Z' H', Stp s Z H Z' H' → Rp ⟨K, mg, s⟩ Z' v d → Qd d → Q v H') ∧ (∀ ex cls od Z' H', Stp s Z H Z' H' → ExR ⟨K, mg, s⟩ Z' H' ex cls od → Ed ex → E cls od H')
def ρ0 (n : Nat) (ds : List D) : En := ds.map .val ++ List.replicate (n - ds.length) .un
theorem start_ok {c : Wc} {k : Cc} {Z H : Hp} {N : List Str} {vs : List V} {ds : List D} (b : Bs c.s Z H) (h : RpA c Z vs ds) (hl : ds.length ≤ N.length)
    (lk : ∀ (Z' H' : Hp) (ex : Exn) (cls : Value) (od : Option Addr), Stp c.s Z H Z' H' → ExR c Z' H' ex cls od → k.xd ex → k.xk cls od H') : Ok c k ⟨Z, H, Z⟩ Z H (L2.start N vs) (ρ0 N.length ds) := by
  have el := h.length
  have no : ∀ (i : Nat) (t : Sl), (ρ0 N.length ds)[i]? = some t → t.own = false := fun i t ht => by
    unfold ρ0 at ht
    by_cases hi : i < ds.length
    · rw [List.getElem?_append_left (by rw [List.length_map]; exact hi), List.getElem?_map, List.getElem?_eq_getElem hi] at ht
      cases ht
      rfl
    · rw [List.getElem?_append_right (by rw [List.length_map]; omega), List.getElem?_replicate] at ht
      split at ht
      · cases ht
        rfl
      · cases ht
  refine ⟨.refl b, b.st, Same.refl _, fun i t ht => ?_, fun i t a ht ho _ => ?_, fun i j t u a _ ht _ ho _ _ => ?_, lk⟩
  · unfold ρ0 at ht
    unfold L2.start
    by_cases hi : i < ds.length
    · rw [List.getElem?_append_left (by rw [List.length_map]; exact hi), List.getElem?_map, List.getElem?_eq_getElem hi] at ht
      cases ht
      obtain ⟨v, h1, h2⟩ := h.get i (List.getElem?_eq_getElem hi)
      exact ⟨some v, by rw [List.getElem?_append_left (by rw [List.length_map, el]; exact hi), List.getElem?_map, h1]; rfl, v, rfl, h2⟩
    · rw [List.getElem?_append_right (by rw [List.length_map]; omega), List.length_map, List.getElem?_replicate] at ht
      split at ht
      · rename_i hlt
        cases ht
        refine ⟨none, ?_, trivial⟩
        rw [List.getElem?_append_right (by rw [List.length_map, el]; omega), List.length_map, el, List.getElem?_replicate, if_pos hlt]
      · cases ht
  · rw [no i t ht] at ho
    cases ho
  · rw [no i t ht] at ho
    cases ho
/-- THE RULE for a def from which no error comes -/
theorem fn_d {P : Program} {w : World} {K : PySem.W.Frag} {mg : Str → Option Value} {base : Heap} {x qual : Str} {st : Stmt} {f : Addr} {fd : FuncData} {N ps : List Str} {n : Nat} {spec : SpecD} (F : Fun K x qual st f fd) (S : FnScope N ps (defScope st))
    (hl : ∀ ds Q E, spec ds Q E → ds.length = ps.length) (hn : ps.length ≤ N.length) (W : WS)
    (hb : ∀ (cdv : Value) (A : Around) (outer : List Env) (s : Shared) (H : Hp) (E : XK) (k : Cc), Room n (A.deeper (envOfC qual (defScope st) s.heap.objs.size f cdv)) → k.xd = (fun _ => False) →
      DB (cxOf CX0 P w K mg base N qual (defScope st) f cdv A outer s H E).nox k (defBody st) W)
    (hW : ∀ ds Q E, spec ds Q E → W { nx := fun _ => Q .non, rt := Q } (ρ0 N.length ds)) : FnOk P w K mg base CX0 (n + 1) f fd ps (spD K mg spec) := by
  refine F.ok S (fun vs H Q E h => ?_) (fun cdv A outer s H vs Q E hr h => ?_)
  · obtain ⟨s, Z, ds, Qd, Ed, _, h1, h2, _⟩ := h
    rw [h1.length]
    exact hl _ _ _ h2
  · obtain ⟨s', Z, ds, Qd, Ed, b, h1, h2, h3, _⟩ := h
    obtain ⟨t, p, q⟩ := hb cdv A outer s H E ⟨s', fun _ => False, fun _ _ _ => False⟩ hr rfl
    refine ⟨t, p, q ⟨Z, H, Z⟩ Z H (L2.start N vs) (ρ0 N.length ds) _ _ (start_ok (c := ⟨K, mg, s'⟩) b h1 (by rw [hl _ _ _ h2]; exact hn) (fun _ _ _ _ _ _ _ z => z.elim)) ⟨?_, ?_, ?_, ?_⟩ (hW ds Qd Ed h2)⟩
    · exact fun Z' H' σ ρ O hq => h3 .non .non Z' H' O.en .non hq
    · exact fun Z' H' v x st _ rx hq => h3 x v Z' H' st rx hq
    · exact fun _ _ _ _ _ z => z.elim
    · exact fun _ _ _ _ _ z => z.elim
/-- .. for a def from which an error may come -/
theorem fn_dx {P : Program} {w : World} {K : PySem.W.Frag} {mg : Str → Option Value} {base : Heap} {x qual : Str} {st : Stmt} {f : Addr} {fd : FuncData} {N ps : List Str} {n : Nat} {spec : SpecD} (F : Fun K x qual st f fd) (S : FnScope N ps (defScope st))
    (hl : ∀ ds Q E, spec ds Q E → ds.length = ps.length) (hn : ps.length ≤ N.length) (W : (Exn → Prop) → WS)
    (hb : ∀ (cdv : Value) (A : Around) (outer : List Env) (s : Shared) (H : Hp) (k : Cc), Room n (A.deeper (envOfC qual (defScope st) s.heap.objs.size f cdv)) →
      DB (cxOf (L2.CX P w) P w K mg base N qual (defScope st) f cdv A outer s H k.xk) k (defBody st) (W k.xd))
    (hW : ∀ ds Q E, spec ds Q E → W E { nx := fun _ => Q .non, rt := Q } (ρ0 N.length ds)) : FnOk P w K mg base (L2.CX P w) (n + 1) f fd ps (spD K mg spec) := by
  refine F.okX S (fun vs H Q E h => ?_) (fun cdv A outer s H vs Q E hr h => ?_)
  · obtain ⟨s, Z, ds, Qd, Ed, _, h1, h2, _⟩ := h
    rw [h1.length]
    exact hl _ _ _ h2
  · obtain ⟨s', Z, ds, Qd, Ed, b, h1, h2, h3, h4⟩ := h
    obtain ⟨t, p, q⟩ := hb cdv A outer s H ⟨s', Ed, E⟩ hr
    refine ⟨t, p, q ⟨Z, H, Z⟩ Z H (L2.start N vs) (ρ0 N.length ds) _ _ (start_ok (c := ⟨K, mg, s'⟩) b h1 (by rw [hl _ _ _ h2]; exact hn) (fun Z' H' ex cls od st e z => h4 ex cls od Z' H' st e z)) ⟨?_, ?_, ?_, ?_⟩ (hW ds Qd Ed h2)⟩
    · exact fun Z' H' σ ρ O hq => h3 .non .non Z' H' O.en .non hq
    · exact fun Z' H' v x st _ rx hq => h3 x v Z' H' st rx hq
    · exact fun _ _ _ _ _ z => z.elim
    · exact fun _ _ _ _ _ z => z.elim
section
variable {X : Cx} {k : Cc} {a b e : Expr} {es : List Expr} {wa wb w : WE} {pos p : Pos}
/-- f(e, ..), no error comes -/
def wCall0 (spec : SpecD) (u : WA) : WE := fun ρ Q => u ρ fun ds => spec ds Q fun _ => False
def wCall (spec : SpecD) (xd : Exn → Prop) (u : WA) : WE := fun ρ Q => u ρ fun ds => spec ds Q xd
theorem de_call0 {n : Nat} {f : Addr} {fd : FuncData} {ps : List Str} {spec : SpecD} {x : Str} {u : WA} (F : FnOk X.prog X.w X.K X.mg X.base CX0 n f fd ps (spD X.K X.mg spec)) (hr : Room n X.A) (hm : X.mg x = some (.ref f)) (hk : PySem.W.keepIn X.K (.ref f) = true) (hb : Binds X.K fd ps [])
    (ha : DA X k (e :: es) u) (hg : Gl X x := by rfl) (hdb : (x == ("__debug__" : Str)) = false := by decide) (he : starEach (e :: es) X.env = (false, eval e X.env) :: starEach es X.env := by rfl) (hpl : (backTo pos (starEach es X.env)).any (·.1) = false := by rfl) :
    DE X k (.Call (.Name x p) (e :: es) [] pos) (wCall0 spec u) := by
  obtain ⟨t, pa, fa⟩ := ha
  refine ⟨_, pe_call F hr hg hm hk hb .nil pass0 pa hdb he hpl, fun r Z H σ ρ Qd Q O h q => ?_⟩
  refine fa r Z H σ ρ _ _ O h fun ds vs Z1 H1 s1 r1 h1 => ?_
  rw [List.append_nil]
  exact ⟨k.s, Z1, ds, Qd, fun _ => False, s1.bs, r1, h1, fun d v Z' H' st rv qd => q d v Z' H' (s1.trans st O.bs.st) rv qd, fun _ _ _ _ _ _ _ z => z.elim⟩
theorem de_callX {n : Nat} {f : Addr} {fd : FuncData} {ps : List Str} {spec : SpecD} {x : Str} {u : WA} {CX : CXT} (F : FnOk X.prog X.w X.K X.mg X.base CX n f fd ps (spD X.K X.mg spec)) (hr : Room n X.A) (hm : X.mg x = some (.ref f)) (hk : PySem.W.keepIn X.K (.ref f) = true) (hb : Binds X.K fd ps [])
    (hx : Passes CX X k.xk) (ha : DA X k (e :: es) u) (hg : Gl X x := by rfl) (hdb : (x == ("__debug__" : Str)) = false := by decide) (he : starEach (e :: es) X.env = (false, eval e X.env) :: starEach es X.env := by rfl) (hpl : (backTo pos (starEach es X.env)).any (·.1) = false := by rfl) :
    DE X k (.Call (.Name x p) (e :: es) [] pos) (wCall spec k.xd u) := by
  obtain ⟨t, pa, fa⟩ := ha
  refine ⟨_, pe_call F hr hg hm hk hb .nil hx pa hdb he hpl, fun r Z H σ ρ Qd Q O h q => ?_⟩
  refine fa r Z H σ ρ _ _ O h fun ds vs Z1 H1 s1 r1 h1 => ?_
  rw [List.append_nil]
  exact ⟨k.s, Z1, ds, Qd, k.xd, s1.bs, r1, h1, fun d v Z' H' st rv qd => q d v Z' H' (s1.trans st O.bs.st) rv qd, fun ex cls od Z' H' st er z => O.lk Z' H' ex cls od (O.en.trans (s1.trans st O.bs.st) O.s0) er z⟩
/-- a def that may raise, called where it does not -/
theorem de_callN {n : Nat} {f : Addr} {fd : FuncData} {ps : List Str} {spec : SpecD} {x : Str} {u : WA} (F : FnOk X.prog X.w X.K X.mg X.base (L2.CX X.prog X.w) n f fd ps (spD X.K X.mg spec)) (hr : Room n X.A) (hm : X.mg x = some (.ref f)) (hk : PySem.W.keepIn X.K (.ref f) = true) (hb : Binds X.K fd ps [])
    (ha : DA X k (e :: es) u) (hg : Gl X x := by rfl) (hdb : (x == ("__debug__" : Str)) = false := by decide) (he : starEach (e :: es) X.env = (false, eval e X.env) :: starEach es X.env := by rfl) (hpl : (backTo pos (starEach es X.env)).any (·.1) = false := by rfl) :
    DE X k (.Call (.Name x p) (e :: es) [] pos) (wCall0 spec u) := by
  obtain ⟨t, pa, fa⟩ := ha
  refine ⟨_, pe_call F hr hg hm hk hb .nil passL pa hdb he hpl, fun r Z H σ ρ Qd Q O h q => ?_⟩
  refine fa r Z H σ ρ _ _ O h fun ds vs Z1 H1 s1 r1 h1 => ?_
  rw [List.append_nil]
  exact ⟨k.s, Z1, ds, Qd, fun _ => False, s1.bs, r1, h1, fun d v Z' H' st rv qd => q d v Z' H' (s1.trans st O.bs.st) rv qd, fun _ _ _ _ _ _ _ z => z.elim⟩
/-- a built-in function, a built-in type, called -/
def wCB (rd : RAD) (u : WA) : WE := fun ρ Q => u ρ fun ds => rd ds Q
theorem de_b {id : String} {r : List V → Hp → VK → Prop} {rd : RAD} {x : Str} {u : WA} (hc : CallR X (.builtin id) r) (o : OpA X k r rd) (hm : X.mg x = none) (hv : bootBuiltins x = some (.builtin id)) (ha : DA X k (e :: es) u) (hg : Gl X x := by rfl) (hn : x ≠ "__name__" := by decide) (hdb : (x == ("__debug__" : Str)) = false := by decide)
    (he : starEach (e :: es) X.env = (false, eval e X.env) :: starEach es X.env := by rfl) (hpl : (backTo pos (starEach es X.env)).any (·.1) = false := by rfl) : DE X k (.Call (.Name x p) (e :: es) [] pos) (wCB rd u) := by
  obtain ⟨t, pa, fa⟩ := ha
  refine ⟨_, pe_callB hc hg hm hv pa hn hdb he hpl, fun r Z H σ ρ Qd Q O h q => ?_⟩
  refine fa r Z H σ ρ _ _ O h fun ds vs Z1 H1 s1 r1 h1 => ?_
  exact o Z1 H1 vs ds Qd Q s1.bs r1 h1 fun d v Z' H' st rv qd => q d v Z' H' (s1.trans st O.bs.st) rv qd
theorem de_ty {T : String} {r : List V → Hp → VK → Prop} {rd : RAD} {x : Str} {u : WA} (hc : CallR X (.type T) r) (o : OpA X k r rd) (hm : X.mg x = none) (hv : bootBuiltins x = some (.type T)) (ha : DA X k (e :: es) u) (hg : Gl X x := by rfl) (hn : x ≠ "__name__" := by decide) (hdb : (x == ("__debug__" : Str)) = false := by decide)
    (he : starEach (e :: es) X.env = (false, eval e X.env) :: starEach es X.env := by rfl) (hpl : (backTo pos (starEach es X.env)).any (·.1) = false := by rfl) : DE X k (.Call (.Name x p) (e :: es) [] pos) (wCB rd u) := by
  obtain ⟨t, pa, fa⟩ := ha
  refine ⟨_, pe_callTy hc hg hm hv pa hn hdb he hpl, fun r Z H σ ρ Qd Q O h q => ?_⟩
  refine fa r Z H σ ρ _ _ O h fun ds vs Z1 H1 s1 r1 h1 => ?_
  exact o Z1 H1 vs ds Qd Q s1.bs r1 h1 fun d v Z' H' st rv qd => q d v Z' H' (s1.trans st O.bs.st) rv qd
/-- a method of a text, with no argument, with one -/
abbrev RM0 := Str → (D → Prop) → Prop
def wM0 (rd : Str → (D → Prop) → Prop) (w : WE) : WE := fun ρ Q => w ρ fun d => d.S fun z => rd z Q
theorem de_m0 {id : String} {name : Str} {apos : Pos} {o : Expr} {r : V → List V → Hp → VK → Prop} {rd : Str → (D → Prop) → Prop} (slot : Slot "str" name id) (ty : typeOf (.builtin id) = pure (.type "method_descriptor")) (rule : MtR X id r)
    (om : ∀ (Z H : Hp) (z : Str) (Qd : D → Prop) (Q : VK), Bs k.s Z H → rd z Qd → (∀ d v Z' H', Stp k.s Z H Z' H' → Rp (wc X k.s) Z' v d → Qd d → Q v H') → r (.str z) [] H Q) (h : DE X k o w)
    (hbase : attributeBase o name X.env (eval o X.env) = eval o X.env := by rfl) (hline : (apos.endLine == pos.line) = true := by rfl) : DE X k (.Call (.Attribute o name apos) [] [] pos) (wM0 rd w) := by
  obtain ⟨t, pa, fa⟩ := h
  refine ⟨_, pe_m0 slot ty rule pa hbase hline, fun r Z H σ ρ Qd Q O h q => ?_⟩
  refine fa r Z H σ ρ _ _ O h fun d v Z1 H1 s1 r1 h1 => ?_
  obtain ⟨z, e0, g0⟩ := D.S_ex h1
  clear h1
  have h1 := g0
  clear g0
  subst e0
  cases r1
  exact ⟨⟨z, rfl⟩, om Z1 H1 z Qd Q s1.bs h1 fun d v Z' H' st rv qd => q d v Z' H' (s1.trans st O.bs.st) rv qd⟩
def wM1 (rd : Str → D → (D → Prop) → Prop) (w u : WE) : WE := fun ρ Q => w ρ fun d => d.S fun z => u ρ fun y => rd z y Q
theorem de_m1 {id : String} {name : Str} {apos : Pos} {o : Expr} {r : V → List V → Hp → VK → Prop} {rd : Str → D → (D → Prop) → Prop} (slot : Slot "str" name id) (ty : typeOf (.builtin id) = pure (.type "method_descriptor")) (rule : MtR X id r)
    (om : ∀ (Z H : Hp) (z : Str) (y : V) (d : D) (Qd : D → Prop) (Q : VK), Bs k.s Z H → Rp (wc X k.s) Z y d → rd z d Qd → (∀ d v Z' H', Stp k.s Z H Z' H' → Rp (wc X k.s) Z' v d → Qd d → Q v H') → r (.str z) [y] H Q) (h : DE X k o w) (h2 : DE X k e wa)
    (hs : starEach [e] X.env = [(false, eval e X.env)] := by rfl) (hbase : attributeBase o name X.env (eval o X.env) = eval o X.env := by rfl) (hline : (apos.endLine == pos.line) = true := by rfl) : DE X k (.Call (.Attribute o name apos) [e] [] pos) (wM1 rd w wa) := by
  obtain ⟨t, pa, fa⟩ := h
  obtain ⟨t2, pa2, fa2⟩ := h2
  refine ⟨_, pe_m1 slot ty rule pa pa2 hs hbase hline, fun r Z H σ ρ Qd Q O h q => ?_⟩
  refine fa r Z H σ ρ _ _ O h fun d v Z1 H1 s1 r1 h1 => ?_
  obtain ⟨z, e0, g0⟩ := D.S_ex h1
  clear h1
  have h1 := g0
  clear g0
  subst e0
  cases r1
  refine ⟨⟨z, rfl⟩, fa2 r Z1 H1 σ ρ _ _ (O.stp s1) h1 fun d v Z2 H2 s2 r2 h2 => ?_⟩
  exact om Z2 H2 z v d Qd Q s2.bs r2 h2 fun d v Z' H' st rv qd => q d v Z' H' ((s1.trans s2 O.bs.st).trans st O.bs.st) rv qd
/-- subscripts -/
theorem de_ix {r : R2} {rd : R2D} (hi : IxR X r) (o : Op2 X k r rd) (ha : DE X k a wa) (hb : DE X k b wb) (hs : PlainIx b := by intro _ _; rfl) : DE X k (.Subscript a b pos) (wOp rd wa wb) := by
  obtain ⟨ta, pa, fa⟩ := ha
  obtain ⟨tb, pb, fb⟩ := hb
  exact ⟨_, pe_ix hi pa pb hs, op_core o fa fb⟩
/-- slices -/
abbrev WO := En → (Option Int → Prop) → Prop
def DO (X : Cx) (k : Cc) (e : Option Expr) (w : WO) : Prop := ∃ t, PO X e t ∧ ∀ (r : Rt) (Z H : Hp) (σ : L2.St) (ρ : En) (Qd : Option Int → Prop) (Q : Option Int → Hp → Prop), Ok (wc X k.s) k r Z H σ ρ → w ρ Qd → (∀ i Z' H', Stp k.s Z H Z' H' → Qd i → Q i H') → t σ H Q
def wNo : WO := fun _ Q => Q none
def wPart (w : WE) : WO := fun ρ Q => w ρ fun d => d.I fun i => Q (some i)
theorem do_no : DO X k none wNo := ⟨_, po_none, fun r Z H σ ρ Qd Q O h q => q none Z H (.refl O.bs) h⟩
theorem do_some (h : DE X k e w) : DO X k (some e) (wPart w) := by
  obtain ⟨t, p, f⟩ := h
  refine ⟨_, po_some p, fun r Z H σ ρ Qd Q O h q => ?_⟩
  refine f r Z H σ ρ _ _ O h fun d v Z1 H1 s1 r1 h1 => ?_
  obtain ⟨i, e0, g0⟩ := D.I_ex h1
  clear h1
  have h1 := g0
  clear g0
  subst e0
  cases r1
  exact ⟨i, rfl, q _ Z1 H1 s1 h1⟩
abbrev RSD := D → Option Int → Option Int → (D → Prop) → Prop
def wSl (rd : RSD) (w : WE) (l u : WO) : WE := fun ρ Q => w ρ fun d => l ρ fun i => u ρ fun j => rd d i j Q
def OpS (X : Cx) (k : Cc) (r : V → Option Int → Option Int → Hp → VK → Prop) (rd : RSD) : Prop := ∀ (Z H : Hp) (x : V) (d : D) (i j : Option Int) (Qd : D → Prop) (Q : VK), Bs k.s Z H → Rp (wc X k.s) Z x d → rd d i j Qd →
  (∀ d v Z' H', Stp k.s Z H Z' H' → Rp (wc X k.s) Z' v d → Qd d → Q v H') → r x i j H Q
theorem de_slice {r : V → Option Int → Option Int → Hp → VK → Prop} {rd : RSD} {lo hi : Option Expr} {l u : WO} {p2 : Pos} (hr : SlR X r) (o : OpS X k r rd) (h : DE X k e w) (hl : DO X k lo l) (hu : DO X k hi u) : DE X k (.Subscript e (.Slice lo hi none p2) pos) (wSl rd w l u) := by
  obtain ⟨t, p, f⟩ := h
  obtain ⟨t1, p1, f1⟩ := hl
  obtain ⟨t2, p2, f2⟩ := hu
  refine ⟨_, pe_slice hr p p1 p2, fun r Z H σ ρ Qd Q O h q => ?_⟩
  refine f r Z H σ ρ _ _ O h fun d v Z1 H1 s1 r1 h1 => ?_
  refine f1 r Z1 H1 σ ρ _ _ (O.stp s1) h1 fun i Z2 H2 s2 h2 => ?_
  have s12 := s1.trans s2 O.bs.st
  refine f2 r Z2 H2 σ ρ _ _ (O.stp s12) h2 fun j Z3 H3 s3 h3 => ?_
  have s13 := s12.trans s3 O.bs.st
  exact o Z3 H3 v d i j Qd Q s3.bs (r1.mono (s2.zz.trans s3.zz)) h3 fun d v Z' H' st rv qd => q d v Z' H' (s13.trans st O.bs.st) rv qd
/-- a field -/
def D.F (d : D) (n f : Str) (Q : D → Prop) : Prop := match d with
  | .ins m fs => m = n ∧ (match fs.lookup f with
    | some v => Q v
    | none => False)
  | _ => False
theorem D.F_ex {d : D} {n f : Str} {Q : D → Prop} (h : d.F n f Q) : ∃ fs v, d = .ins n fs ∧ fs.lookup f = some v ∧ Q v := by
  cases d with
  | ins m fs =>
    obtain ⟨rfl, h⟩ := h
    cases e : fs.lookup f with
    | none =>
      rw [e] at h
      exact h.elim
    | some v =>
      rw [e] at h
      exact ⟨fs, v, rfl, e, h⟩
  | _ => exact h.elim
def wFld (n f : Str) (w : WE) : WE := fun ρ Q => w ρ fun d => d.F n f Q
theorem rpf_lookup {c : Wc} {Z : Hp} {f : Str} : ∀ {fs : List (Str × V)} {ds : List (Str × D)} {d : D}, RpF c Z fs ds → ds.lookup f = some d → ∃ v, fs.lookup f = some v ∧ Rp c Z v d
  | _, _, _, .nil, h => by cases h
  | _, _, _, .cons (k := g) h r, e => by
    rw [List.lookup_cons] at e ⊢
    cases q : f == g with
    | true =>
      rw [q] at e
      cases e
      exact ⟨_, rfl, h⟩
    | false =>
      rw [q] at e
      exact rpf_lookup r e
theorem de_fld {n f : Str} {C : Addr} (hm : X.mg n = some (.ref C)) (hc : Cls X.K C) (hn : NoAttr X.K C f) (h : DE X k e w) (hb : attributeBase e f X.env (eval e X.env) = eval e X.env := by rfl) : DE X k (.Attribute e f pos) (wFld n f w) := by
  obtain ⟨t, p, g⟩ := h
  refine ⟨_, pe_fld p hb, fun r Z H σ ρ Qd Q O h q => ?_⟩
  refine g r Z H σ ρ _ _ O h fun d v Z1 H1 s1 r1 h1 => ?_
  obtain ⟨fs, x, e0, hl, g0⟩ := D.F_ex h1
  clear h1
  have h1 := g0
  clear g0
  subst e0
  cases r1 with
  | ins m hz hr =>
    have e : X.mg n = _ := m
    rw [hm] at e
    cases e
    obtain ⟨u, h2, h3⟩ := rpf_lookup hr hl
    exact ⟨_, _, _, _, u, rfl, s1.bs.zh _ _ hz, hc, hn, h2, q x u Z1 H1 s1 h3 h1⟩
end
/-! ### list comprehensions -/
/-- the readings in one form -/
def tEc (c : Wc) (k : Cc) (w : WE) : TE := fun σ H Q => ∃ r Z ρ Qd, Ok c k r Z H σ ρ ∧ w ρ Qd ∧ ∀ d v Z' H', Stp c.s Z H Z' H' → Rp c Z' v d → Qd d → Q v H'
def tTc (c : Wc) (k : Cc) (w : WT) : TT := fun σ H Q => ∃ r Z ρ Qd, Ok c k r Z H σ ρ ∧ w ρ Qd ∧ ∀ d Z' H', Stp c.s Z H Z' H' → Qd d → Q d H'
def tGc (c : Wc) (k : Cc) (us : List Nat) (w : WG) : TG := fun v σ H Q => ∃ r Z ρ d Qd, Ok c k r Z H σ ρ ∧ Rp c Z v d ∧ w d ρ Qd ∧ ∀ σ' ρ', Ok c k r Z H σ' ρ' → (∀ vs, (∀ i ∈ us, i ∈ vs) → wipe σ' vs = wipe σ vs) → Qd ρ' → Q σ' H
section
variable {X : Cx} {k : Cc} {e : Expr} {es : List Expr} {w : WE} {pos : Pos}
theorem PE.weak {t t' : TE} (h : PE X e t) (hw : ∀ σ H Q, t' σ H Q → t σ H Q) : PE X e t' := ⟨fun pins s σ H Q I q => h.run pins s σ H Q I (hw _ _ _ q)⟩
theorem DE.pe (h : DE X k e w) : PE X e (tEc (wc X k.s) k w) := by
  obtain ⟨t, p, f⟩ := h
  exact PE.weak p fun σ H Q ⟨r, Z, ρ, Qd, O, h, q⟩ => f r Z H σ ρ Qd Q O h q
def DTs (X : Cx) (k : Cc) (es : List Expr) (w : WT) : Prop := ∃ t, PTs X es t ∧ ∀ (r : Rt) (Z H : Hp) (σ : L2.St) (ρ : En) (Qd : Bool → Prop) (Q : Bool → Hp → Prop), Ok (wc X k.s) k r Z H σ ρ → w ρ Qd → (∀ b Z' H', Stp k.s Z H Z' H' → Qd b → Q b H') → t σ H Q
def wYes : WT := fun _ Q => Q true
theorem dts_nil : DTs X k [] wYes := ⟨_, pts_nil, fun r Z H σ ρ Qd Q O h q => q true Z H (.refl O.bs) h⟩
theorem dts_one {w : WT} (h : DT X k e w) : DTs X k [e] w := by
  obtain ⟨t, p, f⟩ := h
  exact ⟨_, pts_one p, f⟩
theorem DTs.pt {w : WT} (h : DTs X k es w) : PTs X es (tTc (wc X k.s) k w) := by
  obtain ⟨t, p, f⟩ := h
  exact ⟨fun pins s σ H Q I ⟨r, Z, ρ, Qd, O, h, q⟩ => p.run pins s σ H Q I (f r Z H σ ρ Qd Q O h q)⟩
theorem DG.pg {w : WG} {us : List Nat} (h : DG X k e us w) : PG X e (tGc (wc X k.s) k us w) := by
  obtain ⟨t, p, f⟩ := h
  exact ⟨fun pins s σ H v u Q I rv ⟨r, Z, ρ, d, Qd, O, rd, h, q⟩ => p.run pins s σ H v u Q I rv (f r Z H σ ρ v d Qd Q O rd h q)⟩
theorem wipe_idem {σ : L2.St} {vs : List Nat} : wipe (wipe σ vs) vs = wipe σ vs := by
  have q : ∀ (ws : List Nat) (i : Nat) (τ : L2.St), (wipe (τ.set i none) ws) = (wipe τ ws).set i none := by
    intro ws
    induction ws with
    | nil => intro i τ; rfl
    | cons w ws ih =>
      intro i τ
      show (wipe (τ.set i none) ws).set w none = ((wipe τ ws).set w none).set i none
      rw [ih]
      by_cases e : i = w
      · subst e; rfl
      · rw [List.set_comm _ _ e]
  have m : ∀ (ws : List Nat) (τ : L2.St), wipe (wipe τ ws) ws = wipe τ ws := by
    intro ws
    induction ws with
    | nil => intro τ; rfl
    | cons w ws ih =>
      intro τ
      show (wipe ((wipe τ ws).set w none) ws).set w none = (wipe τ ws).set w none
      rw [q, ih, List.set_set]
  exact m vs σ
def wipeD (ρ : En) : List Nat → En
  | [] => ρ
  | v :: vs => (wipeD ρ vs).set v .un
theorem Ok.un {c : Wc} {r : Rt} {Z H : Hp} {σ : L2.St} {ρ : En} {i : Nat} (O : Ok c k r Z H σ ρ) : Ok c k r Z H (σ.set i none) (ρ.set i .un) := by
  refine ⟨O.en, O.s0, O.lb, fun j t ht => ?_, fun j t a ht ho ha => ?_, fun j l t u a hjl ht hu ho ho' ha => ?_, O.lk⟩
  · by_cases hj : i = j
    · subst hj
      rw [List.getElem?_set, if_pos rfl] at ht
      split at ht
      · rename_i hl
        cases ht
        obtain ⟨o, h1, _⟩ := O.sl i _ (List.getElem?_eq_getElem hl)
        have hl2 : i < σ.length := (List.getElem?_eq_some_iff.mp h1).1
        exact ⟨none, by rw [List.getElem?_set_self hl2], trivial⟩
      · cases ht
    · rw [List.getElem?_set_ne hj] at ht ⊢
      exact O.sl j t ht
  · by_cases hj : i = j
    · subst hj
      rw [List.getElem?_set, if_pos rfl] at ht
      split at ht
      · cases ht
        cases ho
      · cases ht
    · rw [List.getElem?_set_ne hj] at ht ha
      exact O.ow j t a ht ho ha
  · have hj : i ≠ j := fun e => by
      subst e
      rw [List.getElem?_set, if_pos rfl] at ht
      split at ht
      · cases ht
        cases ho
      · cases ht
    have hl : i ≠ l := fun e => by
      subst e
      rw [List.getElem?_set, if_pos rfl] at hu
      split at hu
      · cases hu
        cases ho'
      · cases hu
    rw [List.getElem?_set_ne hj] at ht ha
    rw [List.getElem?_set_ne hl] at hu ⊢
    exact O.ds j l t u a hjl ht hu ho ho' ha
theorem Ok.wipe {c : Wc} {r : Rt} {Z H : Hp} {σ : L2.St} {ρ : En} (O : Ok c k r Z H σ ρ) : ∀ vs : List Nat, Ok c k r Z H (wipe σ vs) (wipeD ρ vs)
  | [] => O
  | v :: vs => (O.wipe vs).un
/-- no wish of errors -/
abbrev Cc.still (k : Cc) : Cc := ⟨k.s, fun _ => False, fun _ _ _ => False⟩
theorem Ok.still {c : Wc} {r : Rt} {Z H : Hp} {σ : L2.St} {ρ : En} (O : Ok c k r Z H σ ρ) : Ok c k.still r Z H σ ρ := ⟨O.en, O.s0, O.lb, O.sl, O.ow, O.ds, fun _ _ _ _ _ _ _ z => z.elim⟩
theorem Stp.mut {s p : Addr} {Z H Z' H' : Hp} {o : HO} (h : Stp s Z H Z' H') (b : StOk s H) (n : H p = none) (z : Z' p = none) : Stp s Z H Z' (upd H' p o) := by
  have ne : s ≠ p := b.ne n
  refine ⟨h.zz, ⟨fun a u e => by rw [upd_ne (ne_of_none e z)]; exact h.bs.zh a u e, ?_, h.bs.zs⟩, h.nw, fun a u e q => by rw [upd_ne (ne_of_none e n)]; exact h.hh a u e q⟩
  obtain ⟨i, j, h1, h2, h3⟩ := h.bs.st
  exact ⟨i, j, by rw [upd_ne ne]; exact h1, h2, h3⟩
theorem Stp.frz {s p : Addr} {Z H Z' H' : Hp} {o : HO} (h : Stp s Z H Z' H') (b : StOk s H) (n : H p = none) (z : Z' p = none) (e : H' p = some o) : Stp s Z H (upd Z' p o) H' := by
  have ne : s ≠ p := b.ne n
  have zz : Same Z' (upd Z' p o) := fun a u q => by rw [upd_ne (ne_of_none q z)]; exact q
  refine ⟨h.zz.trans zz, ⟨fun a u q => ?_, h.bs.st, by rw [upd_ne ne]; exact h.bs.zs⟩, fun a u q => ?_, h.hh⟩
  · by_cases w : a = p
    · subst w
      rw [upd_same] at q
      rw [e]
      exact q
    · rw [upd_ne w] at q
      exact h.bs.zh a u q
  · by_cases w : a = p
    · subst w
      exact .inr n
    · rw [upd_ne w] at q
      exact h.nw a u q
def wLcL (g : WG) (wt : WT) (we : WE) (ρ : En) : List D → List D → (List D → Prop) → Prop
  | [], acc, Q => Q acc
  | x :: xs, acc, Q => g x ρ fun ρ1 => wt ρ1 fun b => if b = true then we ρ1 fun y => wLcL g wt we ρ xs (acc ++ [y]) Q else wLcL g wt we ρ xs acc Q
def wLc (wi : WA) (g : WG) (wt : WT) (we : WE) (vs : List Nat) : WE := fun ρ Q => wi ρ fun ds => ds.length ≤ 1000000 ∧ wLcL g wt we (wipeD ρ vs) ds [] fun ys => Q (.lst ys)
theorem lc_core_d {wi : WA} {g : WG} {wt : WT} {vs us : List Nat} {ti : TI} (hus : ∀ i ∈ us, i ∈ vs)
    (fi : ∀ (r : Rt) (Z H : Hp) (σ : L2.St) (ρ : En) (Qd : List D → Prop) (R : It → Hp → Prop), Ok (wc X k.s) k r Z H σ ρ → wi ρ Qd → (∀ ds Z' H' J, Stp k.s Z H Z' H' → ItD (wc X k.s) Z' J ds → Qd ds → R J H') → ti σ H R) :
    ∀ (r : Rt) (Z H : Hp) (σ : L2.St) (ρ : En) (Qd : D → Prop) (Q : VK), Ok (wc X k.s) k r Z H σ ρ → wLc wi g wt w vs ρ Qd → (∀ d v Z' H', Stp k.s Z H Z' H' → Rp (wc X k.s) Z' v d → Qd d → Q v H') →
      tLc ti (tGc (wc X k.s) k.still us g) (tTc (wc X k.s) k.still wt) (tEc (wc X k.s) k.still w) vs σ H Q := by
  intro r Z H σ ρ Qd Q O h q
  refine fi r Z H σ ρ _ _ O h fun ds Z1 H1 J s1 it h1 => ?_
  obtain ⟨hlen, h1⟩ := h1
  intro D hD
  have O1 := O.stp s1
  have b1 : StOk k.s H1 := O1.bs.st
  have nD : k.s ≠ D := b1.ne hD
  refine ⟨fun i m H' => ∃ Z' acc avs, Stp k.s Z1 H1 Z' H' ∧ H' D = some (.lst avs) ∧ RpA (wc X k.s) Z' avs acc ∧ Z' D = none ∧ acc.length ≤ i ∧ wLcL g wt w (wipeD ρ vs) (ds.drop i) acc (fun ys => Qd (.lst ys)) ∧ i ≤ ds.length ∧ m = ds.length - i,
    ⟨_, Z1, [], [], (Stp.refl O1.bs).mut b1 hD (O1.bs.zh.free hD), upd_same, .nil, O1.bs.zh.free hD, Nat.le_refl _, h1, Nat.zero_le _, rfl⟩, ?_⟩
  rintro i m H' ⟨Z', acc, avs, st, hd, ra, zd, hal, h', hi, rfl⟩
  obtain ⟨go, stop, yld⟩ := it Z' H' st.zz st.bs
  by_cases hlt : i < ds.length
  · refine .inr ⟨go i hlt, fun H2 => ∃ Z2 acc2 avs2, Stp k.s Z1 H1 Z2 H2 ∧ H2 D = some (.lst avs2) ∧ RpA (wc X k.s) Z2 avs2 acc2 ∧ Z2 D = none ∧ acc2.length ≤ i + 1 ∧ wLcL g wt w (wipeD ρ vs) (ds.drop (i + 1)) acc2 (fun ys => Qd (.lst ys)), ?_, ?_⟩
    · rintro H2 ⟨Z2, acc2, avs2, st2, hd2, ra2, zd2, hal2, h2⟩
      exact ⟨_, by omega, Z2, acc2, avs2, st2, hd2, ra2, zd2, hal2, h2, hlt, rfl⟩
    · intro x H2 y
      obtain ⟨dx, Z3, e1, s3, r3⟩ := yld i x H2 y hlt
      have e2 : ds.drop i = dx :: ds.drop (i + 1) := by
        rw [List.drop_eq_getElem_cons hlt]
        rw [List.getElem?_eq_getElem hlt] at e1
        rw [Option.some.inj e1]
      rw [e2] at h'
      have zn : ∀ {Za Ha Zb Hb : Hp}, Stp k.s Za Ha Zb Hb → Za D = none → Ha D = some (.lst avs) → Zb D = none := fun {Za Ha Zb Hb} st za ha => by
        cases z : Zb D with
        | none => rfl
        | some o =>
          rcases st.nw D o z with z1 | z1
          · rw [za] at z1
            cases z1
          · rw [ha] at z1
            cases z1
      have st3 := st.trans s3 b1
      have O3 := ((O1.stp st3).wipe vs).still
      have hd3 := s3.hh D _ hd (Ne.symm nD)
      refine ⟨r, Z3, wipeD ρ vs, dx, _, O3, r3, h', fun σ4 ρ4 O4 w4 h4 => ?_⟩
      refine ⟨by rw [w4 vs hus, wipe_idem], r, Z3, ρ4, _, O4, h4, fun bb Z5 H5 s5 h5 => ?_⟩
      have hd5 := s5.hh D _ hd3 (Ne.symm nD)
      have zd5 := zn s5 (zn s3 zd hd) hd3
      cases bb with
      | true =>
        refine iteT ⟨r, Z5, ρ4, _, O4.stp s5, (by simpa using h5), fun d v Z6 H6 s6 r6 h6 => ?_⟩
        have hd6 := s6.hh D _ hd5 (Ne.symm nD)
        have zd6 := zn s6 zd5 hd5
        have st6 := (st3.trans s5 b1).trans s6 b1
        refine ⟨avs, hd6, ?_, Z6, acc ++ [d], avs ++ [v], st6.mut b1 hD zd6, upd_same, (ra.mono ((s3.zz.trans s5.zz).trans s6.zz)).append (.cons r6 .nil), zd6, by rw [List.length_append]; simp; omega, h6⟩
        have e5 := ra.length
        have e6 : sizeLine = 16777216 := by decide
        omega
      | false =>
        exact iteF ⟨Z5, acc, avs, st3.trans s5 b1, hd5, ra.mono (s3.zz.trans s5.zz), zd5, by omega, by simpa using h5⟩
  · have e : i = ds.length := by omega
    subst e
    refine .inl ⟨stop _ (Nat.le_refl _), ?_⟩
    rw [List.drop_length] at h'
    exact q (.lst acc) (.ref D) (upd Z' D (.lst avs)) H' (s1.trans (st.frz b1 hD zd hd) O.bs.st) (.lst upd_same (ra.mono fun a u e => by rw [upd_ne (ne_of_none e zd)]; exact e)) h'
theorem de_lc {elt tg it : Expr} {ifs : List Expr} {scope : Scope} {own : List (Str × Nat)} {wi : WA} {g : WG} {wt : WT} {us : List Nat} (hN : X.N.Nodup) (hi : DI X k tg it wi) (ok : BlkOk X.N X.env.scope scope own)
    (hg : ∀ (s : Shared) (H : Hp) (C : Addr) (cl : List (Str × Addr)) (fp : List Addr), DG (X.blk s H scope (compEnvC scope cl C X.env) fp) k.still tg us g)
    (ht : ∀ (s : Shared) (H : Hp) (C : Addr) (cl : List (Str × Addr)) (fp : List Addr), DTs (X.blk s H scope (compEnvC scope cl C X.env) fp) k.still ifs wt)
    (he : ∀ (s : Shared) (H : Hp) (C : Addr) (cl : List (Str × Addr)) (fp : List Addr), DE (X.blk s H scope (compEnvC scope cl C X.env) fp) k.still elt w)
    (hus : ∀ i ∈ us, i ∈ own.map (·.2) := by decide) (hc : X.calm = true := by rfl) (hs : ∀ x, foldedSetIterable it X.env x = pure x := by intro _; rfl) : DE X k (.ListComp elt [⟨tg, it, ifs, 0⟩] scope pos) (wLc wi g wt w (own.map (·.2))) := by
  obtain ⟨ti, pi, fi⟩ := hi
  exact ⟨_, pe_lc (g := tGc (wc X k.s) k.still us g) (tt := tTc (wc X k.s) k.still wt) (te := tEc (wc X k.s) k.still w) hc hN pi ok (fun s H C cl fp => (hg s H C cl fp).pg) (fun s H C cl fp => (ht s H C cl fp).pt) (fun s H C cl fp => (he s H C cl fp).pe) hs, lc_core_d hus fi⟩
theorem ds_setLc {i : Nat} {y : Str} {py spos : Pos} {elt tg it : Expr} {ifs : List Expr} {scope : Scope} {own : List (Str × Nat)} {wi : WA} {g : WG} {wt : WT} {us : List Nat} (hN : X.N.Nodup)
    (hsw : swapsWith (.ListComp elt [⟨tg, it, ifs, 0⟩] scope pos) (some (.Name y py)) spos.line X.env = pure true) (hi : DI X k tg it wi) (ok : BlkOk X.N X.env.scope scope own)
    (hg : ∀ (s : Shared) (H : Hp) (C : Addr) (cl : List (Str × Addr)) (fp : List Addr), DG (X.blk s H scope (compEnvC scope cl C X.env) fp) k.still tg us g)
    (ht : ∀ (s : Shared) (H : Hp) (C : Addr) (cl : List (Str × Addr)) (fp : List Addr), DTs (X.blk s H scope (compEnvC scope cl C X.env) fp) k.still ifs wt)
    (he : ∀ (s : Shared) (H : Hp) (C : Addr) (cl : List (Str × Addr)) (fp : List Addr), DE (X.blk s H scope (compEnvC scope cl C X.env) fp) k.still elt w)
    (hus : ∀ i ∈ us, i ∈ own.map (·.2) := by decide) (hc : X.calm = true := by rfl) (hs : ∀ x, foldedSetIterable it X.env x = pure x := by intro _; rfl) (hy : X.N[i]? = some y := by rfl) (hyl : X.env.scope.names.lookup y = some .local := by rfl) :
    DS X k (.Assign [.Name y py] (.ListComp elt [⟨tg, it, ifs, 0⟩] scope pos) spos) (wSet i (wLc wi g wt w (own.map (·.2)))) := by
  obtain ⟨ti, pi, fi⟩ := hi
  refine ⟨_, ps_setLc (g := tGc (wc X k.s) k.still us g) (tt := tTc (wc X k.s) k.still wt) (te := tEc (wc X k.s) k.still w) hc hN hy hyl hsw pi ok (fun s H C cl fp => (hg s H C cl fp).pg) (fun s H C cl fp => (ht s H C cl fp).pt) (fun s H C cl fp => (he s H C cl fp).pe) hs, fun r Z H σ ρ d E O L h => ?_⟩
  exact lc_core_d hus fi r Z H σ ρ _ _ O h fun x v Z1 H1 s1 r1 h1 => L.nx Z1 H1 _ _ ((O.stp s1).set r1) h1
end
end Dl
set_option Elab.async false
set_option linter.all false
set_option maxRecDepth 100000
set_option maxHeartbeats 2000000
namespace Dl
open PySem PySem.Spec PyProof.Rows L2
/-! ### trees as data, for == -/
mutual
def D.py : D → PyData
  | .non => .none
  | .bl b => .bool b
  | .int i => .int i
  | .str s => .str s
  | .lst xs => .list (D.pyA xs)
  | .tup xs => .tuple (D.pyA xs)
  | _ => .none
def D.pyA : List D → List PyData
  | [] => []
  | x :: xs => x.py :: D.pyA xs
end
mutual
/-- no dict, no object, texts of characters -/
def D.fit : D → Bool
  | .non => true
  | .bl _ => true
  | .int _ => true
  | .str s => PyData.strOk s
  | .lst xs => D.fitA xs
  | .tup xs => D.fitA xs
  | _ => false
def D.fitA : List D → Bool
  | [] => true
  | x :: xs => x.fit && D.fitA xs
end
mutual
def D.dep : D → Nat
  | .lst xs => D.depA xs + 1
  | .tup xs => D.depA xs + 1
  | _ => 0
def D.depA : List D → Nat
  | [] => 0
  | x :: xs => max x.dep (D.depA xs)
end
mutual
theorem dep_py : ∀ d : D, d.py.depth = d.dep
  | .lst xs => by simp only [D.py, D.dep, PyData.depth, depA_py xs]
  | .tup xs => by simp only [D.py, D.dep, PyData.depth, depA_py xs]
  | .non => by simp only [D.py, D.dep, PyData.depth]
  | .bl _ => by simp only [D.py, D.dep, PyData.depth]
  | .int _ => by simp only [D.py, D.dep, PyData.depth]
  | .str _ => by simp only [D.py, D.dep, PyData.depth]
  | .dic _ => by simp only [D.py, D.dep, PyData.depth]
  | .ins _ _ => by simp only [D.py, D.dep, PyData.depth]
  | .drw => by simp only [D.py, D.dep, PyData.depth]
  | .scr _ => by simp only [D.py, D.dep, PyData.depth]
  | .ty _ => by simp only [D.py, D.dep, PyData.depth]
  | .rf _ => by simp only [D.py, D.dep, PyData.depth]
  | .exc _ _ _ => by simp only [D.py, D.dep, PyData.depth]
theorem depA_py : ∀ ds : List D, PyData.depthAll (D.pyA ds) = D.depA ds
  | [] => by simp only [D.pyA, D.depA, PyData.depthAll]
  | d :: ds => by simp only [D.pyA, D.depA, PyData.depthAll, dep_py d, depA_py ds]
end
mutual
theorem fit_py : ∀ d : D, d.fit = true → d.py.canLay0 = true
  | .lst xs, h => by
    simp only [D.fit] at h
    simp only [D.py, PyData.canLay0, fitA_py xs h]
  | .tup xs, h => by
    simp only [D.fit] at h
    simp only [D.py, PyData.canLay0, fitA_py xs h]
  | .non, _ => by simp only [D.py, PyData.canLay0]
  | .bl _, _ => by simp only [D.py, PyData.canLay0]
  | .int _, _ => by simp only [D.py, PyData.canLay0]
  | .str s, h => by
    simp only [D.fit] at h
    simp only [D.py, PyData.canLay0, h]
theorem fitA_py : ∀ ds : List D, D.fitA ds = true → PyData.canLayAll0 (D.pyA ds) = true
  | [], _ => by simp only [D.pyA, PyData.canLayAll0]
  | d :: ds, h => by
    simp only [D.fitA, Bool.and_eq_true] at h
    simp only [D.pyA, PyData.canLayAll0, fit_py d h.1, fitA_py ds h.2, Bool.and_self]
end
mutual
theorem rp_dp {c : Wc} {Z H : Hp} (e : Same Z H) : ∀ (d : D) (v : V), Rp c Z v d → d.fit = true → Dp c.K H v d.py
  | .lst xs, _, .lst h r, f => by
    simp only [D.fit] at f
    simp only [D.py]
    exact .lst (.inl (.inl (e _ _ h))) (rpa_dp e xs _ r f)
  | .tup xs, _, .tup h r, f => by
    simp only [D.fit] at f
    simp only [D.py]
    exact .tup (same_t e h) (rpa_dp e xs _ r f)
  | .non, _, .non, _ => by simp only [D.py]; exact .non
  | .bl b, _, .bl _, _ => by simp only [D.py]; exact .bl b
  | .int i, _, .int _, _ => by simp only [D.py]; exact .int i
  | .str s, _, .str _, _ => by simp only [D.py]; exact .str s
theorem rpa_dp {c : Wc} {Z H : Hp} (e : Same Z H) : ∀ (ds : List D) (vs : List V), RpA c Z vs ds → D.fitA ds = true → DpAll c.K H vs (D.pyA ds)
  | [], _, .nil, _ => by simp only [D.pyA]; exact .nil
  | d :: ds, _, .cons h r, f => by
    simp only [D.fitA, Bool.and_eq_true] at f
    simp only [D.pyA]
    exact .cons (rp_dp e d _ h f.1) (rpa_dp e ds _ r f.2)
end
/-- fit to be compared -/
def D.ok (d : D) : Prop := d.fit = true ∧ d.dep ≤ 64
theorem D.ok.shaped {d : D} (h : d.ok) : SeqAt.shaped d.py = true := by
  unfold SeqAt.shaped
  rw [fit_py d h.1, dep_py, decide_eq_true h.2]
  rfl
/-- Python's == of two trees -/
def deq (a b : D) : Bool := PyData.eqv a.py b.py
/-- .. where both are single values of a kind -/
def eqS : D → D → Option Bool
  | .str x, .str y => some (decide (x = y))
  | .int x, .int y => some (decide (x = y))
  | .bl x, .bl y => some (decide (x = y))
  | .non, .non => some true
  | .non, .str _ => some false
  | .str _, .non => some false
  | .non, .int _ => some false
  | .int _, .non => some false
  | .non, .bl _ => some false
  | .bl _, .non => some false
  | .int _, .str _ => some false
  | .str _, .int _ => some false
  | .bl _, .str _ => some false
  | .str _, .bl _ => some false
  | _, _ => none
def rdEq : R2D := fun a b Q => match eqS a b with
  | some r => Q (.bl r)
  | none => (a.ok ∧ b.ok) ∧ Q (.bl (deq a b))
def rdNe : R2D := fun a b Q => match eqS a b with
  | some r => Q (.bl (!r))
  | none => (a.ok ∧ b.ok) ∧ Q (.bl (!deq a b))
section
variable {X : Cx} {k : Cc}
theorem eqS_scal {c : Wc} {Z : Hp} {x y : V} {a b : D} {r : Bool} (h : eqS a b = some r) (ra : Rp c Z x a) (rb : Rp c Z y b) : scal x y = true ∧ decide (x = y) = r := by
  cases ra <;> cases rb <;> first
    | (simp only [eqS, Option.some.injEq] at h
       subst h
       refine ⟨rfl, ?_⟩
       simp)
    | (simp [eqS] at h)
theorem op_eq_d (hu : X.A.units + 64 < cLine) : OpR X (compareOp .Eq) (fun x y H Q => rEq x y H Q ∨ rEqD X.K x y H Q) := .or op_eq (op_eqD hu)
theorem op_ne_d (hu : X.A.units + 64 < cLine) : OpR X (compareOp .NotEq) (fun x y H Q => rNe x y H Q ∨ rNeD X.K x y H Q) := .or op_ne (op_neD hu)
theorem o2_eq : Op2 X k (fun x y H Q => rEq x y H Q ∨ rEqD X.K x y H Q) rdEq := by
  intro Z H x y a b Qd Q B ra rb h q
  unfold rdEq at h
  cases e : eqS a b with
  | some r =>
    rw [e] at h
    obtain ⟨h1, h2⟩ := eqS_scal e ra rb
    exact .inl ⟨h1, by rw [h2]; exact q _ _ Z H (.refl B) (.bl _) h⟩
  | none =>
    rw [e] at h
    obtain ⟨⟨oa, ob⟩, h⟩ := h
    exact .inr ⟨a.py, b.py, rp_dp (c := wc X k.s) B.zh a x ra oa.1, rp_dp (c := wc X k.s) B.zh b y rb ob.1, oa.shaped, ob.shaped, q _ _ Z H (.refl B) (.bl _) h⟩
theorem o2_ne : Op2 X k (fun x y H Q => rNe x y H Q ∨ rNeD X.K x y H Q) rdNe := by
  intro Z H x y a b Qd Q B ra rb h q
  unfold rdNe at h
  cases e : eqS a b with
  | some r =>
    rw [e] at h
    obtain ⟨h1, h2⟩ := eqS_scal e ra rb
    exact .inl ⟨h1, by rw [h2]; exact q _ _ Z H (.refl B) (.bl _) h⟩
  | none =>
    rw [e] at h
    obtain ⟨⟨oa, ob⟩, h⟩ := h
    exact .inr ⟨a.py, b.py, rp_dp (c := wc X k.s) B.zh a x ra oa.1, rp_dp (c := wc X k.s) B.zh b y rb ob.1, oa.shaped, ob.shaped, q _ _ Z H (.refl B) (.bl _) h⟩
/-! ### whole numbers -/
def rdI (C : Int → Int → Prop) (g : Int → Int → D) : R2D := fun a b Q => a.I fun i => b.I fun j => C i j ∧ Q (g i j)
def rdI0 (g : Int → Int → D) : R2D := fun a b Q => a.I fun i => b.I fun j => Q (g i j)
theorem o2_int {C : Int → Int → Prop} {g : Int → Int → V} {gd : Int → Int → D} (hg : ∀ c Z i j, Rp c Z (g i j) (gd i j)) : Op2 X k (rI C g) (rdI C gd) := by
  intro Z H x y a b Qd Q B ra rb h q
  obtain ⟨i, e1, h1⟩ := D.I_ex h
  obtain ⟨j, e2, hc, h2⟩ := D.I_ex h1
  subst e1 e2
  cases ra
  cases rb
  exact ⟨i, j, rfl, rfl, hc, q _ _ Z H (.refl B) (hg _ _ _ _) h2⟩
theorem o2_int0 {g : Int → Int → V} {gd : Int → Int → D} (hg : ∀ c Z i j, Rp c Z (g i j) (gd i j)) : Op2 X k (rI0 g) (rdI0 gd) := by
  intro Z H x y a b Qd Q B ra rb h q
  obtain ⟨i, e1, h1⟩ := D.I_ex h
  obtain ⟨j, e2, h2⟩ := D.I_ex h1
  subst e1 e2
  cases ra
  cases rb
  exact ⟨i, j, rfl, rfl, q _ _ Z H (.refl B) (hg _ _ _ _) h2⟩
variable {a b e c : Expr} {es : List Expr} {wa wb w wc' : WE} {pos p : Pos}
theorem de_add (ha : DE X k a wa) (hb : DE X k b wb) : DE X k (.BinOp a .Add b pos) (wOp (rdI0 fun i j => .int (i + j)) wa wb) := de_op op_add (o2_int0 fun _ _ _ _ => .int _) ha hb
theorem de_sub (ha : DE X k a wa) (hb : DE X k b wb) : DE X k (.BinOp a .Sub b pos) (wOp (rdI0 fun i j => .int (i - j)) wa wb) := de_op op_sub (o2_int0 fun _ _ _ _ => .int _) ha hb
theorem de_mul (ha : DE X k a wa) (hb : DE X k b wb) : DE X k (.BinOp a .Mult b pos) (wOp (rdI CMul fun i j => .int (i * j)) wa wb) := de_op op_mul (o2_int fun _ _ _ _ => .int _) ha hb
theorem de_mod (ha : DE X k a wa) (hb : DE X k b wb) : DE X k (.BinOp a .Mod b pos) (wOp (rdI (fun _ j => 0 < j) fun i j => .int (i % j)) wa wb) := de_op op_mod (o2_int fun _ _ _ _ => .int _) ha hb
theorem de_fdiv (ha : DE X k a wa) (hb : DE X k b wb) : DE X k (.BinOp a .FloorDiv b pos) (wOp (rdI CDivW fun i j => .int (i / j)) wa wb) := de_op op_fdivW (o2_int fun _ _ _ _ => .int _) ha hb
theorem de_pow (ha : DE X k a wa) (hb : DE X k b wb) : DE X k (.BinOp a .Pow b pos) (wOp (rdI CPow fun i j => .int (i ^ j.toNat)) wa wb) := de_op op_pow (o2_int fun _ _ _ _ => .int _) ha hb
theorem de_shl (ha : DE X k a wa) (hb : DE X k b wb) : DE X k (.BinOp a .LShift b pos) (wOp (rdI CPow fun i j => .int (i * 2 ^ j.toNat)) wa wb) := de_op op_shl (o2_int fun _ _ _ _ => .int _) ha hb
def wNeg (wa : WE) : WE := fun ρ Q => wa ρ fun d => d.I fun i => Q (.int (-i))
theorem de_neg (ha : DE X k a wa) : DE X k (.UnaryOp .USub a pos) (wNeg wa) := by
  obtain ⟨t, p, f⟩ := ha
  refine ⟨_, pe_un un_neg p, fun r Z H σ ρ Qd Q O h q => ?_⟩
  refine f r Z H σ ρ _ _ O h fun d v Z1 H1 s1 r1 h1 => ?_
  obtain ⟨i, e0, h2⟩ := D.I_ex h1
  subst e0
  cases r1
  exact ⟨i, rfl, q _ _ Z1 H1 s1 (.int _) h2⟩
abbrev rdLt : R2D := rdI0 fun i j => .bl (decide (i < j))
abbrev rdLe : R2D := rdI0 fun i j => .bl (decide (i ≤ j))
abbrev rdGt : R2D := rdI0 fun i j => .bl (decide (j < i))
abbrev rdGe : R2D := rdI0 fun i j => .bl (decide (j ≤ i))
theorem o2_lt : Op2 X k (rI0 fun i j => .bl (decide (i < j))) rdLt := o2_int0 fun _ _ _ _ => .bl _
theorem o2_le : Op2 X k (rI0 fun i j => .bl (decide (i ≤ j))) rdLe := o2_int0 fun _ _ _ _ => .bl _
theorem o2_gt : Op2 X k (rI0 fun i j => .bl (decide (j < i))) rdGt := o2_int0 fun _ _ _ _ => .bl _
theorem o2_ge : Op2 X k (rI0 fun i j => .bl (decide (j ≤ i))) rdGe := o2_int0 fun _ _ _ _ => .bl _
/-! ### None -/
def rdIsN : R2D := fun a b Q => b = .non ∧ Q (.bl (match a with | .non => true | _ => false))
def rdNotN : R2D := fun a b Q => b = .non ∧ Q (.bl (match a with | .non => false | _ => true))
theorem o2_isN : Op2 X k (fun x y H Q => y = .non ∧ Q (.bl (decide (x = .non))) H) rdIsN := by
  intro Z H x y a b Qd Q B ra rb h q
  obtain ⟨rfl, h⟩ := h
  cases rb
  refine ⟨rfl, q _ _ Z H (.refl B) (.bl _) ?_⟩
  cases ra <;> exact h
theorem o2_notN : Op2 X k (fun x y H Q => y = .non ∧ Q (.bl (!decide (x = .non))) H) rdNotN := by
  intro Z H x y a b Qd Q B ra rb h q
  obtain ⟨rfl, h⟩ := h
  cases rb
  refine ⟨rfl, q _ _ Z H (.refl B) (.bl _) ?_⟩
  cases ra <;> exact h
/-! ### texts -/
def rdAddS : R2D := fun a b Q => a.S fun x => b.S fun y => x.length + y.length ≤ 1000000 ∧ Q (.str (x ++ y))
theorem o2_addS : Op2 X k (fun x y H Q => ∃ i j, x = .str i ∧ y = .str j ∧ i.length + j.length ≤ sizeLine ∧ Q (.str (i ++ j)) H) rdAddS := by
  intro Z H x y a b Qd Q B ra rb h q
  obtain ⟨i, e1, h1⟩ := D.S_ex h
  obtain ⟨j, e2, hc, h2⟩ := D.S_ex h1
  subst e1 e2
  cases ra
  cases rb
  exact ⟨i, j, rfl, rfl, Nat.le_trans hc (by decide), q _ _ Z H (.refl B) (.str _) h2⟩
theorem de_addS (ha : DE X k a wa) (hb : DE X k b wb) : DE X k (.BinOp a .Add b pos) (wOp rdAddS wa wb) := de_op op_add_str o2_addS ha hb
/-- one sign in a text -/
def rdInS (neg : Bool) : R2D := fun a b Q => a.S fun x => b.S fun y => x.length = 1 ∧ Q (.bl (neg.xor (decide (x.cps.getD 0 0 ∈ y.cps.toList))))
theorem sign_of {x : Str} (h : x.length = 1) : x = ⟨#[x.cps.getD 0 0]⟩ := by
  obtain ⟨⟨l⟩⟩ := x
  match l, h with
  | [c], _ => rfl
theorem o2_inS : Op2 X k (fun x y H Q => ∃ (c : Nat) (z : Str), x = .str ⟨#[c]⟩ ∧ y = .str z ∧ Q (.bl (decide (c ∈ z.cps.toList))) H) (rdInS false) := by
  intro Z H x y a b Qd Q B ra rb h q
  obtain ⟨i, e1, h1⟩ := D.S_ex h
  obtain ⟨j, e2, hc, h2⟩ := D.S_ex h1
  subst e1 e2
  cases ra
  cases rb
  exact ⟨_, j, congrArg V.str (sign_of hc), rfl, q _ _ Z H (.refl B) (.bl _) (by simpa using h2)⟩
theorem o2_notInS : Op2 X k (fun x y H Q => ∃ (c : Nat) (z : Str), x = .str ⟨#[c]⟩ ∧ y = .str z ∧ Q (.bl (!decide (c ∈ z.cps.toList))) H) (rdInS true) := by
  intro Z H x y a b Qd Q B ra rb h q
  obtain ⟨i, e1, h1⟩ := D.S_ex h
  obtain ⟨j, e2, hc, h2⟩ := D.S_ex h1
  subst e1 e2
  cases ra
  cases rb
  exact ⟨_, j, congrArg V.str (sign_of hc), rfl, q _ _ Z H (.refl B) (.bl _) (by simpa using h2)⟩
/-- s[i], xs[i], t[i] -/
def rdIxS : R2D := fun a b Q => a.S fun x => b.I fun i => x.length ≤ 1000000 ∧ ∃ n, atI x.cps.toList i = some n ∧ Q (.str ⟨#[n]⟩)
theorem o2_ixS : Op2 X k rIxS rdIxS := by
  intro Z H x y a b Qd Q B ra rb h q
  obtain ⟨s, e1, h1⟩ := D.S_ex h
  obtain ⟨i, e2, hl, n, ha, h2⟩ := D.I_ex h1
  subst e1 e2
  cases ra
  cases rb
  exact ⟨s, i, n, rfl, rfl, Nat.le_trans hl (by decide), ha, q _ _ Z H (.refl B) (.str _) h2⟩
theorem rpa_at {c : Wc} {Z : Hp} {vs : List V} {ds : List D} {i : Int} {d : D} (r : RpA c Z vs ds) (h : atI ds i = some d) : ∃ v, atI vs i = some v ∧ Rp c Z v d := by
  unfold atI at h ⊢
  rw [r.length]
  cases e : ixN ds.length i with
  | none =>
    rw [e] at h
    cases h
  | some j =>
    rw [e] at h
    obtain ⟨v, h1, h2⟩ := r.get j h
    exact ⟨v, h1, h2⟩
def rdIxT : R2D := fun a b Q => a.T fun ds => b.I fun i => ∃ d, atI ds i = some d ∧ Q d
def rdIxL : R2D := fun a b Q => a.L fun ds => b.I fun i => ∃ d, atI ds i = some d ∧ Q d
theorem o2_ixT : Op2 X k (rIxT X.K) rdIxT := by
  intro Z H x y a b Qd Q B ra rb h q
  obtain ⟨ds, e1, h1⟩ := D.T_ex h
  obtain ⟨i, e2, d, hd, h2⟩ := D.I_ex h1
  subst e1 e2
  cases rb
  cases ra with
  | tup hs hr =>
    obtain ⟨v, h3, h4⟩ := rpa_at hr hd
    exact ⟨_, _, i, v, rfl, rfl, same_t B.zh hs, h3, q d v Z H (.refl B) h4 h2⟩
theorem o2_ixL : Op2 X k (rIxL X.K) rdIxL := by
  intro Z H x y a b Qd Q B ra rb h q
  obtain ⟨ds, e1, h1⟩ := D.L_ex h
  obtain ⟨i, e2, d, hd, h2⟩ := D.I_ex h1
  subst e1 e2
  cases rb
  cases ra with
  | lst hs hr =>
    obtain ⟨v, h3, h4⟩ := rpa_at hr hd
    exact ⟨_, _, i, v, rfl, rfl, .inl (.inl (B.zh _ _ hs)), h3, q d v Z H (.refl B) h4 h2⟩
/-- s[i:j] -/
def rdSlS : RSD := fun a i j Q => a.S fun x => x.length ≤ 1000000 ∧ Q (.str (cutS x i j))
theorem os_slS : OpS X k rSlS rdSlS := by
  intro Z H x d i j Qd Q B ra h q
  obtain ⟨s, e1, hl, h1⟩ := D.S_ex h
  subst e1
  cases ra
  exact ⟨s, rfl, Nat.le_trans hl (by decide), q _ _ Z H (.refl B) (.str _) h1⟩
def cutD (xs : List D) (lo hi : Option Int) : List D := (xs.drop (HT.sIx xs.length 0 lo)).take (HT.sIx xs.length xs.length hi - HT.sIx xs.length 0 lo)
theorem rpa_cut {c : Wc} {Z : Hp} {vs : List V} {ds : List D} {i j : Option Int} (r : RpA c Z vs ds) : RpA c Z (cutV vs i j) (cutD ds i j) := by
  unfold cutV cutD
  rw [r.length]
  exact (r.drop _).take _
def rdSlL : RSD := fun a i j Q => a.L fun xs => Q (.lst (cutD xs i j))
theorem os_slL : OpS X k (rSlL X.K) rdSlL := by
  intro Z H x d i j Qd Q B ra h q
  obtain ⟨s, e1, h1⟩ := D.L_ex h
  subst e1
  cases ra with
  | lst hs hr => exact ⟨_, _, rfl, .inl (.inl (B.zh _ _ hs)), fun p hp => q _ _ _ _ (.add B hp) (rp_lst (c := wc X k.s) (rpa_cut hr) B hp) h1⟩
/-! ### lists, tuples put together -/
def rdCatL : R2D := fun a b Q => a.L fun xs => b.L fun ys => xs.length + ys.length ≤ 1000000 ∧ Q (.lst (xs ++ ys))
theorem o2_catL : Op2 X k rCat rdCatL := by
  intro Z H x y a b Qd Q B ra rb h q
  obtain ⟨xs, e1, h1⟩ := D.L_ex h
  obtain ⟨ys, e2, hc, h2⟩ := D.L_ex h1
  subst e1 e2
  cases ra with
  | lst hs hr =>
    cases rb with
    | lst hs2 hr2 => exact ⟨_, _, _, _, rfl, rfl, B.zh _ _ hs, B.zh _ _ hs2, by rw [hr.length, hr2.length]; exact Nat.le_trans hc (by decide), fun p hp => q _ _ _ _ (.add B hp) (rp_lst (c := wc X k.s) (hr.append hr2) B hp) h2⟩
theorem de_catL (ha : DE X k a wa) (hb : DE X k b wb) : DE X k (.BinOp a .Add b pos) (wOp rdCatL wa wb) := de_op op_cat o2_catL ha hb
def rdCatT : R2D := fun a b Q => a.T fun xs => b.T fun ys => (xs ≠ [] ∧ xs.length + ys.length ≤ 1000000) ∧ Q (.tup (xs ++ ys))
theorem o2_catT : Op2 X k (rCatT X.K) rdCatT := by
  intro Z H x y a b Qd Q B ra rb h q
  obtain ⟨xs, e1, h1⟩ := D.T_ex h
  obtain ⟨ys, e2, ⟨hn, hc⟩, h2⟩ := D.T_ex h1
  subst e1 e2
  cases ra with
  | tup hs hr =>
    cases rb with
    | tup hs2 hr2 =>
      refine ⟨_, _, _, _, rfl, rfl, same_t B.zh hs, same_t B.zh hs2, fun z => hn ?_, by rw [hr.length, hr2.length]; exact Nat.le_trans hc (by decide), fun z => ?_, fun _ p hp => q _ _ _ _ (.add B hp) (rp_tup (c := wc X k.s) (hr.append hr2) B hp) h2⟩
      · subst z
        cases hr
        rfl
      · subst z
        cases hr2
        rw [List.append_nil] at h2
        exact q _ _ Z H (.refl B) (.tup hs hr) h2
theorem de_catT (ha : DE X k a wa) (hb : DE X k b wb) : DE X k (.BinOp a .Add b pos) (wOp rdCatT wa wb) := de_op op_catT o2_catT ha hb
/-! ### built-in functions -/
def D.len : D → Option Nat
  | .str s => if s.length ≤ 1000000 then some s.length else none
  | .lst xs => some xs.length
  | .tup xs => some xs.length
  | .scr xs => some xs.length
  | _ => none
def rdLen : RAD := fun ds Q => match ds with
  | [d] => match d.len with
    | some n => Q (.int n)
    | none => False
  | _ => False
theorem call_len_d : CallR X (.builtin "len") (fun xs H Q => (∃ z, xs = [.str z] ∧ z.length ≤ sizeLine ∧ Q (.int z.length) H) ∨ ∃ p ys, xs = [.ref p] ∧ (SqL X.K H p ys ∨ SqT X.K H p ys) ∧ Q (.int ys.length) H) := .or call_len_str call_len_seq
theorem oa_len : OpA X k (fun xs H Q => (∃ z, xs = [.str z] ∧ z.length ≤ sizeLine ∧ Q (.int z.length) H) ∨ ∃ p ys, xs = [.ref p] ∧ (SqL X.K H p ys ∨ SqT X.K H p ys) ∧ Q (.int ys.length) H) rdLen := by
  intro Z H xs ds Qd Q B ra h q
  match ds, xs, ra, h with
  | [d], [v], .cons r .nil, h =>
    unfold rdLen at h
    cases e : d.len with
    | none =>
      simp only [e] at h
    | some n =>
      simp only [e] at h
      cases r with
      | str z =>
        simp only [D.len] at e
        split at e
        · rename_i hz
          cases e
          exact .inl ⟨z, rfl, Nat.le_trans hz (by decide), q _ _ Z H (.refl B) (.int _) h⟩
        · cases e
      | lst hs hr =>
        simp only [D.len, Option.some.injEq] at e
        subst e
        rw [← hr.length] at h
        exact .inr ⟨_, _, rfl, .inl (.inl (.inl (B.zh _ _ hs))), q _ _ Z H (.refl B) (.int _) h⟩
      | tup hs hr =>
        simp only [D.len, Option.some.injEq] at e
        subst e
        rw [← hr.length] at h
        exact .inr ⟨_, _, rfl, .inr (same_t B.zh hs), q _ _ Z H (.refl B) (.int _) h⟩
      | scr hs =>
        simp only [D.len, Option.some.injEq] at e
        subst e
        refine .inr ⟨_, _, rfl, .inl (B.zh.seq hs), q _ _ Z H (.refl B) (.int _) ?_⟩
        rw [List.length_map]
        exact h
      | _ => simp [D.len] at e
theorem de_len {u : WA} (hm : X.mg "len" = none) (ha : DA X k [e] u) (hg : Gl X "len" := by rfl) (he : starEach [e] X.env = (false, eval e X.env) :: starEach [] X.env := by rfl) : DE X k (.Call (.Name "len" p) [e] [] pos) (wCB rdLen u) := de_b call_len_d oa_len hm PySem.boot_len ha hg (by decide) (by decide) he
def rdOrd : RAD := fun ds Q => match ds with
  | [.str x] => x.length = 1 ∧ Q (.int (x.cps.getD 0 0 : Nat))
  | _ => False
theorem oa_ord : OpA X k (fun xs H Q => ∃ x, xs = [.str x] ∧ x.length = 1 ∧ Q (.int (x.cps.getD 0 0 : Nat)) H) rdOrd := by
  intro Z H xs ds Qd Q B ra h q
  match ds, xs, ra, h with
  | [.str x], [_], .cons (.str _) .nil, h => exact ⟨x, rfl, h.1, q _ _ Z H (.refl B) (.int _) h.2⟩
theorem de_ord {u : WA} (hm : X.mg "ord" = none) (ha : DA X k [e] u) (hg : Gl X "ord" := by rfl) (he : starEach [e] X.env = (false, eval e X.env) :: starEach [] X.env := by rfl) : DE X k (.Call (.Name "ord" p) [e] [] pos) (wCB rdOrd u) := de_b call_ord oa_ord hm PyProof.Rows.boot_ord ha hg (by decide) (by decide) he
def D.blA : List D → Option (List Bool)
  | [] => some []
  | .bl b :: r => (D.blA r).map (b :: ·)
  | _ => none
theorem blA_map : ∀ {ds : List D} {bs : List Bool}, D.blA ds = some bs → ds = bs.map .bl
  | [], _, h => by
    cases h
    rfl
  | .bl b :: r, _, h => by
    simp only [D.blA, Option.map_eq_some_iff] at h
    obtain ⟨c, h1, rfl⟩ := h
    rw [blA_map h1]
    rfl
theorem rpa_bl {c : Wc} {Z : Hp} : ∀ {bs : List Bool} {vs : List V}, RpA c Z vs (bs.map .bl) → vs = bs.map V.bl
  | [], _, .nil => rfl
  | b :: bs, _, .cons (.bl _) r => by rw [rpa_bl r]; rfl
def rdAll : RAD := fun ds Q => match ds with
  | [d] => d.L fun xs => match D.blA xs with
    | some bs => Q (.bl (bs.all id))
    | none => False
  | _ => False
def rdAny : RAD := fun ds Q => match ds with
  | [d] => d.L fun xs => match D.blA xs with
    | some bs => Q (.bl (bs.any id))
    | none => False
  | _ => False
theorem oa_all : OpA X k (rAll X.K) rdAll := by
  intro Z H xs ds Qd Q B ra h q
  match ds, xs, ra, h with
  | [d], [v], .cons r .nil, h =>
    obtain ⟨ys, e0, h1⟩ := D.L_ex h
    subst e0
    cases e : D.blA ys with
    | none =>
      rw [e] at h1
      exact h1.elim
    | some bs =>
      rw [e] at h1
      have e2 := blA_map e
      subst e2
      cases r with
      | lst hs hr =>
        have e3 := rpa_bl hr
        subst e3
        exact ⟨_, bs, rfl, .inl (.inl (B.zh _ _ hs)), q _ _ Z H (.refl B) (.bl _) h1⟩
theorem oa_any : OpA X k (rAny X.K) rdAny := by
  intro Z H xs ds Qd Q B ra h q
  match ds, xs, ra, h with
  | [d], [v], .cons r .nil, h =>
    obtain ⟨ys, e0, h1⟩ := D.L_ex h
    subst e0
    cases e : D.blA ys with
    | none =>
      rw [e] at h1
      exact h1.elim
    | some bs =>
      rw [e] at h1
      have e2 := blA_map e
      subst e2
      cases r with
      | lst hs hr =>
        have e3 := rpa_bl hr
        subst e3
        exact ⟨_, bs, rfl, .inl (.inl (B.zh _ _ hs)), q _ _ Z H (.refl B) (.bl _) h1⟩
theorem boot_all : bootBuiltins "all" = some (.builtin "all") := by decide +kernel
theorem boot_any : bootBuiltins "any" = some (.builtin "any") := by decide +kernel
theorem de_all {u : WA} (hm : X.mg "all" = none) (ha : DA X k [e] u) (hc : X.calm = true := by rfl) (hg : Gl X "all" := by rfl) (he : starEach [e] X.env = (false, eval e X.env) :: starEach [] X.env := by rfl) : DE X k (.Call (.Name "all" p) [e] [] pos) (wCB rdAll u) := de_b (cr_all hc) oa_all hm boot_all ha hg (by decide) (by decide) he
theorem de_any {u : WA} (hm : X.mg "any" = none) (ha : DA X k [e] u) (hc : X.calm = true := by rfl) (hg : Gl X "any" := by rfl) (he : starEach [e] X.env = (false, eval e X.env) :: starEach [] X.env := by rfl) : DE X k (.Call (.Name "any" p) [e] [] pos) (wCB rdAny u) := de_b (cr_any hc) oa_any hm boot_any ha hg (by decide) (by decide) he
/-! ### isinstance by a built-in class -/
def tyN : D → Option String
  | .non => some "NoneType"
  | .bl _ => some "bool"
  | .int _ => some "int"
  | .str _ => some "str"
  | .lst _ => some "list"
  | .tup _ => some "tuple"
  | .dic _ => some "dict"
  | _ => none
def isaT (t n : String) : Bool := t == n || (t == "bool" && n == "int")
theorem kit_tab : ∀ t ∈ ["NoneType", "bool", "int", "str", "list", "tuple", "dict"], ∀ n ∈ ["bool", "int", "str", "list", "tuple", "dict"], kitB t n = some (isaT t n) := by decide +kernel
theorem tyN_in {d : D} {t : String} (h : tyN d = some t) : t ∈ ["NoneType", "bool", "int", "str", "list", "tuple", "dict"] := by
  cases d <;> simp only [tyN, Option.some.injEq] at h <;> first | (subst h; decide) | cases h
theorem tyX_of {c : Wc} {Z H : Hp} {v : V} {d : D} {t : String} (r : Rp c Z v d) (e : Same Z H) (h : tyN d = some t) : TyX c.K H v (.type t) := by
  cases r with
  | non => cases h; exact .base .non
  | bl b => cases h; exact .base (.bl b)
  | int b => cases h; exact .base (.int b)
  | str b => cases h; exact .base (.str b)
  | lst hs hr => cases h; exact .base (.lst (e _ _ hs))
  | dic hs hr =>
    cases h
    rcases rd_mono e hs with h | ⟨o, h⟩
    · exact .base (.dK h)
    · exact .fDict h
  | tup hs hr =>
    cases h
    rcases same_t e hs with (h | ⟨o, h⟩) | ⟨o, _, _, h1, h2, _⟩
    · exact .base (.tup h)
    · exact .fTuple h
    · exact .kTuple h1 h2
  | _ => cases h
def rdIsi : RAD := fun ds Q => match ds with
  | [x, .ty n] => n ∈ ["bool", "int", "str", "list", "tuple", "dict"] ∧ (match tyN x with
    | some t => Q (.bl (isaT t n))
    | none => False)
  | _ => False
theorem oa_isi : OpA X k (rIsi X.K) rdIsi := by
  intro Z H xs ds Qd Q B ra h q
  match ds, xs, ra, h with
  | [x, .ty n], [v, _], .cons r (.cons (.ty _) .nil), h =>
    obtain ⟨hn, h⟩ := h
    cases e : tyN x with
    | none =>
      rw [e] at h
      exact h.elim
    | some t =>
      rw [e] at h
      exact ⟨v, .ty n, .type t, .type n, isaT t n, rfl, .ty n, tyX_of (c := wc X k.s) r B.zh e, kit_ty (kit_tab t (tyN_in e) n hn), q _ _ Z H (.refl B) (.bl _) h⟩
theorem de_isi {u : WA} (hm : X.mg "isinstance" = none) (ha : DA X k (e :: es) u) (hg : Gl X "isinstance" := by rfl) (he : starEach (e :: es) X.env = (false, eval e X.env) :: starEach es X.env := by rfl) (hpl : (backTo pos (starEach es X.env)).any (·.1) = false := by rfl) : DE X k (.Call (.Name "isinstance" p) (e :: es) [] pos) (wCB rdIsi u) :=
  de_b call_isi oa_isi hm PyProof.Rows.boot_isinstance ha hg (by decide) (by decide) he hpl
/-- a built-in class as a value -/
theorem de_tyN {x : Str} {n : String} (hm : X.mg x = none) (hv : bootBuiltins x = some (.type n)) (hg : Gl X x := by rfl) (hn : x ≠ "__name__" := by decide) (hdb : (x == ("__debug__" : Str)) = false := by decide) : DE X k (.Name x pos) (wC (.ty n)) :=
  ⟨_, pe_bltn (v := .ty n) hg hm hv rfl hn hdb, fun r Z H σ ρ Qd Q O h q => q _ _ Z H (.refl O.bs) (.ty n) h⟩
/-! ### methods of texts -/
theorem om_bl {g : Str → Bool} : ∀ (Z H : Hp) (z : Str) (Qd : D → Prop) (Q : VK), Bs k.s Z H → (fun (z : Str) (Q : D → Prop) => Q (.bl (g z))) z Qd → (∀ d v Z' H', Stp k.s Z H Z' H' → Rp (wc X k.s) Z' v d → Qd d → Q v H') →
    (fun x xs H (Q : VK) => ∃ a, x = V.str a ∧ xs = ([] : List V) ∧ True ∧ Q (.bl (g a)) H) (.str z) [] H Q := fun Z H z Qd Q B h q => ⟨z, rfl, rfl, trivial, q _ _ Z H (.refl B) (.bl _) h⟩
abbrev wSB (g : Str → Bool) (w : WE) : WE := wM0 (fun z Q => Q (.bl (g z))) w
theorem om_bl1 {g : Str → Str → Bool} : ∀ (Z H : Hp) (z : Str) (y : V) (d : D) (Qd : D → Prop) (Q : VK), Bs k.s Z H → Rp (wc X k.s) Z y d → (fun (z : Str) (d : D) (Q : D → Prop) => d.S fun y => Q (.bl (g z y))) z d Qd → (∀ d v Z' H', Stp k.s Z H Z' H' → Rp (wc X k.s) Z' v d → Qd d → Q v H') →
    (fun x xs H (Q : VK) => ∃ a b, x = V.str a ∧ xs = [V.str b] ∧ Q (.bl (g a b)) H) (.str z) [y] H Q := fun Z H z y d Qd Q B r h q => by
  obtain ⟨b, e0, h1⟩ := D.S_ex h
  subst e0
  cases r
  exact ⟨z, b, rfl, rfl, q _ _ Z H (.refl B) (.bl _) h1⟩
abbrev wSB1 (g : Str → Str → Bool) (w u : WE) : WE := wM1 (fun z d Q => d.S fun y => Q (.bl (g z y))) w u
def D.strA : List D → Option (List Str)
  | [] => some []
  | .str b :: r => (D.strA r).map (b :: ·)
  | _ => none
theorem strA_map : ∀ {ds : List D} {bs : List Str}, D.strA ds = some bs → ds = bs.map .str
  | [], _, h => by
    cases h
    rfl
  | .str b :: r, _, h => by
    simp only [D.strA, Option.map_eq_some_iff] at h
    obtain ⟨c, h1, rfl⟩ := h
    rw [strA_map h1]
    rfl
theorem rpa_str {c : Wc} {Z : Hp} : ∀ {bs : List Str} {vs : List V}, RpA c Z vs (bs.map .str) → vs = bs.map V.str
  | [], _, .nil => rfl
  | b :: bs, _, .cons (.str _) r => by rw [rpa_str r]; rfl
def rdJoin : Str → D → (D → Prop) → Prop := fun z d Q => d.L fun xs => match D.strA xs with
  | some ys => (ys.map (·.length)).sum + ys.length * z.length ≤ 1000000 ∧ Q (.str (Txt.join z ys))
  | none => False
theorem om_join : ∀ (Z H : Hp) (z : Str) (y : V) (d : D) (Qd : D → Prop) (Q : VK), Bs k.s Z H → Rp (wc X k.s) Z y d → rdJoin z d Qd → (∀ d v Z' H', Stp k.s Z H Z' H' → Rp (wc X k.s) Z' v d → Qd d → Q v H') →
    (fun x xs H (Q : VK) => ∃ a p, ∃ ys : List Str, x = V.str a ∧ xs = [V.ref p] ∧ (SqL X.K H p (ys.map V.str) ∨ SqT X.K H p (ys.map V.str)) ∧ (ys.map (·.length)).sum + ys.length * a.length ≤ 16777216 ∧ Q (.str (Txt.join a ys)) H) (.str z) [y] H Q := fun Z H z y d Qd Q B r h q => by
  obtain ⟨xs, e0, h1⟩ := D.L_ex h
  subst e0
  cases e : D.strA xs with
  | none =>
    rw [e] at h1
    exact h1.elim
  | some ys =>
    rw [e] at h1
    have e2 := strA_map e
    subst e2
    cases r with
    | lst hs hr =>
      have e3 := rpa_str hr
      subst e3
      exact ⟨z, _, ys, rfl, rfl, .inl (.inl (.inl (B.zh _ _ hs))), Nat.le_trans h1.1 (by decide), q _ _ Z H (.refl B) (.str _) h1.2⟩
end
end Dl
set_option Elab.async false
set_option linter.all false
set_option maxRecDepth 100000
set_option maxHeartbeats 2000000
namespace Dl
open PySem PySem.Spec PyProof.Rows L2
section
variable {X : Cx} {k : Cc} {a b e c : Expr} {es : List Expr} {wa wb w wc' : WE} {pos p pos2 : Pos}
/-! ### + , subscripts, slices of any kind -/
def rdAdd : R2D := fun a b Q => match a, b with
  | .int i, .int j => Q (.int (i + j))
  | .str x, .str y => x.length + y.length ≤ 1000000 ∧ Q (.str (x ++ y))
  | .lst xs, .lst ys => xs.length + ys.length ≤ 1000000 ∧ Q (.lst (xs ++ ys))
  | .tup xs, .tup ys => (xs ≠ [] ∧ xs.length + ys.length ≤ 1000000) ∧ Q (.tup (xs ++ ys))
  | _, _ => False
theorem de_plus (ha : DE X k a wa) (hb : DE X k b wb) : DE X k (.BinOp a .Add b pos) (wOp rdAdd wa wb) := by
  refine de_op (.or op_add (.or op_add_str (.or op_cat op_catT))) ?_ ha hb
  intro Z H x y a b Qd Q B ra rb h q
  cases ra with
  | int i => cases rb with
    | int j => exact .inl (o2_int0 (X := X) (k := k) (gd := fun i j => .int (i + j)) (fun _ _ _ _ => .int _) Z H _ _ (.int i) (.int j) Qd Q B (.int i) (.int j) h q)
    | _ => exact h.elim
  | str x => cases rb with
    | str y => exact .inr (.inl (o2_addS (X := X) (k := k) Z H _ _ (.str x) (.str y) Qd Q B (.str x) (.str y) h q))
    | _ => exact h.elim
  | lst hs hr => cases rb with
    | lst hs2 hr2 => exact .inr (.inr (.inl (o2_catL (X := X) (k := k) Z H _ _ (.lst _) (.lst _) Qd Q B (.lst hs hr) (.lst hs2 hr2) h q)))
    | _ => exact h.elim
  | tup hs hr => cases rb with
    | tup hs2 hr2 => exact .inr (.inr (.inr (o2_catT (X := X) (k := k) Z H _ _ (.tup _) (.tup _) Qd Q B (.tup hs hr) (.tup hs2 hr2) h q)))
    | _ => exact h.elim
  | _ => exact h.elim
def rdIx : R2D := fun a b Q => match a with
  | .str x => b.I fun i => x.length ≤ 1000000 ∧ (match atI x.cps.toList i with
    | some n => Q (.str ⟨#[n]⟩)
    | none => False)
  | .lst xs => b.I fun i => match atI xs i with
    | some d => Q d
    | none => False
  | .tup xs => b.I fun i => match atI xs i with
    | some d => Q d
    | none => False
  | .scr ns => b.I fun i => match atI ns i with
    | some n => Q (.int n)
    | none => False
  | .drw => b.I fun i => (i = 0 ∨ i = 1) ∧ ∀ n : Int, 0 ≤ n → Q (.int n)
  | _ => False
theorem de_sub1 (ha : DE X k a wa) (hb : DE X k b wb) (hs : PlainIx b := by intro _ _; rfl) : DE X k (.Subscript a b pos) (wOp rdIx wa wb) := by
  refine de_ix ix_seq ?_ ha hb hs
  intro Z H x y a b Qd Q B ra rb h q
  cases ra <;> first
    | exact h.elim
    | skip
  · obtain ⟨i, e0, hl, h1⟩ := D.I_ex h
    split at h1
    · rename_i n hn
      exact .inr (.inr (o2_ixS (X := X) (k := k) Z H _ _ (.str _) b Qd Q B (.str _) rb (by subst e0; exact ⟨hl, n, hn, h1⟩) q))
    · exact h1.elim
  · rename_i hs hr
    obtain ⟨i, e0, h1⟩ := D.I_ex h
    split at h1
    · rename_i n hn
      exact .inl (o2_ixL (X := X) (k := k) Z H _ _ _ b Qd Q B (.lst hs hr) rb (by subst e0; exact ⟨n, hn, h1⟩) q)
    · exact h1.elim
  · rename_i hs hr
    obtain ⟨i, e0, h1⟩ := D.I_ex h
    split at h1
    · rename_i n hn
      exact .inr (.inl (o2_ixT (X := X) (k := k) Z H _ _ _ b Qd Q B (.tup hs hr) rb (by subst e0; exact ⟨n, hn, h1⟩) q))
    · exact h1.elim
  · obtain ⟨i, e0, h01, h1⟩ := D.I_ex h
    subst e0
    cases rb
    obtain ⟨n0, n1, hs, p0, p1⟩ := B.st
    rcases h01 with e | e
    · subst e
      exact .inl ⟨_, _, 0, .int n0, rfl, rfl, .inl (.inl hs), rfl, q _ _ Z H (.refl B) (.int _) (h1 n0 p0)⟩
    · subst e
      exact .inl ⟨_, _, 1, .int n1, rfl, rfl, .inl (.inl hs), rfl, q _ _ Z H (.refl B) (.int _) (h1 n1 p1)⟩
  · rename_i ns hs
    obtain ⟨i, e0, h1⟩ := D.I_ex h
    subst e0
    cases rb
    split at h1
    · rename_i n hn
      refine .inl ⟨_, _, i, .int n, rfl, rfl, B.zh.seq hs, ?_, q _ _ Z H (.refl B) (.int _) h1⟩
      unfold atI at hn ⊢
      rw [List.length_map]
      cases e : ixN ns.length i with
      | none =>
        rw [e] at hn
        cases hn
      | some j =>
        rw [e] at hn
        show (List.map V.int ns)[j]? = some (.int n)
        rw [List.getElem?_map, show ns[j]? = some n from hn]
        rfl
    · exact h1.elim
def rdSl : RSD := fun a i j Q => match a with
  | .str x => x.length ≤ 1000000 ∧ Q (.str (cutS x i j))
  | .lst xs => Q (.lst (cutD xs i j))
  | _ => False
theorem de_slc {lo hi : Option Expr} {l u : WO} {p2 : Pos} (h : DE X k e w) (hl : DO X k lo l) (hu : DO X k hi u) : DE X k (.Subscript e (.Slice lo hi none p2) pos) (wSl rdSl w l u) := by
  refine de_slice (SlR.or sl_str sl_list) ?_ h hl hu
  intro Z H x d i j Qd Q B ra h q
  cases ra <;> first
    | exact h.elim
    | skip
  · exact .inl (os_slS (X := X) (k := k) Z H _ (.str _) i j Qd Q B (.str _) h q)
  · rename_i hs hr
    exact .inr (os_slL (X := X) (k := k) Z H _ _ i j Qd Q B (.lst hs hr) h q)
/-! ### comparisons in short -/
theorem de_eq (hu : X.A.units + 64 < cLine) (ha : DE X k a wa) (hb : DE X k b wb) (hm : behindInMarks .Eq b = false := by first | exact nobehind _ (by decide) (by decide) | rfl) : DE X k (.Compare a [.Eq] [b] pos) (wOp rdEq wa wb) := de_cmp (op_eq_d hu) o2_eq ha hb hm
theorem de_ne (hu : X.A.units + 64 < cLine) (ha : DE X k a wa) (hb : DE X k b wb) (hm : behindInMarks .NotEq b = false := by first | exact nobehind _ (by decide) (by decide) | rfl) : DE X k (.Compare a [.NotEq] [b] pos) (wOp rdNe wa wb) := de_cmp (op_ne_d hu) o2_ne ha hb hm
theorem dt_eq (hu : X.A.units + 64 < cLine) (ha : DE X k a wa) (hb : DE X k b wb) (hm : behindInMarks .Eq b = false := by first | exact nobehind _ (by decide) (by decide) | rfl) : DT X k (.Compare a [.Eq] [b] pos) (wB (wOp rdEq wa wb)) := dt_cmp (op_eq_d hu) o2_eq ha hb hm
theorem dt_ne (hu : X.A.units + 64 < cLine) (ha : DE X k a wa) (hb : DE X k b wb) (hm : behindInMarks .NotEq b = false := by first | exact nobehind _ (by decide) (by decide) | rfl) : DT X k (.Compare a [.NotEq] [b] pos) (wB (wOp rdNe wa wb)) := dt_cmp (op_ne_d hu) o2_ne ha hb hm
/-- a value's truth -/
def D.tru : D → Option Bool
  | .non => some false
  | .bl b => some b
  | .int i => some (i != 0)
  | .str y => if y.length ≤ 1000000 then some ((y.length : Int) != 0) else none
  | .lst xs => some (!xs.isEmpty)
  | .tup xs => some (!xs.isEmpty)
  | .scr xs => some (!xs.isEmpty)
  | _ => none
def wTru (w : WE) : WT := fun ρ Q => w ρ fun d => match d.tru with
  | some b => Q b
  | none => False
theorem isE_rpa {c : Wc} {Z : Hp} {xs : List V} {ds : List D} (r : RpA c Z xs ds) : xs.isEmpty = ds.isEmpty := by cases r <;> rfl
theorem dt_truth (h : DE X k e w) (he : ∀ whole, isTrue e X.env whole = (do let v ← whole; standAt e.pos; holding [v] (truthy v)) := by intro _; rfl) : DT X k e (wTru w) := by
  obtain ⟨t, p, f⟩ := h
  refine ⟨_, pt_truth p he, fun r Z H σ ρ Qd Q O h q => ?_⟩
  refine f r Z H σ ρ _ _ O h fun d v Z1 H1 s1 r1 h1 => ?_
  cases e : d.tru with
  | none =>
    rw [e] at h1
    exact h1.elim
  | some b =>
    rw [e] at h1
    refine ⟨b, ?_, q b Z1 H1 s1 h1⟩
    cases r1 with
    | non => cases e; rfl
    | bl _ => cases e; rfl
    | int _ => cases e; rfl
    | str y =>
      simp only [D.tru] at e
      split at e
      · rename_i hz
        cases e
        exact ⟨Nat.le_trans hz (by decide), rfl⟩
      · cases e
    | lst hs hr =>
      cases e
      exact .inl ⟨_, .inl (.inl (s1.bs.zh _ _ hs)), by rw [isE_rpa hr]⟩
    | tup hs hr =>
      cases e
      exact .inr (.inl ⟨_, same_t s1.bs.zh hs, by rw [isE_rpa hr]⟩)
    | scr hs =>
      cases e
      exact .inl ⟨_, s1.bs.zh.seq hs, by rw [List.isEmpty_map]⟩
    | _ => cases e
/-! ### texts with holes -/
def rdFmt : R1D := fun d Q => match d with
  | .str y => y.length ≤ 1000000 ∧ Q (.str y)
  | .int i => i.natAbs.log2 < 1920 ∧ Q (.str (toString i))
  | _ => False
def wFmt (w : WE) : WE := fun ρ Q => w ρ fun d => rdFmt d Q
theorem de_fmt (h : DE X k e w) : DE X k (.FormattedValue e (-1) none pos) (wFmt w) := by
  obtain ⟨t, p, f⟩ := h
  refine ⟨_, pe_fmt p, fun r Z H σ ρ Qd Q O h q => ?_⟩
  refine f r Z H σ ρ _ _ O h fun d v Z1 H1 s1 r1 h1 => ?_
  cases r1 with
  | str y => exact .inl ⟨y, rfl, Nat.le_trans h1.1 (by decide), q _ _ Z1 H1 s1 (.str _) h1.2⟩
  | int i => exact .inr ⟨i, rfl, h1.1, q _ _ Z1 H1 s1 (.str _) h1.2⟩
  | _ => exact h1.elim
def wJs : List WE → Str → En → (Str → Prop) → Prop
  | [], acc, _, Q => Q acc
  | w :: ws, acc, ρ, Q => w ρ fun d => d.S fun y => (acc ++ y).length ≤ 1000000 ∧ wJs ws (acc ++ y) ρ Q
def DJ (X : Cx) (k : Cc) (es : List Expr) (ws : List WE) : Prop := ∃ ts, PJ X es ts ∧ ∀ (r : Rt) (σ : L2.St) (ρ : En) (acc : Str) (Z H : Hp) (Qd : Str → Prop) (Q : Str → Hp → Prop), Ok (wc X k.s) k r Z H σ ρ → wJs ws acc ρ Qd → (∀ y Z' H', Stp k.s Z H Z' H' → Qd y → Q y H') → tJs ts acc σ H Q
theorem dj_nil : DJ X k [] [] := ⟨[], .nil, fun r σ ρ acc Z H Qd Q O h q => q acc Z H (.refl O.bs) h⟩
theorem dj_cons {ws : List WE} (h : DE X k e w) (h2 : DJ X k es ws) : DJ X k (e :: es) (w :: ws) := by
  obtain ⟨t, p, f⟩ := h
  obtain ⟨ts, p2, f2⟩ := h2
  refine ⟨t :: ts, .cons p p2, fun r σ ρ acc Z H Qd Q O h q => ?_⟩
  refine f r Z H σ ρ _ _ O h fun d v Z1 H1 s1 r1 h1 => ?_
  obtain ⟨y, e0, hl, h2⟩ := D.S_ex h1
  subst e0
  cases r1
  exact ⟨y, rfl, Nat.le_trans hl (by decide), f2 r σ ρ _ Z1 H1 Qd Q (O.stp s1) h2 fun y Z2 H2 s2 h2 => q y Z2 H2 (s1.trans s2 O.bs.st) h2⟩
def wJoined (ws : List WE) : WE := fun ρ Q => wJs ws Str.empty ρ fun y => Q (.str y)
theorem de_joined {v1 v2 : Expr} {rest : List Expr} {ws : List WE} (h : DJ X k (v1 :: v2 :: rest) ws) : DE X k (.JoinedStr (v1 :: v2 :: rest) pos) (wJoined ws) := by
  obtain ⟨ts, p, f⟩ := h
  exact ⟨_, pe_joined p, fun r Z H σ ρ Qd Q O h q => f r σ ρ _ Z H _ _ O h fun y Z' H' s h => q _ _ Z' H' s (.str y) h⟩
theorem de_joined1 (h : DE X k e w) : DE X k (.JoinedStr [e] pos) w := by
  obtain ⟨t, p, f⟩ := h
  exact ⟨_, pe_joined1 p, f⟩
/-! ### an own error without __init__ is raised, with one argument -/
structure ExcT (K : PySem.W.Frag) (mg : Str → Option Value) (x : Str) (C : Addr) : Prop where
  g : mg x = some (.ref C)
  x : PySem.W.excIn K C [.type "ValueError", .type "Exception", .type "BaseException", .type "object"] "ValueError.__new__" = true
  k : PySem.W.keepIn K (.ref C) = true
  b : PySem.W.subIn K (.ref C) (.type "BaseException") = some true
  t : PySem.W.typeIn K (.ref C) = some (.type "type")
def wRaise1 (x : Str) (xd : Exn → Prop) (w : WE) : WS := fun d ρ => w ρ fun _ => xd ⟨x, none⟩
theorem ds_raise1 {x : Str} {C : Addr} (T : ExcT X.K X.mg x C) (tk : Takes X (fun cls d _ H => k.xk cls d H)) (h : DE X k e w) (hc : X.calm = true := by rfl) (hg : Gl X x := by rfl) (hs : starEach [e] X.env = (false, eval e X.env) :: starEach [] X.env := by rfl) (hdb : (x == ("__debug__" : Str)) = false := by decide) :
    DS X k (.Raise (some (.Call (.Name x p) [e] [] pos)) none pos2) (wRaise1 x k.xd w) := by
  obtain ⟨t, pe, f⟩ := h
  refine ⟨_, ps_raise hc tk (SkE.pmk_own1 PySem.F.excBase_ValueError T.x T.g T.k (raises_own T.b T.t) hg pe hs hdb), fun r Z H σ ρ d E O L h => ?_⟩
  refine f r Z H σ ρ _ _ O h fun x v Z1 H1 s1 r1 h1 => ?_
  exact O.lk Z1 H1 _ _ _ (O.en.trans s1 O.s0) ⟨C, T.g, rfl, rfl⟩ h1
end
end Dl
set_option Elab.async false
set_option linter.all false
set_option maxRecDepth 100000
set_option maxHeartbeats 2000000
namespace Dl
open PySem PySem.Spec PyProof.Rows L2
section
variable {X : Cx} {k : Cc} {a b e c : Expr} {es : List Expr} {wa wb w wc' : WE} {pos p p1 p2 pos2 : Pos}
/-! ### the draws' object is written -/
def wStw (we wo wi : WE) : WS := fun d ρ => we ρ fun v => wo ρ fun o => wi ρ fun i => v.I fun n => i.I fun j => (o = .drw ∧ 0 ≤ n ∧ (j = 0 ∨ j = 1)) ∧ d.nx ρ
theorem StOk.put {s : Addr} {Z H : Hp} {a b : Int} (B : Bs s Z H) (h0 : 0 ≤ a) (h1 : 0 ≤ b) : Stp s Z H Z (upd H s (.lst [.int a, .int b])) :=
  ⟨Same.refl _, ⟨fun x o e => by rw [upd_ne (fun z => by rw [z, B.zs] at e; cases e)]; exact B.zh x o e, ⟨a, b, upd_same, h0, h1⟩, B.zs⟩, fun _ _ e => .inl e, fun x o e n => by rw [upd_ne n]; exact e⟩
theorem ds_stw (he : DE X k e w) (ha : DE X k a wa) (hb : DE X k b wb) (hs : swapsWithSole [.Subscript a b p] e pos.line X.env = pure false := by rfl) (hw : swappedStores [.Subscript a b p] e X.env = pure none := by rfl)
    (h1 : (assignEach [.Subscript a b p] X.env).map (·.2) = [assign (.Subscript a b p) X.env] := by rfl) (hx : PlainIx b := by intro _ _; rfl)
    (pg : ∀ {to ti : TE}, PE X a to → PE X b ti → PG X (.Subscript a b p) (gSub to ti rSetL) := by intro _ _ h1 h2; exact pg_sub h1 h2 set_list) : DS X k (.Assign [.Subscript a b p] e pos) (wStw w wa wb) := by
  obtain ⟨t, pe, f⟩ := he
  obtain ⟨ta, pa, fa⟩ := ha
  obtain ⟨tb, pb, fb⟩ := hb
  refine ⟨_, ps_asg pe (pg pa pb) hs hw h1, fun r Z H σ ρ d E O L h => ?_⟩
  refine f r Z H σ ρ _ _ O h fun x v Z1 H1 s1 r1 h1 => ?_
  refine fa r Z1 H1 σ ρ _ _ (O.stp s1) h1 fun y u Z2 H2 s2 r2 h2 => ?_
  have s12 := s1.trans s2 O.bs.st
  refine fb r Z2 H2 σ ρ _ _ (O.stp s12) h2 fun z u2 Z3 H3 s3 r3 h3 => ?_
  have s13 := s12.trans s3 O.bs.st
  obtain ⟨n, e1, h4⟩ := D.I_ex h3
  obtain ⟨j, e2, ⟨e3, hn, hj⟩, h5⟩ := D.I_ex h4
  subst e1 e2 e3
  cases r1
  cases r2
  cases r3
  obtain ⟨n0, n1, hh, q0, q1⟩ := s13.bs.st
  rcases hj with e | e
  · subst e
    exact ⟨_, _, 0, 0, rfl, rfl, hh, rfl, L.nx Z3 _ σ ρ (O.stp (s13.trans (StOk.put s13.bs hn q1) O.bs.st)) h5⟩
  · subst e
    exact ⟨_, _, 1, 1, rfl, rfl, hh, rfl, L.nx Z3 _ σ ρ (O.stp (s13.trans (StOk.put s13.bs q0 hn) O.bs.st)) h5⟩
/-! ### a text is walked sign by sign -/
def sgnD (s : Str) : List D := s.cps.toList.map fun c => .str ⟨#[c]⟩
def wiS (w : WE) : WA := fun ρ Q => w ρ fun d => d.S fun s => s.length ≤ 1000000 ∧ Q (sgnD s)
theorem itd_str {c : Wc} (Z : Hp) (s : Str) : ItD c Z (Its s) (sgnD s) := by
  intro Z2 H2 e b
  have hl : (sgnD s).length = s.cps.size := by unfold sgnD; rw [List.length_map, Array.length_toList]
  refine ⟨fun i hi => ?_, fun i hi => ?_, fun i x H' y hi => ?_⟩
  · rw [hl] at hi
    exact hi
  · rw [hl] at hi
    exact hi
  · obtain ⟨rfl, ch, h1, rfl⟩ := y
    refine ⟨.str ⟨#[ch]⟩, Z2, ?_, .refl b, .str _⟩
    unfold sgnD
    rw [List.getElem?_map, Array.getElem?_toList, h1]
    rfl
theorem di_str {tg : Expr} (h : DE X k e w) : DI X k tg e (wiS w) := by
  obtain ⟨t, p, f⟩ := h
  refine ⟨_, pi_str p, fun r Z H σ ρ Qd R O h q => ?_⟩
  refine f r Z H σ ρ _ _ O h fun d v Z1 H1 s1 r1 h1 => ?_
  obtain ⟨ds, e0, hl, h2⟩ := D.S_ex h1
  subst e0
  cases r1
  exact ⟨_, rfl, q _ Z1 H1 _ s1 (itd_str Z1 ds) h2⟩
/-! ### int(..), {} -/
def rdCint : RAD := fun ds Q => match ds with
  | [.int i] => Q (.int i)
  | [.bl b] => Q (.int (if b then 1 else 0))
  | _ => False
theorem de_Cint {u : WA} (hm : X.mg "int" = none) (ha : DA X k [e] u) (hg : Gl X "int" := by rfl) (he : starEach [e] X.env = (false, eval e X.env) :: starEach [] X.env := by rfl) : DE X k (.Call (.Name "int" p) [e] [] pos) (wCB rdCint u) := by
  refine de_ty call_int1 ?_ hm PyProof.Rows.boot_int ha hg (by decide) (by decide) he
  intro Z H xs ds Qd Q B ra h q
  match ds, xs, ra, h with
  | [.int i], [_], .cons (.int _) .nil, h => exact .inl ⟨i, rfl, q _ _ Z H (.refl B) (.int _) h⟩
  | [.bl i], [_], .cons (.bl _) .nil, h => exact .inr ⟨i, rfl, q _ _ Z H (.refl B) (.int _) h⟩
theorem de_dic0 : DE X k (.Dict [] [] pos) (wC (.dic [])) := ⟨_, pe_dnewK, fun r Z H σ ρ Qd Q O h q p hp => q _ _ _ _ (.add O.bs hp) (.dic (.inl upd_same) .nil) h⟩
/-! ### s[0].isalpha() and s.replace('_', '0').isalnum(): the replacing wants that a number or a text was written ahead -/
def PEk (X : Cx) (e : Expr) (t : TE) : Prop := ∀ (pins : List (Addr × Obj)) (s : Shared) (σ : L2.St) (H : Hp) (Q : VK), Inv X pins σ H s → t σ H Q → wpAny (model X.prog X.w) X.A (eval e X.env) (fun u s' => EP X pins σ Q u s' ∧ 1 ≤ s'.toks) X.xe s
theorem pek_ix {i : Int} {j : Nat} {ta : TE} {r : R2} (hr : IxR X r) (ha : PE X a ta) : PEk X (.Subscript a (.Constant (.int i) j p1) pos) (tOp r ta (tC (.int i))) := by
  intro pins s σ H Q I h
  refine Subscript_ (thn (ha.run pins s σ H _ I h) fun v s1 ⟨x, H1, I1, r1, q1⟩ => wpAny_Constant_int ?_)
  exact wpAny_mono (PySem.wpAny_toks_of (n := 1) (by show 1 ≤ s1.toks + 1; omega) (hr a (.Constant (.int i) j p1) pins { s1 with toks := s1.toks + 1 } σ H1 x (.int i) v _ Q (I1.tok _) r1 ⟨_, rfl⟩ q1 rfl)) (fun _ _ h => ⟨h.2, h.1⟩) fun _ _ h => h.2
theorem pek_m0 {o : Expr} {to : TE} {id : String} {name : Str} {apos : Pos} {r : V → List V → Hp → VK → Prop} (slot : Slot "str" name id) (ty : typeOf (.builtin id) = pure (.type "method_descriptor")) (rule : MtR X id r) (ho : PEk X o to)
    (hbase : attributeBase o name X.env (eval o X.env) = eval o X.env := by rfl) (hline : (apos.endLine == pos.line) = true := by rfl) : PEk X (.Call (.Attribute o name apos) [] [] pos) (tM0 r to) := by
  intro pins s σ H Q I h
  refine PySem.Call_method0 hbase hline (thn (ho pins s σ H _ I h) fun v s1 ⟨⟨x, H1, I1, r1, q1⟩, hk⟩ => ?_)
  obtain ⟨⟨a, rfl⟩, q1⟩ := q1
  obtain ⟨t, rfl⟩ := _root_.id r1
  refine ⟨"str", _, F.plainAttrs_str, slot, ty, typeIs_str _ _ _, (fun _ e => nomatch e), ?_⟩
  exact wpAny_mono (PySem.wpAny_toks_of hk (Calls.callWith_builtin rfl (PySem.evalArgs_none (rule pins s1 σ H1 _ [] _ [] Q I1 r1 .nil q1)))) (fun _ _ h => ⟨h.2, h.1⟩) fun _ _ h => h.2
theorem pet_m0 {o : Expr} {to : TE} {id : String} {name : Str} {apos : Pos} {r : V → List V → Hp → VK → Prop} (slot : Slot "str" name id) (ty : typeOf (.builtin id) = pure (.type "method_descriptor")) (rule : MtR X id r) (ho : PET X o to)
    (hbase : attributeBase o name X.env (eval o X.env) = eval o X.env := by rfl) (hline : (apos.endLine == pos.line) = true := by rfl) : PET X (.Call (.Attribute o name apos) [] [] pos) (tM0 r to) := by
  intro pins s σ H Q h0 I h
  refine PySem.Call_method0 hbase hline (thn (ho pins s σ H _ h0 I h) fun v s1 ⟨x, H1, I1, r1, q1⟩ => ?_)
  obtain ⟨⟨a, rfl⟩, q1⟩ := q1
  obtain ⟨t, rfl⟩ := _root_.id r1
  exact ⟨"str", _, F.plainAttrs_str, slot, ty, typeIs_str _ _ _, (fun _ e => nomatch e), Calls.callWith_builtin rfl (PySem.evalArgs_none (rule pins s1 σ H1 _ [] _ [] Q I1 r1 .nil q1))⟩
theorem pe_andK {b : Expr} {ta tb : TE} (ha : PEk X a ta) (hb : PET X b tb) : PE X (.BoolOp .And [a, b] pos) (tAndV ta tb) := by
  refine ⟨fun pins s σ H Q I h => ?_⟩
  refine BoolOp_and (thn (ha pins s σ H _ I h) fun v s1 ⟨⟨x, H1, I1, r1, q1⟩, hk⟩ => ?_)
  obtain ⟨c, rfl, q1⟩ := q1
  cases r1
  refine wpAny_truthy_bool ?_
  cases c with
  | true => exact BoolOp_one (hb pins s1 σ H1 Q hk I1 q1)
  | false => exact ⟨.bl false, H1, I1, rfl, q1⟩
def nameEnd (t : Str) : Option Bool := match t.cps.toList with
  | [] => none
  | ch :: _ => if t.length ≤ 1000 then some (Txt.isalpha ⟨#[ch]⟩ && Txt.isalnum (Txt.replace t "_" "0")) else none
def wNameEnd (i : Nat) : WE := fun ρ Q => Sl.V ρ[i]? fun d => d.S fun t => match nameEnd t with
  | some b => Q (.bl b)
  | none => False
theorem de_nameEnd {i : Nat} {x : Str} {q1 q2 q3 c0 c1 c2 a1 a2 a3 p1 p2 p3 : Pos} {j0 j1 j2 : Nat} (hN : X.N[i]? = some x := by rfl) (hv : Vis X.env.scope x := by first | exact Or.inl rfl | exact Or.inr (Or.inl rfl) | exact Or.inr (Or.inr rfl)) (hd : (x == ("__debug__" : Str)) = false := by decide)
    (hcd : (x == ("__classdict__" : Str)) = false := by decide)
    (b1 : attributeBase (.Subscript (.Name x q1) (.Constant (.int 0) j0 c0) q2) "isalpha" X.env (eval (.Subscript (.Name x q1) (.Constant (.int 0) j0 c0) q2) X.env) = eval (.Subscript (.Name x q1) (.Constant (.int 0) j0 c0) q2) X.env := by rfl) (l1 : (a1.endLine == p1.line) = true := by rfl)
    (b2 : attributeBase (.Name x q3) "replace" X.env (eval (.Name x q3) X.env) = eval (.Name x q3) X.env := by rfl) (l2 : (a2.endLine == p2.line) = true := by rfl)
    (st : starEach [.Constant (.str "_") j1 c1, .Constant (.str "0") j2 c2] X.env = [(false, eval (.Constant (.str "_") j1 c1) X.env), (false, eval (.Constant (.str "0") j2 c2) X.env)] := by rfl)
    (b3 : attributeBase (.Call (.Attribute (.Name x q3) "replace" a2) [.Constant (.str "_") j1 c1, .Constant (.str "0") j2 c2] [] p2) "isalnum" X.env (eval (.Call (.Attribute (.Name x q3) "replace" a2) [.Constant (.str "_") j1 c1, .Constant (.str "0") j2 c2] [] p2) X.env) = eval (.Call (.Attribute (.Name x q3) "replace" a2) [.Constant (.str "_") j1 c1, .Constant (.str "0") j2 c2] [] p2) X.env := by rfl)
    (l3 : (a3.endLine == p3.line) = true := by rfl) :
    DE X k (.BoolOp .And [.Call (.Attribute (.Subscript (.Name x q1) (.Constant (.int 0) j0 c0) q2) "isalpha" a1) [] [] p1, .Call (.Attribute (.Call (.Attribute (.Name x q3) "replace" a2) [.Constant (.str "_") j1 c1, .Constant (.str "0") j2 c2] [] p2) "isalnum" a3) [] [] p3] pos) (wNameEnd i) := by
  refine ⟨_, pe_andK (pek_m0 PySem.F.slot_str_isalpha PySem.F.type_str_isalpha mt_isalpha (pek_ix ix_str (pe_var hN hv hd hcd)) b1 l1) (pet_m0 PySem.F.slot_str_isalnum PySem.F.type_str_isalnum mt_isalnum (CwR.pet_replC (pe_var hN hv hd hcd) (by decide) st b2 l2) b3 l3), fun r Z H σ ρ Qd Q O h q => ?_⟩
  obtain ⟨d, h1, h2⟩ := Sl.V_ex h
  obtain ⟨t, e0, h3⟩ := D.S_ex h2
  subst e0
  obtain ⟨o, h4, v, rfl, h5⟩ := O.sl i _ h1
  cases h5
  unfold nameEnd at h3
  split at h3
  · rename_i bb hb
    split at hb
    · cases hb
    · rename_i ch cr hc
      split at hb
      · rename_i hl
        cases hb
        have hz : t.cps.toList.length ≤ 1000 := by rw [Array.length_toList]; exact hl
        have hat : atI t.cps.toList 0 = some ch := by
          rw [hc]
          unfold atI ixN
          rw [if_pos (by omega), if_pos (by rw [List.length_cons]; omega)]
          rfl
        refine ⟨_, h4, t, 0, ch, rfl, rfl, Nat.le_trans hl (by decide), hat, ⟨_, rfl⟩, _, rfl, rfl, trivial, _, rfl, ?_⟩
        cases hq : Txt.isalpha ⟨#[ch]⟩ with
        | false =>
          rw [hq] at h3
          exact iteF (q _ _ Z H (.refl O.bs) (.bl _) (by simpa using h3))
        | true =>
          rw [hq] at h3
          have z : t.length + (t.length + 1) * ("0" : Str).length ≤ 16777216 := by
            have e1 : ("0" : Str).length = 1 := rfl
            rw [e1]
            omega
          exact iteT ⟨_, h4, t, rfl, z, ⟨_, rfl⟩, _, rfl, rfl, trivial, q _ _ Z H (.refl O.bs) (.bl _) (by simpa using h3)⟩
      · cases hb
  · exact h3.elim
end
/-! ### the law: its first statement makes the draws' object -/
theorem pss_any {X : Cx} {rest : List Stmt} {W : WS} (h : ∀ s0 : Addr, DB X ⟨s0, fun _ => False, fun _ _ _ => False⟩ rest W) :
    PSs X rest (fun E σ H => ∃ (s0 : Addr) (r : Rt) (Z : Hp) (ρ : En) (d : DEnds), Ok (wc X s0) ⟨s0, fun _ => False, fun _ _ _ => False⟩ r Z H σ ρ ∧ Lk (wc X s0) ⟨s0, fun _ => False, fun _ _ _ => False⟩ r d E ∧ W d ρ) := by
  refine ⟨fun pins s σ H E I ⟨s0, r, Z, ρ, d, O, L, hw⟩ => ?_⟩
  obtain ⟨t, p, f⟩ := h s0
  exact p.run pins s σ H E I (f r Z H σ ρ d E O L hw)
theorem fn_law {P : Program} {w : World} {K : PySem.W.Frag} {mg : Str → Option Value} {base : Heap} {qual x0 : Str} {st : Stmt} {f : Addr} {fd : FuncData} {N : List Str} {n : Nat} (F : Fun K x0 qual st f fd) (S : FnScope N ["script"] (defScope st)) (W : WS) {st1 : Stmt} {rest : List Stmt} (hbd : defBody st = st1 :: rest)
    (hN : 2 ≤ N.length)
    (h1 : ∀ (cdv : Value) (A : Around) (outer : List Env) (s : Shared) (H : Hp) (E : XK), PS (cxOf CX0 P w K mg base N qual (defScope st) f cdv A outer s H E).nox st1 (tAsg (tLst (tCons (tC (.int 0)) (tCons (tC (.int 0)) tNil))) (gName 1)))
    (hb : ∀ (cdv : Value) (A : Around) (outer : List Env) (s : Shared) (H : Hp) (E : XK) (k : Cc), Room n (A.deeper (envOfC qual (defScope st) s.heap.objs.size f cdv)) → DB (cxOf CX0 P w K mg base N qual (defScope st) f cdv A outer s H E).nox k rest W)
    (hW : ∀ (ns : List Int), ns.length ≤ 63 → W { nx := fun _ => False, rt := fun d => d = .bl true } (.val (.scr ns) :: .val .drw :: List.replicate (N.length - 2) .un)) :
    FnOk P w K mg base CX0 (n + 1) f fd ["script"] (fun vs H Q _ => ∃ (a : Addr) (ns : List Int), vs = [.ref a] ∧ SqL K H a (ns.map V.int) ∧ ns.length ≤ 63 ∧ ∀ H', Q (.bl true) H') := by
  refine F.ok S (fun vs H Q E h => ?_) (fun cdv A outer s H vs Q E hr h => ?_)
  · obtain ⟨a, ns, rfl, _⟩ := h
    rfl
  · obtain ⟨a, ns, rfl, hS, hlen, q⟩ := h
    rw [hbd]
    refine ⟨_, pss_cons (h1 cdv A outer s H E) (pss_any fun s0 => hb cdv A outer s H E ⟨s0, fun _ => False, fun _ _ _ => False⟩ hr), ?_⟩
    refine ⟨by show 2 ≤ sizeLine; decide, fun p hp => ?_⟩
    have st : StOk p (upd H p (.lst [.int 0, .int 0])) := ⟨0, 0, upd_same, Int.le_refl _, Int.le_refl _⟩
    have zh : Same H (upd H p (.lst [.int 0, .int 0])) := fun b o e => by rw [upd_ne (ne_of_none e hp)]; exact e
    obtain ⟨n2, e2⟩ : ∃ n2, N.length = n2 + 2 := ⟨N.length - 2, by omega⟩
    have es : (L2.start N [V.ref a]).set 1 (some (.ref p)) = some (.ref a) :: some (.ref p) :: List.replicate n2 none := by
      unfold L2.start
      rw [e2]
      rfl
    refine ⟨p, ⟨H, upd H p (.lst [.int 0, .int 0]), H⟩, H, .val (.scr ns) :: .val .drw :: List.replicate (N.length - 2) .un, _, ?_, ?_, hW ns hlen⟩
    · rw [es, e2, Nat.add_sub_cancel]
      refine ⟨.refl ⟨zh, st, hp⟩, st, Same.refl _, fun i t ht => ?_, fun i t b ht ho hb => ?_, fun i j t u b _ ht _ ho _ _ => ?_, fun _ _ _ _ _ _ _ z => z.elim⟩
      · match i, ht with
        | 0, ht =>
          cases ht
          exact ⟨_, rfl, _, rfl, .scr hS⟩
        | 1, ht =>
          cases ht
          exact ⟨_, rfl, _, rfl, .drw⟩
        | i + 2, ht =>
          rw [List.getElem?_cons_succ, List.getElem?_cons_succ, List.getElem?_replicate] at ht
          split at ht
          · rename_i hi
            cases ht
            exact ⟨none, by rw [List.getElem?_cons_succ, List.getElem?_cons_succ, List.getElem?_replicate, if_pos hi], trivial⟩
          · cases ht
      · exfalso
        match i, ht with
        | 0, ht => cases ht; cases ho
        | 1, ht => cases ht; cases ho
        | i + 2, ht =>
          rw [List.getElem?_cons_succ, List.getElem?_cons_succ, List.getElem?_replicate] at ht
          split at ht
          · cases ht; cases ho
          · cases ht
      · exfalso
        match i, ht with
        | 0, ht => cases ht; cases ho
        | 1, ht => cases ht; cases ho
        | i + 2, ht =>
          rw [List.getElem?_cons_succ, List.getElem?_cons_succ, List.getElem?_replicate] at ht
          split at ht
          · cases ht; cases ho
          · cases ht
    · refine ⟨fun _ _ _ _ _ z => z.elim, fun Z' H' v x _ _ rx e => ?_, fun _ _ _ _ _ z => z.elim, fun _ _ _ _ _ z => z.elim⟩
      subst e
      cases rx
      exact q H'
end Dl
set_option Elab.async false
set_option linter.all false
set_option maxRecDepth 100000
set_option maxHeartbeats 2000000
namespace Dl
open PySem PySem.Spec PyProof.Rows L2
/-! ### comprehensions, by lists -/
theorem lcl_map {we : WE} {ρ : En} {i : Nat} (f : D → D) : ∀ (xs acc : List D) (Q : List D → Prop), (∀ x ∈ xs, ∀ K : D → Prop, K (f x) → we (ρ.set i (.val x)) K) → Q (acc ++ xs.map f) → wLcL (wgName i) wYes we ρ xs acc Q
  | [], acc, Q, _, h => by
    rw [List.map_nil, List.append_nil] at h
    exact h
  | x :: xs, acc, Q, hf, h => by
    refine iteT (A := we (ρ.set i (.val x)) fun y => wLcL (wgName i) wYes we ρ xs (acc ++ [y]) Q) (B := wLcL (wgName i) wYes we ρ xs acc Q) ?_
    refine hf x List.mem_cons_self _ ?_
    refine lcl_map f xs _ Q (fun y hy => hf y (List.mem_cons_of_mem _ hy)) ?_
    rw [List.append_assoc]
    exact h
theorem lcl_any {we : WE} {ρ : En} {i : Nat} (P : D → Prop) : ∀ (xs acc : List D) (Q : List D → Prop), (∀ x ∈ xs, ∀ K : D → Prop, (∀ y, P y → K y) → we (ρ.set i (.val x)) K) → (∀ ys, ys.length = xs.length → (∀ y ∈ ys, P y) → Q (acc ++ ys)) → wLcL (wgName i) wYes we ρ xs acc Q
  | [], acc, Q, _, h => by
    have := h [] rfl (fun _ z => by cases z)
    rw [List.append_nil] at this
    exact this
  | x :: xs, acc, Q, hf, h => by
    refine iteT (A := we (ρ.set i (.val x)) fun y => wLcL (wgName i) wYes we ρ xs (acc ++ [y]) Q) (B := wLcL (wgName i) wYes we ρ xs acc Q) ?_
    refine hf x List.mem_cons_self _ fun y hy => ?_
    refine lcl_any P xs _ Q (fun y hy => hf y (List.mem_cons_of_mem _ hy)) fun ys hl hp => ?_
    rw [List.append_assoc]
    refine h (y :: ys) (by rw [List.length_cons, List.length_cons, hl]) fun z hz => ?_
    rcases List.mem_cons.mp hz with e | e
    · rw [e]; exact hy
    · exact hp z e
theorem blA_of (bs : List Bool) : D.blA (bs.map .bl) = some bs := by
  induction bs with
  | nil => rfl
  | cons b bs ih =>
    show (D.blA (bs.map .bl)).map (b :: ·) = _
    rw [ih]
    rfl
theorem strA_of (bs : List Str) : D.strA (bs.map .str) = some bs := by
  induction bs with
  | nil => rfl
  | cons b bs ih =>
    show (D.strA (bs.map .str)).map (b :: ·) = _
    rw [ih]
    rfl
theorem deq_refl {d : D} (h : d.fit = true) : deq d d = true := SeqAt.eqv_refl d.py (fit_py d h)
/-- == and != of one tree with itself -/
theorem ne_same {d : D} {Q : D → Prop} (h : d.ok) (q : Q (.bl false)) : rdNe d d Q := by
  unfold rdNe
  cases d with
  | str x => simpa [eqS] using q
  | int x => simpa [eqS] using q
  | bl x => simpa [eqS] using q
  | non => simpa [eqS] using q
  | lst xs =>
    refine ⟨⟨h, h⟩, ?_⟩
    rw [deq_refl h.1]
    exact q
  | tup xs =>
    refine ⟨⟨h, h⟩, ?_⟩
    rw [deq_refl h.1]
    exact q
  | dic _ => exact absurd h.1 (by simp [D.fit])
  | ins _ _ => exact absurd h.1 (by simp [D.fit])
  | drw => exact absurd h.1 (by simp [D.fit])
  | scr _ => exact absurd h.1 (by simp [D.fit])
  | ty _ => exact absurd h.1 (by simp [D.fit])
  | rf _ => exact absurd h.1 (by simp [D.fit])
  | exc _ _ _ => exact absurd h.1 (by simp [D.fit])
theorem ia_NoneType_bool : isaT "NoneType" "bool" = false := by decide
theorem ia_NoneType_int : isaT "NoneType" "int" = false := by decide
theorem ia_NoneType_str : isaT "NoneType" "str" = false := by decide
theorem ia_NoneType_list : isaT "NoneType" "list" = false := by decide
theorem ia_NoneType_tuple : isaT "NoneType" "tuple" = false := by decide
theorem ia_NoneType_dict : isaT "NoneType" "dict" = false := by decide
theorem ia_bool_bool : isaT "bool" "bool" = true := by decide
theorem ia_bool_int : isaT "bool" "int" = true := by decide
theorem ia_bool_str : isaT "bool" "str" = false := by decide
theorem ia_bool_list : isaT "bool" "list" = false := by decide
theorem ia_bool_tuple : isaT "bool" "tuple" = false := by decide
theorem ia_bool_dict : isaT "bool" "dict" = false := by decide
theorem ia_int_bool : isaT "int" "bool" = false := by decide
theorem ia_int_int : isaT "int" "int" = true := by decide
theorem ia_int_str : isaT "int" "str" = false := by decide
theorem ia_int_list : isaT "int" "list" = false := by decide
theorem ia_int_tuple : isaT "int" "tuple" = false := by decide
theorem ia_int_dict : isaT "int" "dict" = false := by decide
theorem ia_str_bool : isaT "str" "bool" = false := by decide
theorem ia_str_int : isaT "str" "int" = false := by decide
theorem ia_str_str : isaT "str" "str" = true := by decide
theorem ia_str_list : isaT "str" "list" = false := by decide
theorem ia_str_tuple : isaT "str" "tuple" = false := by decide
theorem ia_str_dict : isaT "str" "dict" = false := by decide
theorem ia_list_bool : isaT "list" "bool" = false := by decide
theorem ia_list_int : isaT "list" "int" = false := by decide
theorem ia_list_str : isaT "list" "str" = false := by decide
theorem ia_list_list : isaT "list" "list" = true := by decide
theorem ia_list_tuple : isaT "list" "tuple" = false := by decide
theorem ia_list_dict : isaT "list" "dict" = false := by decide
theorem ia_tuple_bool : isaT "tuple" "bool" = false := by decide
theorem ia_tuple_int : isaT "tuple" "int" = false := by decide
theorem ia_tuple_str : isaT "tuple" "str" = false := by decide
theorem ia_tuple_list : isaT "tuple" "list" = false := by decide
theorem ia_tuple_tuple : isaT "tuple" "tuple" = true := by decide
theorem ia_tuple_dict : isaT "tuple" "dict" = false := by decide
theorem ia_dict_bool : isaT "dict" "bool" = false := by decide
theorem ia_dict_int : isaT "dict" "int" = false := by decide
theorem ia_dict_str : isaT "dict" "str" = false := by decide
theorem ia_dict_list : isaT "dict" "list" = false := by decide
theorem ia_dict_tuple : isaT "dict" "tuple" = false := by decide
theorem ia_dict_dict : isaT "dict" "dict" = true := by decide
theorem inT_bool : "bool" ∈ ["bool", "int", "str", "list", "tuple", "dict"] := by decide
theorem inT_int : "int" ∈ ["bool", "int", "str", "list", "tuple", "dict"] := by decide
theorem inT_str : "str" ∈ ["bool", "int", "str", "list", "tuple", "dict"] := by decide
theorem inT_list : "list" ∈ ["bool", "int", "str", "list", "tuple", "dict"] := by decide
theorem inT_tuple : "tuple" ∈ ["bool", "int", "str", "list", "tuple", "dict"] := by decide
theorem inT_dict : "dict" ∈ ["bool", "int", "str", "list", "tuple", "dict"] := by decide
/-! ### texts by their codes -/
abbrev cs (s : Str) : List Nat := s.cps.toList
theorem cs_len (s : Str) : (cs s).length = s.length := Array.length_toList
theorem cs_inj {s t : Str} (h : cs s = cs t) : s = t := by
  obtain ⟨a⟩ := s
  obtain ⟨b⟩ := t
  exact congrArg Str.mk (Array.toList_inj.mp h)
theorem ends_c (t : Str) (c : Nat) : Txt.endswith t ⟨#[c]⟩ = decide ((cs t).getLast? = some c) := by
  have hl : (⟨#[c]⟩ : Str).length = 1 := rfl
  have hn := cs_len t
  rw [List.getLast?_eq_getElem?, hn, ← Bool.coe_iff_coe]
  unfold Txt.endswith
  rw [Bool.and_eq_true, decide_eq_true_eq, decide_eq_true_eq, hl, Nat.zero_add, ← PySem.StrLaws.subAt_one t c (t.length - 1), hl]
  constructor
  · rintro ⟨h1, h2⟩
    exact ⟨by omega, h2⟩
  · rintro ⟨h1, h2⟩
    exact ⟨by omega, h2⟩
theorem starts_c (t : Str) (c : Nat) : Txt.startswith t ⟨#[c]⟩ = decide ((cs t).head? = some c) := by
  have hl : (⟨#[c]⟩ : Str).length = 1 := rfl
  rw [List.head?_eq_getElem?, ← Bool.coe_iff_coe]
  unfold Txt.startswith
  rw [Bool.and_eq_true, decide_eq_true_eq, decide_eq_true_eq, ← PySem.StrLaws.subAt_one t c 0]
theorem cs_cut (z : Str) (lo hi : Option Int) : cs (cutS z lo hi) = ((cs z).drop (HT.sIx z.length 0 lo)).take (HT.sIx z.length z.length hi - HT.sIx z.length 0 lo) := rfl
theorem sIx_m1 (n d : Nat) : HT.sIx n d (some (-1)) = n - 1 := by
  show (if (-1 : Int) < 0 then ((-1 : Int) + (n : Int)).toNat else min (-1 : Int).toNat n) = n - 1
  rw [if_pos (by decide)]
  omega
theorem cut_init (z : Str) : cs (cutS z none (some (-1))) = (cs z).dropLast := by
  rw [cs_cut, HT.sIx_none, List.drop_zero, List.dropLast_eq_take, cs_len, sIx_m1, Nat.sub_zero]
theorem cut_mid (z : Str) : cs (cutS z (some 1) (some (-1))) = ((cs z).drop 1).dropLast := by
  have e1 : HT.sIx z.length z.length (some (-1)) = z.length - 1 := sIx_m1 _ _
  have e2 : HT.sIx z.length 0 (some 1) = min 1 z.length := HT.sIx_nat z.length 0 1
  rw [cs_cut, e1, e2, List.dropLast_eq_take, List.length_drop, cs_len]
  by_cases h : 1 ≤ z.length
  · rw [Nat.min_eq_left h]
  · have h0 : z.length = 0 := by omega
    have : cs z = [] := List.length_eq_zero_iff.mp (by rw [cs_len, h0])
    rw [this]
    simp
theorem cut_last (z : Str) : cs (cutS z (some (-1)) none) = (cs z).getLast?.toList := by
  have e2 : HT.sIx z.length 0 (some (-1)) = z.length - 1 := sIx_m1 _ _
  have hn := cs_len z
  rw [cs_cut, e2, HT.sIx_none, List.getLast?_eq_getElem?, hn]
  by_cases h : z.length = 0
  · have : cs z = [] := List.length_eq_zero_iff.mp (by rw [cs_len, h])
    rw [this]
    simp
  · have hlt : z.length - 1 < (cs z).length := by rw [cs_len]; omega
    rw [List.drop_eq_getElem_cons hlt, List.getElem?_eq_getElem hlt, show z.length - (z.length - 1) = 1 by omega]
    rfl
theorem cut_first (z : Str) : cs (cutS z none (some 1)) = (cs z).head?.toList := by
  have e1 : HT.sIx z.length z.length (some 1) = min 1 z.length := HT.sIx_nat z.length z.length 1
  rw [cs_cut, e1, HT.sIx_none, List.drop_zero, ← cs_len]
  cases cs z with
  | nil => rfl
  | cons c r => simp
theorem cut_take (z : Str) (n : Nat) : cs (cutS z none (some (n : Int))) = (cs z).take n := by
  rw [cs_cut, HT.sIx_nat, HT.sIx_none, List.drop_zero, Nat.sub_zero, ← cs_len, List.take_eq_take_iff]
  omega
theorem cut_drop (z : Str) (n : Nat) : cs (cutS z (some (n : Int)) none) = (cs z).drop n := by
  rw [cs_cut, HT.sIx_nat, HT.sIx_none, ← cs_len]
  by_cases h : n ≤ (cs z).length
  · rw [Nat.min_eq_left h, List.take_of_length_le (by rw [List.length_drop]; exact Nat.le_refl _)]
  · rw [Nat.min_eq_right (by omega), List.drop_eq_nil_of_le (Nat.le_refl _), List.drop_eq_nil_of_le (by omega), List.take_nil]
theorem cut_one (z : Str) (n : Nat) (c : Nat) (h : (cs z)[n]? = some c) : cutS z (some (n : Int)) (some ((n : Int) + 1)) = ⟨#[c]⟩ := by
  have hlt : n < (cs z).length := (List.getElem?_eq_some_iff.mp h).1
  apply cs_inj
  rw [cs_cut, show ((n : Int) + 1) = ((n + 1 : Nat) : Int) by omega, HT.sIx_nat, HT.sIx_nat, ← cs_len, Nat.min_eq_left (by omega), Nat.min_eq_left (by omega), List.drop_eq_getElem_cons hlt, show n + 1 - n = 1 by omega]
  rw [List.getElem?_eq_getElem hlt] at h
  rw [Option.some.inj h]
  rfl
theorem cs_app (x y : Str) : cs (x ++ y) = cs x ++ cs y := by
  show (x.cps ++ y.cps).toList = _
  exact Array.toList_append
theorem len_app (x y : Str) : (x ++ y).length = x.length + y.length := by rw [← cs_len, cs_app, List.length_append, cs_len, cs_len]
theorem cut_len (z : Str) (lo hi : Option Int) : (cutS z lo hi).length ≤ z.length := cutS_length z lo hi
end Dl
set_option Elab.async false
set_option linter.all false
set_option maxRecDepth 100000
set_option maxHeartbeats 2000000
namespace Dl
open PySem PySem.Spec PyProof.Rows L2
section
variable {X : Cx} {k : Cc} {a b e c : Expr} {es : List Expr} {wa wb w wc' : WE} {pos p p1 p2 pos2 : Pos}
/-! ### try: return f(..) / except X as n: suite -/
def tAc (c : Wc) (k : Cc) (u : WA) : TA := fun σ H Q => ∃ r Z ρ Qd, Ok c k r Z H σ ρ ∧ u ρ Qd ∧ ∀ ds vs Z' H', Stp c.s Z H Z' H' → RpA c Z' vs ds → Qd ds → Q vs H'
theorem DA.pa {u : WA} (h : DA X k es u) : PA X es (tAc (wc X k.s) k u) := by
  obtain ⟨t, p, f⟩ := h
  exact ⟨fun pos pins s σ H Q I ⟨r, Z, ρ, Qd, O, h, q⟩ => p.run pos pins s σ H Q I (f r Z H σ ρ Qd Q O h q)⟩
def tSc (c : Wc) (k : Cc) (cl : Value) (C : Addr) (u : WS) : TS := fun E σ H => cl = .ref C ∧ ∃ r Z ρ d, Ok c k r Z H σ ρ ∧ Lk c k r d E ∧ u d ρ
theorem DB.ps {sts : List Stmt} {cl : Value} {C : Addr} {u : WS} (h : cl = .ref C → DB X k sts u) : PSs X sts (tSc (wc X k.s) k cl C u) := by
  refine ⟨fun pins s σ H E I ⟨ec, r, Z, ρ, d, O, L, hu⟩ => ?_⟩
  obtain ⟨t, p, f⟩ := h ec
  exact p.run pins s σ H E I (f r Z H σ ρ d E O L hu)
theorem Ok.back {c : Wc} {k' : Cc} {r : Rt} {Z H Z2 H2 : Hp} {σ σ2 : L2.St} {ρ ρ2 : En} {i : Nat} (O : Ok c k r Z H σ ρ) (O2 : Ok c k' r Z2 H2 σ2 ρ2) : Ok c k r Z2 H2 (σ2.set i none) (ρ2.set i .un) := by
  have U := O2.un (i := i)
  exact ⟨U.en, U.s0, U.lb, U.sl, U.ow, U.ds, O.lk⟩
def wTryR (spec : SpecD) (x : Str) (i : Nat) (u : WA) (sw : Addr → WS) : WS := fun d ρ => u ρ fun ds => spec ds d.rt fun ex => (ex.cls = x ∧ ex.fs = none) ∧
  ∀ a : Addr, sw a { nx := fun ρ' => d.nx (ρ'.set i .un), rt := d.rt, bk := fun ρ' => d.bk (ρ'.set i .un), ct := fun ρ' => d.ct (ρ'.set i .un) } (ρ.set i (.val (.rf a)))
theorem ds_tryret {i : Nat} {x n f : Str} {C : Addr} {fa : Addr} {fd : FuncData} {ps : List Str} {spec : SpecD} {u : WA} {sw : Addr → WS} {j : Nat} {b₀ : Stmt} {suite : List Stmt} {np rp pos' tpos : Pos}
    (hN : X.N.Nodup) (hm0 : X.mg x = some (.ref C)) (hex : PySem.W.exmOne X.K (.ref C) (.ref C) = some true)
    (F : FnOk X.prog X.w X.K X.mg X.base (L2.CX X.prog X.w) j fa fd ps (spD X.K X.mg spec)) (hr : Room j X.A) (hm : X.mg f = some (.ref fa)) (hk : PySem.W.keepIn X.K (.ref fa) = true) (hb : Binds X.K fd ps [])
    (ha : ∀ (pn : List (Addr × Obj)) (xe : Value → Shared → Prop), DA (X.tr pn xe) k.still (e :: es) u)
    (hsu : ∀ (a : Addr) (oe : Obj) (pn : List (Addr × Obj)), Zc (.ref C) none oe → (∃ vs, oe.data = .fields vs) → DB (X.suite a ((a, oe) :: pn)) k.still (b₀ :: suite) (sw a))
    (hs : X.stack = X.env :: X.outer := by rfl) (hf : X.env.frame = some X.env.locals := by rfl) (hi : X.N[i]? = some n := by rfl) (hln : X.env.kindOf n = some .local := by rfl) (hc : Gl X x := by rfl) (hxd : (x == ("__debug__" : Str)) = false := by decide)
    (hg : Gl X f := by rfl) (hdb : (f == ("__debug__" : Str)) = false := by decide) (he : ∀ pn xe, starEach (e :: es) (X.tr pn xe).env = (false, eval e (X.tr pn xe).env) :: starEach es (X.tr pn xe).env := by intro _ _; rfl) (hpl : ∀ pn xe, (backTo pos (starEach es (X.tr pn xe).env)).any (·.1) = false := by intro _ _; rfl) :
    DS X k (.Try [.Return (some (.Call (.Name f p) (e :: es) [] pos)) rp] [.ExceptHandler (some (.Name x np)) (some n) (b₀ :: suite) pos'] [] [] tpos) (wTryR spec x i u sw) := by
  refine ⟨_, ps_try_as (c := .ref C) (tb := fun W => tRet (tCallS (spD X.K X.mg spec) (L2.WE W) (tAc (wc X k.s) k.still u))) (ts := fun a cl d => fun E σ H => d = none ∧ tSc (wc X k.s) k.still cl C (sw a) E σ H) (Wout := fun _ _ _ _ => False) hs hf hN hi hln ⟨hc, hxd, .inl hm0⟩ takes0 (fun W pn xe tk _ => ?_) (fun a oe cls d pn hz hv => ?_), fun r Z H σ ρ d E O L h => ?_⟩
  · exact pss_one (ps_ret (pe_callS (X := X.tr pn xe) F hr hg hm hk hb (fun σ => passAt tk σ) (ha pn xe).pa hdb (he pn xe) (hpl pn xe)))
  · refine ⟨fun pins s σ H E I ⟨ed, ec, r, Z, ρ, dd, O, L, hu⟩ => ?_⟩
    subst ed ec
    obtain ⟨t, p, f⟩ := hsu a oe pn hz hv
    exact p.run pins s σ H E I (f r Z H σ ρ dd E O L hu)
  · refine ⟨r, Z, ρ, _, O.still, h, fun ds vs Z1 H1 s1 r1 h1 => ?_⟩
    refine ⟨k.s, Z1, ds, d.rt, _, s1.bs, r1, h1, fun x v Z' H' st rv hd => L.rt Z' H' v x ((O.en.trans s1 O.s0).trans st O.s0) ((O.lb.trans s1.zz).trans st.zz) rv hd, fun ex cls od Z' H' st er hd => ?_⟩
    obtain ⟨⟨e1, e2⟩, hsw⟩ := hd
    obtain ⟨C', hC, rfl, hfs⟩ := er
    rw [e1] at hC
    have eC : C' = C := by
      have hC2 : X.mg x = some (.ref C') := hC
      rw [hm0] at hC2
      cases hC2 <;> rfl
    subst eC
    rw [e2] at hfs
    subst hfs
    have O2 := (O.stp (s1.trans st O.bs.st)).still
    refine ⟨true, hex, fun _ a ha => ⟨rfl, rfl, r, Z', ρ.set i (.val (.rf a)), _, O2.set (.rf a), ⟨?_, ?_, ?_, ?_⟩, hsw a⟩, fun z => by cases z⟩
    · exact fun Z3 H3 σ3 ρ3 O3 h3 => L.nx Z3 H3 _ _ (O.back O3) h3
    · exact L.rt
    · exact fun Z3 H3 σ3 ρ3 O3 h3 => L.bk Z3 H3 _ _ (O.back O3) h3
    · exact fun Z3 H3 σ3 ρ3 O3 h3 => L.ct Z3 H3 _ _ (O.back O3) h3
/-- isinstance(e, c) of the error that the suite holds: yes -/
def wIsE (i : Nat) (a : Addr) : WE := fun ρ Q => Sl.V ρ[i]? fun d => d = .rf a ∧ Q (.bl true)
theorem de_isE {i : Nat} {a D : Addr} {oe : Obj} {pn : List (Addr × Obj)} {n : Str} {ce : Expr} {np : Pos} {v : V} {cv : Value} (T : ExcC X.K D) (hz : Zc (.ref D) none oe) (hf : ∃ vs, oe.data = .fields vs) (hk : PySem.W.kitOne X.K (.ref D) cv = some true)
    (hv : ∀ u, RelV v u → u = cv) (hce : PE (X.suite a ((a, oe) :: pn)) ce (tC v)) (hm : X.mg "isinstance" = none) (hi : X.N[i]? = some n := by rfl) (hvis : Vis X.env.scope n := by first | exact Or.inl rfl | exact Or.inr (Or.inl rfl) | exact Or.inr (Or.inr rfl)) (hd : (n == ("__debug__" : Str)) = false := by decide)
    (hcd : (n == ("__classdict__" : Str)) = false := by decide) (hg : Gl X "isinstance" := by rfl)
    (h1 : starEach [.Name n np, ce] (X.suite a ((a, oe) :: pn)).env = (false, eval (.Name n np) (X.suite a ((a, oe) :: pn)).env) :: starEach [ce] (X.suite a ((a, oe) :: pn)).env := by rfl)
    (h2 : starEach [ce] (X.suite a ((a, oe) :: pn)).env = (false, eval ce (X.suite a ((a, oe) :: pn)).env) :: starEach [] (X.suite a ((a, oe) :: pn)).env := by rfl)
    (h3 : (backTo pos (starEach [ce] (X.suite a ((a, oe) :: pn)).env)).any (·.1) = false := by rfl) :
    DE (X.suite a ((a, oe) :: pn)) k (.Call (.Name "isinstance" p) [.Name n np, ce] [] pos) (wIsE i a) := by
  refine ⟨_, pe_callB (X := X.suite a ((a, oe) :: pn)) (call_isE T hz hf) hg hm PyProof.Rows.boot_isinstance (pa_cons (pe_var (X := X.suite a ((a, oe) :: pn)) hi hvis hd hcd) (pa_cons hce pa_nil h2) h1) (by decide) (by decide) h1 h3, fun r Z H σ ρ Qd Q O h q => ?_⟩
  obtain ⟨d, e1, e2, e3⟩ := Sl.V_ex h
  subst e2
  obtain ⟨o, h4, v', rfl, h5⟩ := O.sl i _ e1
  cases h5
  exact ⟨_, h4, v, cv, true, rfl, hv, hk, q _ _ Z H (.refl O.bs) (.bl true) e3⟩
end
theorem kit_ref {K : PySem.W.Frag} {t : Value} {S : Addr} (hd : PySem.W.hasDictIn K S = true) (ht : PySem.W.typeIn K (.ref S) = some (.type "type")) (hs : PySem.W.subIn K t (.ref S) = some true) : PySem.W.kitOne K t (.ref S) = some true := by
  obtain ⟨cd, hc, _⟩ := PySem.W.any_some hd
  unfold PySem.W.kitOne
  split
  · rfl
  · show (if ((PySem.W.clsIn K S).isSome && PySem.W.typeIn K (.ref S) == some (.type "type")) = true then PySem.W.subIn K t (.ref S) else none) = some true
    rw [if_pos (show ((PySem.W.clsIn K S).isSome && PySem.W.typeIn K (.ref S) == some (.type "type")) = true by rw [hc, ht]; rfl)]
    exact hs
theorem kit_typ {K : PySem.W.Frag} {t : Value} {T : String} (hm : PySem.W.kitMeta T = true) (hs : PySem.W.subIn K t (.type T) = some true) : PySem.W.kitOne K t (.type T) = some true := by
  unfold PySem.W.kitOne
  split
  · rfl
  · show (if PySem.W.kitMeta T = true then PySem.W.subIn K t (.type T) else none) = some true
    rw [if_pos hm]
    exact hs
end Dl
set_option Elab.async false
set_option linter.all false
set_option maxRecDepth 100000
set_option maxHeartbeats 2000000
namespace Dl
open PySem PySem.Spec PyProof.Rows L2
/-! ### lists and dicts of the def's own: made, changed, frozen -/
section
variable {c : Wc} {k : Cc} {r : Rt} {Z H Z' H' : Hp} {σ : L2.St} {ρ : En}
theorem Ok.newO {i : Nat} {p : Addr} {o : HO} {t' : Sl} (O : Ok c k r Z H σ ρ) (hp : H p = none) (hown : t'.own = true) (hs : SlOk c Z (upd H p o) t' (some (.ref p))) : Ok c k r Z (upd H p o) (σ.set i (some (.ref p))) (ρ.set i t') := by
  have O1 := O.stp (.own (o := o) O.bs hp)
  refine ⟨O1.en, O1.s0, O1.lb, fun j t ht => ?_, fun j t a ht ho ha => ?_, fun j l t u a hjl ht hu ho ho' ha => ?_, O1.lk⟩
  · by_cases hj : i = j
    · subst hj
      rw [List.getElem?_set] at ht
      rw [if_pos rfl] at ht
      split at ht
      · rename_i hl
        cases ht
        obtain ⟨q, h1, _⟩ := O.sl i _ (List.getElem?_eq_getElem hl)
        have hl2 : i < σ.length := (List.getElem?_eq_some_iff.mp h1).1
        exact ⟨some (.ref p), by rw [List.getElem?_set_self hl2], hs⟩
      · cases ht
    · rw [List.getElem?_set_ne hj] at ht ⊢
      exact O1.sl j t ht
  · by_cases hj : i = j
    · subst hj
      have e : a = p := by
        rw [List.getElem?_set, if_pos rfl] at ha
        split at ha
        · cases ha; rfl
        · cases ha
      subst e
      exact ⟨O.bs.zh.free hp, O.en.free O.s0 hp, fun z => O.bs.st.ne hp z.symm⟩
    · rw [List.getElem?_set_ne hj] at ht ha
      exact O1.ow j t a ht ho ha
  · by_cases hj : i = j
    · subst hj
      have e : a = p := by
        rw [List.getElem?_set, if_pos rfl] at ha
        split at ha
        · cases ha; rfl
        · cases ha
      subst e
      rw [List.getElem?_set_ne hjl] at hu ⊢
      intro z
      obtain ⟨q, h1, h2⟩ := O.sl l u hu
      obtain ⟨b, w, h3, h4⟩ := h2.own ho'
      rw [h1] at z
      cases z
      cases h3
      rw [hp] at h4
      cases h4
    · by_cases hl : i = l
      · subst hl
        rw [List.getElem?_set_ne hj] at ht ha
        obtain ⟨q, h1, h2⟩ := O.sl j t ht
        obtain ⟨b, w, h3, h4⟩ := h2.own ho
        rw [h1] at ha
        cases ha
        cases h3
        intro z
        rw [List.getElem?_set, if_pos rfl] at z
        split at z
        · cases z
          rw [hp] at h4
          cases h4
        · cases z
      · rw [List.getElem?_set_ne hj] at ht ha
        rw [List.getElem?_set_ne hl] at hu ⊢
        exact O1.ds j l t u a hjl ht hu ho ho' ha
theorem Ok.chg {i : Nat} {a : Addr} {o' : HO} {t t' : Sl} (O : Ok c k r Z H σ ρ) (ht : ρ[i]? = some t) (hown : t.own = true) (ha : σ[i]? = some (some (.ref a))) (hown' : t'.own = true) (hs : SlOk c Z (upd H a o') t' (some (.ref a))) : Ok c k r Z (upd H a o') σ (ρ.set i t') := by
  obtain ⟨z1, z2, z3⟩ := O.ow i t a ht hown ha
  refine ⟨O.en.mut O.s0 z2 z1, O.s0, O.lb, fun j u hu => ?_, fun j u b hu ho hb => ?_, fun j l u v b hjl hu hv ho ho' hb => ?_, O.lk⟩
  · by_cases hj : i = j
    · subst hj
      rw [List.getElem?_set, if_pos rfl] at hu
      split at hu
      · cases hu
        exact ⟨_, ha, hs⟩
      · cases hu
    · rw [List.getElem?_set_ne hj] at hu
      obtain ⟨q, h1, h2⟩ := O.sl j u hu
      refine ⟨q, h1, ?_⟩
      cases u with
      | un => trivial
      | val d => exact h2
      | ol ds =>
        obtain ⟨b, vs, e1, e2, e3⟩ := h2
        refine ⟨b, vs, e1, ?_, e3⟩
        rw [upd_ne]
        · exact e2
        · intro z
          subst z
          exact O.ds i j t _ b hj ht hu hown rfl ha (by rw [h1, e1])
      | od ds =>
        obtain ⟨b, vs, e1, e2, e3⟩ := h2
        refine ⟨b, vs, e1, ?_, e3⟩
        rw [upd_ne]
        · exact e2
        · intro z
          subst z
          exact O.ds i j t _ b hj ht hu hown rfl ha (by rw [h1, e1])
  · by_cases hj : i = j
    · subst hj
      rw [ha] at hb
      cases hb
      exact ⟨z1, z2, z3⟩
    · rw [List.getElem?_set_ne hj] at hu
      exact O.ow j u b hu ho hb
  · by_cases hj : i = j
    · subst hj
      rw [List.getElem?_set_ne hjl] at hv
      exact O.ds i l t v b hjl ht hv hown ho' hb
    · rw [List.getElem?_set_ne hj] at hu
      by_cases hl : i = l
      · subst hl
        exact O.ds j i u t b hjl hu ht ho hown hb
      · rw [List.getElem?_set_ne hl] at hv
        exact O.ds j l u v b hjl hu hv ho ho' hb
theorem Ok.frzO {i : Nat} {a : Addr} {o : HO} {t : Sl} {d : D} (O : Ok c k r Z H σ ρ) (ht : ρ[i]? = some t) (hown : t.own = true) (ha : σ[i]? = some (some (.ref a))) (hH : H a = some o) (hr : Rp c (upd Z a o) (.ref a) d) : Ok c k r (upd Z a o) H σ (ρ.set i (.val d)) := by
  obtain ⟨z1, z2, z3⟩ := O.ow i t a ht hown ha
  have zz : Same Z (upd Z a o) := fun b u q => by rw [upd_ne (ne_of_none q z1)]; exact q
  refine ⟨O.en.frz O.s0 z2 z1 hH, O.s0, O.lb.trans zz, fun j u hu => ?_, fun j u b hu ho hb => ?_, fun j l u v b hjl hu hv ho ho' hb => ?_, O.lk⟩
  · by_cases hj : i = j
    · subst hj
      rw [List.getElem?_set, if_pos rfl] at hu
      split at hu
      · cases hu
        exact ⟨_, ha, _, rfl, hr⟩
      · cases hu
    · rw [List.getElem?_set_ne hj] at hu
      obtain ⟨q, h1, h2⟩ := O.sl j u hu
      refine ⟨q, h1, ?_⟩
      cases u with
      | un => trivial
      | val d =>
        obtain ⟨v, e1, e2⟩ := h2
        exact ⟨v, e1, e2.mono zz⟩
      | ol ds =>
        obtain ⟨b, vs, e1, e2, e3⟩ := h2
        exact ⟨b, vs, e1, e2, e3.mono zz⟩
      | od ds =>
        obtain ⟨b, vs, e1, e2, e3⟩ := h2
        exact ⟨b, vs, e1, e2, e3.mono zz⟩
  · by_cases hj : i = j
    · subst hj
      rw [List.getElem?_set, if_pos rfl] at hu
      split at hu
      · cases hu
        cases ho
      · cases hu
    · rw [List.getElem?_set_ne hj] at hu
      obtain ⟨q1, q2, q3⟩ := O.ow j u b hu ho hb
      refine ⟨?_, q2, q3⟩
      rw [upd_ne]
      · exact q1
      · intro z
        subst z
        exact O.ds i j t u b hj ht hu hown ho ha hb
  · have hj : i ≠ j := fun e => by
      subst e
      rw [List.getElem?_set, if_pos rfl] at hu
      split at hu
      · cases hu
        cases ho
      · cases hu
    have hl : i ≠ l := fun e => by
      subst e
      rw [List.getElem?_set, if_pos rfl] at hv
      split at hv
      · cases hv
        cases ho'
      · cases hv
    rw [List.getElem?_set_ne hj] at hu
    rw [List.getElem?_set_ne hl] at hv
    exact O.ds j l u v b hjl hu hv ho ho' hb
end
def Sl.OL (t : Option Sl) (Q : List D → Prop) : Prop := match t with
  | some (.ol ds) => Q ds
  | _ => False
theorem Sl.OL_ex {t : Option Sl} {Q : List D → Prop} (h : Sl.OL t Q) : ∃ d, t = some (.ol d) ∧ Q d := by
  cases t with
  | none => exact h.elim
  | some t => cases t <;> first | exact ⟨_, rfl, h⟩ | exact h.elim
def Sl.OD (t : Option Sl) (Q : List (Key × D) → Prop) : Prop := match t with
  | some (.od ds) => Q ds
  | _ => False
theorem Sl.OD_ex {t : Option Sl} {Q : List (Key × D) → Prop} (h : Sl.OD t Q) : ∃ d, t = some (.od d) ∧ Q d := by
  cases t with
  | none => exact h.elim
  | some t => cases t <;> first | exact ⟨_, rfl, h⟩ | exact h.elim
section
variable {X : Cx} {k : Cc} {a b e c : Expr} {es : List Expr} {wa wb w wc' : WE} {pos p p1 p2 pos2 : Pos} {rest : List Stmt}
/-- x = [] -/
def wNewL (i : Nat) : WS := fun d ρ => d.nx (ρ.set i (.ol []))
theorem ds_newl {i : Nat} {x : Str} {pos' : Pos} (hN : X.N.Nodup) (hi : X.N[i]? = some x := by rfl) (hx : Loc X.env.scope x := by first | exact Or.inl rfl | exact Or.inr rfl) (hs : swapsWith (.List [] p) (some (.Name x pos')) pos.line X.env = pure false := by rfl)
    (hf : X.fn x = true ∨ X.env.scope.names.lookup x = some .local := by first | exact .inl rfl | exact .inr rfl | assumption) : DS X k (.Assign [.Name x pos'] (.List [] p) pos) (wNewL i) := by
  refine ⟨_, ps_set hN hi hx (pe_lst pa_nil) hs hf, fun r Z H σ ρ d E O L h => ?_⟩
  exact ⟨Nat.zero_le _, fun q hq => L.nx _ _ _ _ (O.newO (t' := .ol []) hq rfl ⟨q, [], rfl, upd_same, .nil⟩) h⟩
/-- x = {} -/
def wNewD (i : Nat) : WS := fun d ρ => d.nx (ρ.set i (.od []))
theorem ds_newd {i : Nat} {x : Str} {pos' : Pos} (hN : X.N.Nodup) (hi : X.N[i]? = some x := by rfl) (hx : Loc X.env.scope x := by first | exact Or.inl rfl | exact Or.inr rfl) (hs : swapsWith (.Dict [] [] p) (some (.Name x pos')) pos.line X.env = pure false := by rfl)
    (hf : X.fn x = true ∨ X.env.scope.names.lookup x = some .local := by first | exact .inl rfl | exact .inr rfl | assumption) : DS X k (.Assign [.Name x pos'] (.Dict [] [] p) pos) (wNewD i) := by
  refine ⟨_, ps_set hN hi hx pe_dnewK hs hf, fun r Z H σ ρ d E O L h => ?_⟩
  exact fun q hq => L.nx _ _ _ _ (O.newO (t' := .od []) hq rfl ⟨q, [], rfl, upd_same, .nil⟩) h
/-- x.append(e) -/
def wApp (i : Nat) (w : WE) : WS := fun d ρ => Sl.OL ρ[i]? fun ds => w ρ fun y => ds.length ≤ 100000 ∧ d.nx (ρ.set i (.ol (ds ++ [y])))
theorem ds_app {i : Nat} {x : Str} {apos npos : Pos} (h : DE X k e w) (hi : X.N[i]? = some x := by rfl) (hv : Vis X.env.scope x := by first | exact Or.inl rfl | exact Or.inr (Or.inl rfl) | exact Or.inr (Or.inr rfl)) (hd : (x == ("__debug__" : Str)) = false := by decide) (hcd : (x == ("__classdict__" : Str)) = false := by decide)
    (h1 : starEach [e] X.env = (false, eval e X.env) :: starEach [] X.env := by rfl)
    (pb : ∀ {tx : TE} {ta : TA}, PE X (.Name x npos) tx → PA X [e] ta → PE X (.Call (.Attribute (.Name x npos) "append" apos) [e] [] p) (tBM X.K "list" rAppend tx ta) := by intro _ _ h1 h2; exact pe_bm PySem.F.plainAttrs_list PySem.F.slot_list_append PySem.F.type_list_append mt_append h1 h2)
    (hs : swapsWith (.Call (.Attribute (.Name x npos) "append" apos) [e] [] p) none pos.line X.env = pure false := by rfl) : DS X k (.Expr (.Call (.Attribute (.Name x npos) "append" apos) [e] [] p) pos) (wApp i w) := by
  obtain ⟨t, pe, f⟩ := h
  refine ⟨_, ps_expr (pb (pe_var hi hv hd hcd) (pa_cons pe pa_nil h1)) hs, fun r Z H σ ρ d E O L h => ?_⟩
  obtain ⟨ds, e1, h⟩ := Sl.OL_ex h
  obtain ⟨o, h2, a, vs, rfl, h3, h4⟩ := O.sl i _ e1
  obtain ⟨z1, z2, z3⟩ := O.ow i _ a e1 rfl h2
  refine ⟨_, h2, .inl ⟨rfl, _, SqL.of h3⟩, f r Z H σ ρ _ _ O h fun y v Z1 H1 s1 r1 h1 => ?_⟩
  have h5 := s1.hh a _ h3 z3
  refine ⟨a, vs, v, rfl, rfl, h5, ?_, L.nx Z1 _ σ _ ((O.stp s1).chg e1 rfl h2 (t' := .ol (ds ++ [y])) rfl ⟨a, _, rfl, upd_same, (h4.mono s1.zz).append (.cons r1 .nil)⟩) h1.2⟩
  rw [h4.length]
  exact Nat.lt_of_le_of_lt h1.1 (by decide)
/-- what is changed no more is a tree -/
def wFrzL (i : Nat) (u : WS) : WS := fun d ρ => Sl.OL ρ[i]? fun ds => u d (ρ.set i (.val (.lst ds)))
theorem db_frzL {i : Nat} {u : WS} (h : DB X k rest u) : DB X k rest (wFrzL i u) := by
  obtain ⟨t, p, f⟩ := h
  refine ⟨t, p, fun r Z H σ ρ d E O L h => ?_⟩
  obtain ⟨ds, e1, h1⟩ := Sl.OL_ex h
  obtain ⟨o, h2, a, vs, rfl, h3, h4⟩ := O.sl i _ e1
  obtain ⟨z1, _, _⟩ := O.ow i _ a e1 rfl h2
  exact f r _ H σ _ d E (O.frzO e1 rfl h2 h3 (.lst upd_same (h4.mono fun b u q => by rw [upd_ne (ne_of_none q z1)]; exact q))) L h1
def wFrzD (i : Nat) (u : WS) : WS := fun d ρ => Sl.OD ρ[i]? fun ds => u d (ρ.set i (.val (.dic ds)))
theorem db_frzD {i : Nat} {u : WS} (h : DB X k rest u) : DB X k rest (wFrzD i u) := by
  obtain ⟨t, p, f⟩ := h
  refine ⟨t, p, fun r Z H σ ρ d E O L h => ?_⟩
  obtain ⟨ds, e1, h1⟩ := Sl.OD_ex h
  obtain ⟨o, h2, a, vs, rfl, h3, h4⟩ := O.sl i _ e1
  obtain ⟨z1, _, _⟩ := O.ow i _ a e1 rfl h2
  exact f r _ H σ _ d E (O.frzO e1 rfl h2 h3 (.dic (.inl upd_same) (h4.mono fun b u q => by rw [upd_ne (ne_of_none q z1)]; exact q))) L h1
end
end Dl
set_option Elab.async false
set_option linter.all false
set_option maxRecDepth 100000
set_option maxHeartbeats 2000000
namespace Dl
open PySem PySem.Spec PyProof.Rows L2
section
variable {X : Cx} {pins : List (Addr × Obj)} {σ : L2.St} {H : Hp} {s : Shared}
/-- a bound __init__ of ValueError is called -/
theorem mw_call {A : Around} {E : Value → Shared → Prop} {u a C : Addr} {us : List Value} {Q : Value → Shared → Prop} (T : OexC X.K C) (I : Inv X ((u, PySem.W.kxs_mw "ValueError.__init__" a) :: pins) σ H s) (e : H a = some (exo a C none)) (hl : us.length ≤ sizeLine) (h : ∀ s', Inv X pins σ H s' → Q .none s') :
    wpAny (model X.prog X.w) A (call (.ref u) us) Q E s := by
  obtain ⟨nm, q, N, bs, bm, sn, sub, ab, col, dd, k0, k1, k2, k3, k5, hC, hbm⟩ := T.cls
  obtain ⟨t1, ho⟩ := exo_at I.hok e
  have hu := (I.pin _ (List.mem_append_right _ List.mem_cons_self)).1
  have I0 : Inv X pins σ H s := I.pins_of fun q hq => I.pin q (List.mem_append_right _ (List.mem_cons_of_mem _ hq))
  have hCC := I.kIn _ _ hC
  obtain ⟨hp, g, d, t, os⟩ := s
  have FB := F.excBase_ValueError
  refine wpAny_call (codeAny_of_tree ?_)
  show wpAny _ A.in1 (callAny (.ref u) ⟨us, []⟩) _ _ _
  simp only [callAny]
  refine wpAny_bind (wpAny_load hu ?_)
  simp only [PySem.W.kxs_mw, show (Value.type "method-wrapper" == Value.type "method" || Value.type "method-wrapper" == Value.type "builtin_function_or_method" || Value.type "method-wrapper" == Value.type "method-wrapper") = true by decide, if_true]
  refine PySem.W.KFB.if_so (by decide) ?_
  refine wpAny_bind (PySem.W.check_bound_init FB.toExcCallFacts hCC ho rfl ?_)
  refine wpAny_bind (wpAny_pure (wpAny_pure ?_))
  refine ⟨Code.quiet_builtin _ (by decide +kernel), codeAny_builtin FB.initEntry ?_⟩
  rw [Around.under_plainId FB.init.plain _]
  refine PySem.W.exc_init_tree (cls := .ref C) (t0 := t1) (dv := none) (c2 := .none) (c3 := .none) (b4 := .bool false) ho hl fun h' k hx ht => ?_
  have J := I0.write (t' := t) (x := a) (e := a) (o := exo a C none) (by rw [e]; exact True.intro) (.inl rfl) k ⟨_, hx⟩ (exo_ok hx)
  have eu : upd H a (exo a C none) = H := by
    funext b
    by_cases hb : b = a
    · rw [hb, upd_same, e]
    · rw [upd_ne hb]
  rw [eu] at J
  exact h _ J
/-- what stands of a class whose __init__ begins with super().__init__(..) -/
structure SupC (K : PySem.W.Frag) (P : Program) (mg : Str → Option Value) (C cc cda f : Addr) (fd : FuncData) : Prop where
  T : OexC K C
  fn : ∃ oc od osl, K.lookup f = some ⟨oc, od, .func fd, osl⟩
  code : ∃ ccl cdd vs ccs file tf, K.lookup cda = some ⟨ccl, cdd, .fields vs, ccs⟩ ∧ vs[2]? = some (.str file tf) ∧ ((P.main.file : Str) == file) = true
  cell : ∃ cl cld csl, K.lookup cc = some ⟨cl, cld, .cell (some (.ref C)), csl⟩
  sub : PySem.W.mroIn K C (.ref C) = some true
  opq : PySem.W.nsIn K cStatics "thirdparty.any" = some none
  up : PySem.W.ks_superIn K C C "__init__" = some (some (.builtin "ValueError.__init__"))
  ve : PySem.W.subIn K (.ref C) (.type "ValueError") = some true
  nsup : mg "super" = none
  top : (P.main.scope.names.lookup ("super" : Str)).isSome = false
theorem sup_stmt {q : Str} {scope : Scope} {L f cda cc a C : Addr} {body : List Stmt} {e : Expr} {ta : TA} {p0 p1 ap pos : Pos} {fd : FuncData} {ar : Arg}
    (S : SupC X.K X.prog X.mg C cc cda f fd) (henv : X.env = PySem.W.ksEnv q scope L f (.ref cda) cc) (I : Inv X pins σ H s) (ea : H a = some (exo a C none))
    (hp : (fd.params.posonlyargs ++ fd.params.args).head? = some ar) (hN : X.N[0]? = some ar.arg) (hv : σ[0]? = some (some (.ref a)))
    (hks : scope.names.lookup ("super" : Str) = some .globalImplicit) (hkc : scope.names.lookup ("__class__" : Str) = some .free) (hka : scope.names.lookup ar.arg = some .local) (hk : scope.kind = .function)
    (ha : PA X [e] ta) (hta : ta σ H fun vs H1 => vs.length = 1 ∧ H1 = H) {pl : Sem Bool}
    (hev : eval (.Call (.Attribute (.Call (.Name "super" p0) [] [] p1) "__init__" ap) [e] [] pos) (PySem.W.ksEnv q scope L f (.ref cda) cc) = (do
      let ov ← attributeBase (.Call (.Name "super" p0) [] [] p1) "__init__" (PySem.W.ksEnv q scope L f (.ref cda) cc) (eval (.Call (.Name "super" p0) [] [] p1) (PySem.W.ksEnv q scope L f (.ref cda) cc))
      standAt ap.atName
      let (f', first) ← holding [ov] (getMethod ov "__init__" pl)
      callWith pos f' first (backTo pos (starEach [e] (PySem.W.ksEnv q scope L f (.ref cda) cc))) []))
    (he : starEach [e] (PySem.W.ksEnv q scope L f (.ref cda) cc) = [(false, eval e (PySem.W.ksEnv q scope L f (.ref cda) cc))]) :
    _root_.PySem.wpAt (model X.prog X.w) X.A (.func body (PySem.W.ksEnv q scope L f (.ref cda) cc)) (eval (.Call (.Attribute (.Call (.Name "super" p0) [] [] p1) "__init__" ap) [e] [] pos) (PySem.W.ksEnv q scope L f (.ref cda) cc))
      (fun _ s' => Inv X pins σ H s') X.xe s := by
  obtain ⟨nm, qn, N, bs, bm, sn, sub, ab, col, dd, k0, k1, k2, k3, k5, hC, hbm⟩ := S.T.cls
  have hcl : PySem.W.clsIn X.K C = some { name := nm, bases := bs, mro := .ref C :: bm, ns := N, qualname := qn, hasDict := true, slotNames := sn, subclasses := sub, abstract := ab, collection := col, hasDel := false } := by unfold PySem.W.clsIn; rw [hC] <;> rfl
  obtain ⟨oc, od, osl, lk⟩ := S.fn
  obtain ⟨ccl, cdd, vs, ccs, file, tf, hcode, hvs, hfile⟩ := S.code
  obtain ⟨cl, cld, csl, hcell⟩ := S.cell
  have X0 := I.kIn
  obtain ⟨t1, ho⟩ := exo_at I.hok ea
  have hCC := X0 _ _ hC
  obtain ⟨m, hns, hloc⟩ := I.loc
  have hL : X.env.locals = L := by rw [henv]
  have hme : m ar.arg = some (.ref a) := by
    obtain ⟨u, ru, lk⟩ := hloc 0 ar.arg _ hN hv (by rw [henv]; exact .inl hka)
    obtain rfl : u = Value.ref a := ru
    rcases lk with ⟨_, z⟩ | ⟨z, _⟩
    · exact z
    · rw [henv] at z
      have z' : scope.names.lookup ar.arg = some .cell ∨ scope.names.lookup ar.arg = some .free := z
      rw [hka] at z'
      rcases z' with z' | z' <;> cases z'
  rw [hL] at hns
  obtain ⟨mb, hb1, hb2⟩ := I.mod.blt
  obtain ⟨hh, g, d, t, os⟩ := s
  refine ks_wpAt_MethodCall (pl := pl) ?_ hev
  refine ks_wpAt_super_base (env := PySem.W.ksEnv q scope L f (.ref cda) cc) hks hkc (by decide) rfl (X0 _ _ lk) rfl hp rfl (X0 _ _ hcode) rfl hvs hfile S.top ?_
  refine PySem.W.ks_loadName_global hk hks (Calls.loadGlobal_builtin (env := PySem.W.ksEnv q scope L f (.ref cda) cc) (I.mod.glob.keeps I.bk) S.nsup (hb1.keeps I.bk) ((hb2 "super" (by decide)).trans (by kernel_rfl)) ⟨rfl, ?_⟩)
  refine wpAny_loadName_free hk hkc rfl ⟨_, X0 _ _ hcell, rfl⟩ ?_
  refine wpAny_loadName_local hk hka hns hme ?_
  refine ks_wpAny_isType_cls hCC rfl ⟨rfl, ?_⟩
  refine ks_wpAny_call_super hCC rfl ho rfl (fun c z => by cases z) (PySem.W.looks_mroIn X0 S.sub) (fun h' e1 k => ?_)
  have X1 := X0.keeps k
  have J := I.kept (t' := t) k
  have hup : PySem.W.alongIn X.K "__init__" (((Value.ref C :: bm).dropWhile (· != .ref C)).drop 1) = some (some (.builtin "ValueError.__init__")) := by
    have z := S.up
    unfold PySem.W.ks_superIn at z
    rw [hcl] at z
    exact z
  have IA : PySem.W.InstAt h' a ({ cls := .ref C, dict := none, data := .fields #[.ref t1, .none, .none, .none, .bool false, .none] } : Obj) C none := ⟨k _ _ ho, rfl, rfl, trivial⟩
  refine PySem.W.kxs_getMethod PySem.W.kxs_ValueError e1 (PySem.W.looks_opaque X1 S.opq) ((PySem.W.looks_clsIn X1 hcl).andThen .now) rfl X1 hup (IA.type.andThen (PySem.W.looks_subIn X1 S.ve)) (PySem.W.ks_ne X1 IA hcl) (by decide) ?_
  let u : Addr := h'.objs.size
  let o := PySem.W.kxs_mw "ValueError.__init__" a
  have I1 : Inv X pins σ H ⟨h'.push o, g, d, t + 1, os⟩ := I.kept (t' := t + 1) fun b z y => Heap.get?_push_of_some _ (k b z y)
  have hx : (h'.push o).get? u = some o := Heap.get?_push_size _ rfl
  have I2 : Inv X ((u, o) :: pins) σ H ⟨h'.push o, g, d, t + 1, os⟩ := I1.pins_of fun q hq => by
    rcases List.mem_cons.mp hq with e | e
    · subst e
      exact ⟨hx, J.hok.fresh (Nat.le_refl _), Nat.ne_of_gt J.lt, J.nofs (Nat.le_refl _), fun v z => nomatch z⟩
    · exact I1.pin q (List.mem_append_right _ e)
  show wpAny _ _ (callWith pos (.ref u) [] (backTo pos (starEach [e] (PySem.W.ksEnv q scope L f (.ref cda) cc))) []) _ _ _
  have run := ha.run pos _ _ σ H _ I2 hta
  rw [henv, he] at run
  rw [he]
  refine PySem.W.kxs_callWith (i := "ValueError.__init__") (x := a) rfl (Calls.evalArgs_plain (thn run fun us s3 ⟨vs, H1, I3, rv, hl, eH⟩ => ?_))
  subst eH
  refine ⟨(I3.pin _ (List.mem_append_right _ List.mem_cons_self)).1, mw_call S.T I3 ea ?_ fun s' J => J⟩
  show us.length ≤ sizeLine
  rw [← rv.length, hl]
  decide
end
/-- the promise of an __init__ that says super().__init__(..) and keeps its argument -/
def spSup (C : Addr) (fld : Str) (good : V → Prop) : Sp := fun vs H Q _ => ∃ a v, vs = [.ref a, v] ∧ good v ∧ H a = some (exo a C none) ∧ ∀ dx, H dx = none → dx ≠ a → Q .non (upd (upd H dx (exd dx [(fld, v)])) a (exo a C (some dx)))
def cxS (CX : CXT) (P : Program) (w : World) (K : PySem.W.Frag) (mg : Str → Option Value) (base : Heap) (N : List Str) (qual : Str) (scope : Scope) (f cda cc : Addr) (A : Around) (outer : List Env) (s : Shared) (H : Hp) (E : XK) : Cx where
  prog := P
  w := w
  K := K
  mg := mg
  base := base
  A := A.deeper (PySem.W.ksEnv qual scope s.heap.objs.size f (.ref cda) cc)
  N := N
  s_0 := s
  H_0 := H
  env := PySem.W.ksEnv qual scope s.heap.objs.size f (.ref cda) cc
  outer := outer
  stack := PySem.W.ksEnv qual scope s.heap.objs.size f (.ref cda) cc :: outer
  ex := []
  calm := true
  fn := fun _ => false
  pn := []
  xe := fun e s' => wpAny (model P w) (A.deeper (PySem.W.ksEnv qual scope s.heap.objs.size f (.ref cda) cc)) (leaving (PySem.W.ksEnv qual scope s.heap.objs.size f (.ref cda) cc) e) (fun _ s'' => CX outer H s E e s'') (fun e' s'' => CX outer H s E e' s'') s'
abbrev supBody (fld sf par : Str) (e : Expr) (p0 p1 ap pos ep q1 q2 q3 q4 : Pos) : List Stmt :=
  [.Expr (.Call (.Attribute (.Call (.Name "super" p0) [] [] p1) "__init__" ap) [e] [] pos) ep, .Assign [.Attribute (.Name sf q1) fld q2] (.Name par q3) q4]
section
variable {CX : CXT} {P : Program} {w : World} {K : PySem.W.Frag} {mg : Str → Option Value} {base : Heap} {k : Nat} {f cda cc C : Addr} {name qual fld sf par : Str} {params : Arguments} {scope : Scope} {dV kV doc pm ct : Value} {an : Option Addr} {e : Expr} {p0 p1 ap pos ep q1 q2 q3 q4 : Pos} {ar : Arg} {good : V → Prop}
theorem fn_sup (S : SupC K P mg C cc cda f (PySem.W.ksFn name qual params (supBody fld sf par e p0 p1 ap pos ep q1 q2 q3 q4) scope dV kV doc pm an (.ref cda) ct cc))
    (hcd : PySem.W.codeIn K (.ref cda) qual = true) (hp : (params.posonlyargs ++ params.args).head? = some ar) (har : ar.arg = sf) (hne : sf ≠ par)
    (hks : scope.names.lookup ("super" : Str) = some .globalImplicit) (hkc : scope.names.lookup ("__class__" : Str) = some .free) (hka : scope.names.lookup sf = some .local) (hkp : scope.names.lookup par = some .local) (hk : scope.kind = .function)
    (hcell : ∀ x ∈ scope.names, x.2 ≠ .cell) (hfree : ∀ x ∈ scope.names, x.2 = .free → x.1 = "__class__") (hco : scope.isCoroutine = false) (hgen : scope.isGenerator = false)
    (hno : PySem.W.findIn K (.ref C) fld = some none)
    (hE : ∀ A outer s H E, ∃ ta, PA (cxS CX P w K mg base [sf, par] qual scope f cda cc A outer s H E) [e] ta ∧ ∀ x v H, good v → ta [some x, some v] H fun vs H1 => vs.length = 1 ∧ H1 = H)
    {pl : Sem Bool}
    (hev : ∀ L, eval (.Call (.Attribute (.Call (.Name "super" p0) [] [] p1) "__init__" ap) [e] [] pos) (PySem.W.ksEnv qual scope L f (.ref cda) cc) = (do
      let ov ← attributeBase (.Call (.Name "super" p0) [] [] p1) "__init__" (PySem.W.ksEnv qual scope L f (.ref cda) cc) (eval (.Call (.Name "super" p0) [] [] p1) (PySem.W.ksEnv qual scope L f (.ref cda) cc))
      standAt ap.atName
      let (f', first) ← holding [ov] (getMethod ov "__init__" pl)
      callWith pos f' first (backTo pos (starEach [e] (PySem.W.ksEnv qual scope L f (.ref cda) cc))) []))
    (he : ∀ L, starEach [e] (PySem.W.ksEnv qual scope L f (.ref cda) cc) = [(false, eval e (PySem.W.ksEnv qual scope L f (.ref cda) cc))])
    (hi : ∀ L, interactive (PySem.W.ksEnv qual scope L f (.ref cda) cc) = false)
    (hs1 : ∀ L, swapsWith (.Call (.Attribute (.Call (.Name "super" p0) [] [] p1) "__init__" ap) [e] [] pos) none ep.line (PySem.W.ksEnv qual scope L f (.ref cda) cc) = pure false)
    (hs2 : ∀ L, swapsWith (.Name par q3) (some (.Attribute (.Name sf q1) fld q2)) q4.line (PySem.W.ksEnv qual scope L f (.ref cda) cc) = pure false)
    (hd1 : (sf == ("__debug__" : Str)) = false) (hd2 : (par == ("__debug__" : Str)) = false) (hc1 : (sf == ("__classdict__" : Str)) = false) (hc2 : (par == ("__classdict__" : Str)) = false) :
    FnOk P w K mg base CX (k + 1) f (PySem.W.ksFn name qual params (supBody fld sf par e p0 p1 ap pos ep q1 q2 q3 q4) scope dV kV doc pm an (.ref cda) ct cc) [sf, par] (spSup C fld good) := by
  refine ⟨fun vs H Q E ⟨a, v, e, _⟩ => by rw [e]; rfl, fun A outer s H args us vs Q E hr e0 hb r hsp => ?_⟩
  obtain ⟨a, v, rfl, hg, ea, hq⟩ := hsp
  have KX : K.In s.heap := e0.mod.kin.keeps fun b o e => (e0.bs b o e).1
  have lim : s.heap.NoLimit := e0.mod.nolimit.keeps fun b o e => (e0.bs b o e).1
  obtain ⟨oc, od, osl, lk⟩ := S.fn
  cases r with
  | @cons _ ua _ ur ra rr => cases rr with
    | @cons _ uv _ ur2 rb r0 =>
      cases r0
      refine ks_codeAny_call_defAt (fd := PySem.W.ksFn name qual params (supBody fld sf par e p0 p1 ap pos ep q1 q2 q3 q4) scope dV kV doc pm an (.ref cda) ct cc) (body := supBody fld sf par e p0 p1 ap pos ep q1 q2 q3 q4) (binds := [sf, par].zip [ua, uv]) hr.depth (KX _ _ lk) rfl lim (PySem.W.codeRec_of KX hcd) rfl hb hcell ?_ (fun h₁ hns hk₁ => ?_) hco hgen hk
      · intro y hy
        simp only [List.zip_cons_cons, List.zip_nil_right, List.mem_cons, List.not_mem_nil, or_false] at hy
        rcases hy with rfl | rfl
        · exact hka
        · exact hkp
      · obtain rfl : ua = Value.ref a := ra
        obtain ⟨ta, hta, htr⟩ := hE A outer s H E
        obtain ⟨cl, cld, csl, hcc⟩ := S.cell
        have cel : ∀ (x : Str) (c : Addr), (cxS CX P w K mg base [sf, par] qual scope f cda cc A outer s H E).env.cells.lookup x = some c → x = "__class__" ∧ c = cc := fun x c h => by
          have h' : List.lookup x [(("__class__" : Str), cc)] = some c := h
          rw [List.lookup_cons] at h'
          split at h'
          · rename_i q
            exact ⟨eq_of_beq q, by cases h'; rfl⟩
          · cases h'
        have ok : (cxS CX P w K mg base [sf, par] qual scope f cda cc A outer s H E).Ok := by
          refine ⟨e0.mod, hk, rfl, rfl, Nat.le_refl _, fun x y c h1 h2 => (cel x c h1).1.trans (cel y c h2).1.symm, fun x hx => ?_, fun x c h => (nomatch h), fun _ => hr.hd, Around.frames_deeper e0.frames, .inr ⟨rfl, rfl⟩, fun b z => absurd z List.not_mem_nil, e0.bs, e0.bsz, fun b _ _ => List.not_mem_nil, fun b z => absurd z List.not_mem_nil, e0.funs, e0.frf⟩
          have hx' : scope.names.lookup x = some .cell ∨ scope.names.lookup x = some .free := hx
          rcases hx' with hx' | hx'
          · exact absurd rfl (hcell _ (PySem.mem_of_lookup hx'))
          · have e := hfree _ (PySem.mem_of_lookup hx') rfl
            exact ⟨cc, by rw [show x = "__class__" from e]; rfl⟩
        have I0 : Inv (cxS CX P w K mg base [sf, par] qual scope f cda cc A outer s H E) [] [some (.ref a), some v] H { s with heap := h₁, toks := s.toks + ([sf, par].zip [Value.ref a, uv]).length } := by
          refine ⟨ok, rfl, e0.bare, Un.kept hk₁, ⟨_, hns, fun i x y h1 h2 h3 => ?_⟩, fun x c h => ?_, e0.hok.fresh (Nat.le_refl _), fun x c h => ?_, fun p hp => absurd (show p ∈ ([] : List (Addr × Obj)) from hp) List.not_mem_nil, e0.hok.kept hk₁, rfl⟩
          · match i with
            | 0 =>
              cases h1
              cases h2
              exact ⟨_, rfl, .inl ⟨hka, by
                show List.lookup sf [(par, uv), (sf, Value.ref a)] = _
                rw [List.lookup_cons, show (sf == par) = false from beq_eq_false_iff_ne.mpr hne]
                show List.lookup sf [(sf, Value.ref a)] = _
                rw [List.lookup_cons, show (sf == sf) = true from beq_self_eq_true sf]⟩⟩
            | 1 =>
              cases h1
              cases h2
              exact ⟨_, rb, .inl ⟨hkp, by
                show List.lookup par [(par, uv), (sf, Value.ref a)] = _
                rw [List.lookup_cons, show (par == par) = true from beq_self_eq_true par]⟩⟩
            | i + 2 => cases h1
          · obtain ⟨rfl, rfl⟩ := cel x c h
            exact ⟨_, _, hk₁ _ _ (KX _ _ hcc), rfl⟩
          · obtain ⟨rfl, rfl⟩ := cel x c h
            exact (e0.bs _ _ (e0.mod.kin _ _ hcc)).2
        subst har
        refine ks_wpAt_execs_cons (ks_wpAt_Expr_any (ks_wpAt_mono (sup_stmt (X := cxS CX P w K mg base [ar.arg, par] qual scope f cda cc A outer s H E) (pins := []) S rfl I0 ea hp rfl rfl hks hkc hka hk hta (htr _ _ _ hg) (hev _) (he _)) (fun _ s' I1 => ?_) fun _ _ x => x) (hi _) (hs1 _))
        have rd := (pss_one (ps_ost (X := cxS CX P w K mg base [ar.arg, par] qual scope f cda cc A outer s H E) (pe_var (i := 0) rfl (.inl hka) hd1 hc1) (pe_var (i := 1) rfl (.inl hkp) hd2 hc2) (hs2 _))).run [] s' _ H { nx := fun _ H' => Q .non H', rt := Q } I1
          ⟨v, rfl, .ref a, rfl, a, C, rfl, S.T, hno, .inl ⟨ea, hq⟩⟩
        refine wpAt_of_wpAny (wpAny_mono rd (fun fl s2 hs => ?_) fun e s2 hs => hs)
        cases fl with
        | next =>
          obtain ⟨σ', H', J, q⟩ := hs
          exact ⟨V.non, H', J.os, J.bare, J.base, J.hok, rfl, q⟩
        | ret u =>
          obtain ⟨v', σ', H', J, rv, q⟩ := hs
          exact ⟨v', H', J.os, J.bare, J.base, J.hok, rv, q⟩
        | brk =>
          obtain ⟨_, _, _, q⟩ := hs
          exact False.elim q
        | cont =>
          obtain ⟨_, _, _, q⟩ := hs
          exact False.elim q
theorem fn_sup' {st : Stmt} (hst : defBody st = supBody fld sf par e p0 p1 ap pos ep q1 q2 q3 q4) (S : SupC K P mg C cc cda f (PySem.W.ksFn name qual (defArgs st) (defBody st) (defScope st) dV kV doc pm an (.ref cda) ct cc))
    (hcd : PySem.W.codeIn K (.ref cda) qual = true) (hp : ((defArgs st).posonlyargs ++ (defArgs st).args).head? = some ar) (har : ar.arg = sf) (hne : sf ≠ par)
    (hks : (defScope st).names.lookup ("super" : Str) = some .globalImplicit) (hkc : (defScope st).names.lookup ("__class__" : Str) = some .free) (hka : (defScope st).names.lookup sf = some .local) (hkp : (defScope st).names.lookup par = some .local) (hk : (defScope st).kind = .function)
    (hcell : ∀ x ∈ (defScope st).names, x.2 ≠ .cell) (hfree : ∀ x ∈ (defScope st).names, x.2 = .free → x.1 = "__class__") (hco : (defScope st).isCoroutine = false) (hgen : (defScope st).isGenerator = false)
    (hno : PySem.W.findIn K (.ref C) fld = some none)
    (hE : ∀ A outer s H E, ∃ ta, PA (cxS CX P w K mg base [sf, par] qual (defScope st) f cda cc A outer s H E) [e] ta ∧ ∀ x v H, good v → ta [some x, some v] H fun vs H1 => vs.length = 1 ∧ H1 = H)
    {pl : Sem Bool}
    (hev : ∀ L, eval (.Call (.Attribute (.Call (.Name "super" p0) [] [] p1) "__init__" ap) [e] [] pos) (PySem.W.ksEnv qual (defScope st) L f (.ref cda) cc) = (do
      let ov ← attributeBase (.Call (.Name "super" p0) [] [] p1) "__init__" (PySem.W.ksEnv qual (defScope st) L f (.ref cda) cc) (eval (.Call (.Name "super" p0) [] [] p1) (PySem.W.ksEnv qual (defScope st) L f (.ref cda) cc))
      standAt ap.atName
      let (f', first) ← holding [ov] (getMethod ov "__init__" pl)
      callWith pos f' first (backTo pos (starEach [e] (PySem.W.ksEnv qual (defScope st) L f (.ref cda) cc))) []))
    (he : ∀ L, starEach [e] (PySem.W.ksEnv qual (defScope st) L f (.ref cda) cc) = [(false, eval e (PySem.W.ksEnv qual (defScope st) L f (.ref cda) cc))])
    (hi : ∀ L, interactive (PySem.W.ksEnv qual (defScope st) L f (.ref cda) cc) = false)
    (hs1 : ∀ L, swapsWith (.Call (.Attribute (.Call (.Name "super" p0) [] [] p1) "__init__" ap) [e] [] pos) none ep.line (PySem.W.ksEnv qual (defScope st) L f (.ref cda) cc) = pure false)
    (hs2 : ∀ L, swapsWith (.Name par q3) (some (.Attribute (.Name sf q1) fld q2)) q4.line (PySem.W.ksEnv qual (defScope st) L f (.ref cda) cc) = pure false)
    (hd1 : (sf == ("__debug__" : Str)) = false) (hd2 : (par == ("__debug__" : Str)) = false) (hc1 : (sf == ("__classdict__" : Str)) = false) (hc2 : (par == ("__classdict__" : Str)) = false) :
    FnOk P w K mg base CX (k + 1) f (PySem.W.ksFn name qual (defArgs st) (defBody st) (defScope st) dV kV doc pm an (.ref cda) ct cc) [sf, par] (spSup C fld good) := by
  rw [hst] at S ⊢
  exact fn_sup S hcd hp har hne hks hkc hka hkp hk hcell hfree hco hgen hno hE hev he hi hs1 hs2 hd1 hd2 hc1 hc2
end
end Dl
set_option Elab.async false
set_option linter.all false
set_option maxRecDepth 100000
set_option maxHeartbeats 2000000
namespace Dl
open PySem PySem.Spec PyProof.Rows L2
section
variable {X : Cx} {k : Cc} {a b e c : Expr} {es : List Expr} {wa wb w wc' : WE} {pos p p1 p2 pos2 : Pos} {rest : List Stmt}
/-! ### an own error with one field is raised -/
/-- what is known of an error class whose __init__ says super().__init__(f'..') and keeps its argument -/
structure ExcF (K : PySem.W.Frag) (mg : Str → Option Value) (x : Str) (C fI : Addr) : Prop where
  g : mg x = some (.ref C)
  T : OexC K C
  iC : PySem.W.findIn K (.ref C) "__init__" = some (some (.ref fI))
  tI : PySem.W.typeIn K (.ref fI) = some (.type "function")
def goodD (good : V → Prop) (d : D) : Prop := ∀ c Z v, Rp c Z v d → good v
def wRaiseF (x fld : Str) (good : V → Prop) (xd : Exn → Prop) (w : WE) : WS := fun d ρ => w ρ fun y => goodD good y ∧ xd ⟨x, some [(fld, y)]⟩
theorem ds_raiseF {x fld : Str} {C fI : Addr} {good : V → Prop} {n : Nat} {fd : FuncData} {ps : List Str} (T : ExcF X.K X.mg x C fI) (F1 : FnOk X.prog X.w X.K X.mg X.base CX0 n fI fd ps (spSup C fld good)) (hr : Room (n + 1) X.A) (hb : Binds X.K fd ps []) (tk : Takes X (fun cls d _ H => k.xk cls d H)) (h : DE X k e w) (hc : X.calm = true := by rfl) (hg : Gl X x := by rfl) (hs : starEach [e] X.env = (false, eval e X.env) :: starEach [] X.env := by rfl) (hdb : (x == ("__debug__" : Str)) = false := by decide) :
    DS X k (.Raise (some (.Call (.Name x p) [e] [] pos)) none pos2) (wRaiseF x fld good k.xd w) := by
  obtain ⟨t, pe, f⟩ := h
  refine ⟨_, ps_raise hc tk (pmk_oex (ds := []) (dvs := []) T.T T.iC T.tI F1 hr hb .nil pass0 hg T.g (pa_cons pe pa_nil hs) hdb hs rfl), fun r Z H σ ρ d E O L h => ?_⟩
  refine f r Z H σ ρ _ _ O h fun y v Z1 H1 s1 r1 h1 => ?_
  refine ⟨Nat.le_add_left 1 999, fun a ha => ⟨a, v, rfl, h1.1 _ _ _ r1, upd_same, fun dx hd hne => ⟨rfl, dx, [(fld, v)], upd_same, ?_, ?_, ?_⟩⟩⟩
  · rw [upd_ne hne, upd_same]
  · rw [upd_ne hne] at hd
    exact hd
  · rw [upd_ne hne] at hd
    have eH : upd (del (upd (upd (upd H1 a (exo a C none)) dx (exd dx [(fld, v)])) a (exo a C (some dx))) a) dx (.xd [(fld, v)]) = upd H1 dx (.xd [(fld, v)]) := by
      funext b
      by_cases h1 : b = dx
      · rw [h1, upd_same, upd_same]
      · rw [upd_ne h1, upd_ne h1]
        by_cases h2 : b = a
        · rw [h2, del_same, ha]
        · rw [del_ne h2, upd_ne h2, upd_ne h1, upd_ne h2]
    rw [eH]
    have sA := Stp.add (o := .xd [(fld, v)]) s1.bs hd
    exact O.lk _ _ ⟨x, some [(fld, y)]⟩ _ _ ((O.en.trans s1 O.s0).trans sA O.s0) ⟨C, T.g, rfl, dx, _, rfl, upd_same, .cons (r1.mono sA.zz) .nil⟩ h1.2
/-! ### what may raise at once, within a try -/
abbrev WXE := En → (D → Prop) → (Exn → Prop) → Prop
def DXE (X : Cx) (k : Cc) (e : Expr) (w : WXE) : Prop := ∀ W, Takes X W → ∃ t, PE X e t ∧ ∀ (r : Rt) (Z H : Hp) (σ : L2.St) (ρ : En) (Qd : D → Prop) (Ed : Exn → Prop) (Q : VK), Ok (wc X k.s) k.still r Z H σ ρ → w ρ Qd Ed →
  (∀ d v Z' H', Stp k.s Z H Z' H' → Rp (wc X k.s) Z' v d → Qd d → Q v H') → (∀ ex cls od Z' H', Stp k.s Z H Z' H' → ExR (wc X k.s) Z' H' ex cls od → Ed ex → W cls od σ H') → t σ H Q
def wXCall (spec : SpecD) (u : WA) : WXE := fun ρ Q Ed => u ρ fun ds => spec ds Q Ed
theorem dxe_call {f : Str} {fa : Addr} {fd : FuncData} {ps : List Str} {spec : SpecD} {u : WA} {j : Nat}
    (F : FnOk X.prog X.w X.K X.mg X.base (L2.CX X.prog X.w) j fa fd ps (spD X.K X.mg spec)) (hr : Room j X.A) (hm : X.mg f = some (.ref fa)) (hk : PySem.W.keepIn X.K (.ref fa) = true) (hb : Binds X.K fd ps [])
    (ha : DA X k.still (e :: es) u) (hg : Gl X f := by rfl) (hdb : (f == ("__debug__" : Str)) = false := by decide) (he : starEach (e :: es) X.env = (false, eval e X.env) :: starEach es X.env := by rfl) (hpl : (backTo pos (starEach es X.env)).any (·.1) = false := by rfl) :
    DXE X k (.Call (.Name f p) (e :: es) [] pos) (wXCall spec u) := by
  intro W tk
  obtain ⟨t, pa, g⟩ := ha
  refine ⟨_, pe_callS F hr hg hm hk hb (fun σ => passAt tk σ) pa hdb he hpl, fun r Z H σ ρ Qd Ed Q O h q qe => ?_⟩
  refine g r Z H σ ρ _ _ O h fun ds vs Z1 H1 s1 r1 h1 => ?_
  exact ⟨k.s, Z1, ds, Qd, Ed, s1.bs, r1, h1, fun d v Z' H' st rv hd => q d v Z' H' (s1.trans st O.bs.st) rv hd, fun ex cls od Z' H' st er hd => qe ex cls od Z' H' (s1.trans st O.bs.st) er hd⟩
def wXTup2 (wa : WE) (wb : WXE) : WXE := fun ρ Q Ed => wa ρ fun x => wb ρ (fun y => Q (.tup [x, y])) Ed
theorem dxe_tup2 {wb : WXE} {x1 : Nat} (ha : DE X k.still a wa) (hb : DXE X k b wb) (h1 : starEach [a, b] X.env = (false, eval a X.env) :: starEach [b] X.env := by rfl) (h2 : starEach [b] X.env = (false, eval b X.env) :: starEach [] X.env := by rfl) : DXE X k (.Tuple [a, b] x1 pos) (wXTup2 wa wb) := by
  intro W tk
  obtain ⟨t, pa, g⟩ := ha
  obtain ⟨t2, pb, g2⟩ := hb W tk
  refine ⟨_, pe_tup (pa_cons pa (pa_cons pb pa_nil h2) h1), fun r Z H σ ρ Qd Ed Q O h q qe => ?_⟩
  refine g r Z H σ ρ _ _ O h fun x v Z1 H1 s1 r1 h1 => ?_
  refine g2 r Z1 H1 σ ρ _ _ _ (O.stp s1) h1 (fun y u Z2 H2 s2 r2 h2 => ?_) fun ex cls od Z' H' st er hd => qe ex cls od Z' H' (s1.trans st O.bs.st) er hd
  refine ⟨Nat.le_trans (show 2 ≤ 100000 by decide) (by decide), fun p hp => ?_⟩
  exact q _ _ _ _ ((s1.trans s2 O.bs.st).trans (.add s2.bs hp) O.bs.st) (rp_tup (.cons (r1.mono s2.zz) (.cons r2 .nil)) s2.bs hp) h2
def DXB (X : Cx) (k : Cc) (sts : List Stmt) (w : DEnds → (Exn → Prop) → En → Prop) : Prop := ∀ W, Takes X W → ∃ t, PSs X sts t ∧ ∀ (r : Rt) (Z H : Hp) (σ : L2.St) (ρ : En) (d : DEnds) (Ed : Exn → Prop) (E : Ends), Ok (wc X k.s) k.still r Z H σ ρ → Lk (wc X k.s) k.still r d E →
  (∀ ex cls od Z' H', Stp k.s Z H Z' H' → ExR (wc X k.s) Z' H' ex cls od → Ed ex → W cls od σ H') → w d Ed ρ → t E σ H
abbrev WXB := DEnds → (Exn → Prop) → En → Prop
def wXRet (w : WXE) : WXB := fun d Ed ρ => w ρ d.rt Ed
theorem dxb_ret {w : WXE} (h : DXE X k e w) : DXB X k [.Return (some e) pos] (wXRet w) := by
  intro W tk
  obtain ⟨t, p, f⟩ := h W tk
  refine ⟨_, pss_one (ps_ret p), fun r Z H σ ρ d Ed E O L qe h => ?_⟩
  exact f r Z H σ ρ _ _ _ O h (fun x v Z1 H1 s1 r1 h1 => L.rt Z1 H1 v x (O.en.trans s1 O.s0) (O.lb.trans s1.zz) r1 h1) qe
def wXSet (i : Nat) (w : WXE) (v : WS) : WXB := fun d Ed ρ => w ρ (fun x => v d (ρ.set i (.val x))) Ed
theorem dxb_set {i : Nat} {x : Str} {pos' : Pos} {w : WXE} {v : WS} (hN : X.N.Nodup) (h : DXE X k e w) (h2 : DB X k.still rest v) (hi : X.N[i]? = some x := by rfl) (hx : Loc X.env.scope x := by first | exact Or.inl rfl | exact Or.inr rfl) (hs : swapsWith e (some (.Name x pos')) pos.line X.env = pure false := by rfl)
    (hf : X.fn x = true ∨ X.env.scope.names.lookup x = some .local := by first | exact .inl rfl | exact .inr rfl | assumption) : DXB X k (.Assign [.Name x pos'] e pos :: rest) (wXSet i w v) := by
  intro W tk
  obtain ⟨t, p, f⟩ := h W tk
  obtain ⟨t2, p2, f2⟩ := h2
  refine ⟨_, pss_cons (ps_set hN hi hx p hs hf) p2, fun r Z H σ ρ d Ed E O L qe h => ?_⟩
  exact f r Z H σ ρ _ _ _ O h (fun x v Z1 H1 s1 r1 h1 => f2 r Z1 H1 _ _ d E ((O.stp s1).set r1) L h1) qe
def wXDrop (w : WXE) (v : WS) : WXB := fun d Ed ρ => w ρ (fun _ => v d ρ) Ed
theorem dxb_expr {w : WXE} {v : WS} (h : DXE X k e w) (h2 : DB X k.still rest v) (hs : swapsWith e none pos.line X.env = pure false := by rfl) : DXB X k (.Expr e pos :: rest) (wXDrop w v) := by
  intro W tk
  obtain ⟨t, p, f⟩ := h W tk
  obtain ⟨t2, p2, f2⟩ := h2
  refine ⟨_, pss_cons (ps_expr p hs) p2, fun r Z H σ ρ d Ed E O L qe h => ?_⟩
  exact f r Z H σ ρ _ _ _ O h (fun x v Z1 H1 s1 r1 h1 => f2 r Z1 H1 _ _ d E (O.stp s1) L h1) qe
def tXB (c : Wc) (k : Cc) (w : WXB) (W : WX) : TS := fun E σ H => ∃ r Z ρ d Ed, Ok c k.still r Z H σ ρ ∧ Lk c k.still r d E ∧ (∀ ex cls od Z' H', Stp k.s Z H Z' H' → ExR c Z' H' ex cls od → Ed ex → W cls od σ H') ∧ w d Ed ρ
theorem DXB.ps {sts : List Stmt} {w : WXB} {W : WX} (h : DXB X k sts w) (tk : Takes X W) : PSs X sts (tXB (wc X k.s) k w W) := by
  refine ⟨fun pins s σ H E I ⟨r, Z, ρ, d, Ed, O, L, qe, hu⟩ => ?_⟩
  obtain ⟨t, p, f⟩ := h W tk
  exact p.run pins s σ H E I (f r Z H σ ρ d Ed E O L qe hu)
/-- what the name of an except clause holds -/
def Exn.slot (a : Addr) (od : Option Addr) (ex : Exn) : D := match ex.fs, od with
  | some ds, some d => .exc a d ds
  | _, _ => .rf a
theorem Exn.rp {c : Wc} {Z H : Hp} {ex : Exn} {cls : Value} {od : Option Addr} {a : Addr} (h : ExR c Z H ex cls od) : Rp c Z (.ref a) (ex.slot a od) := by
  obtain ⟨C, _, _, h⟩ := h
  obtain ⟨x, fs⟩ := ex
  cases fs with
  | none => exact .rf a
  | some ds =>
    obtain ⟨d, fs, rfl, h1, h2⟩ := h
    exact .exc h1 h2
def wTry (x : Str) (i : Nat) (wb : WXB) (sw : Addr → Option Addr → WS) : WS := fun d ρ => wb d (fun ex => ex.cls = x ∧
  ∀ (a : Addr) (od : Option Addr), (ex.fs.isSome = od.isSome) → sw a od { nx := fun ρ' => d.nx (ρ'.set i .un), rt := d.rt, bk := fun ρ' => d.bk (ρ'.set i .un), ct := fun ρ' => d.ct (ρ'.set i .un) } (ρ.set i (.val (ex.slot a od)))) ρ
theorem Lk.still {c : Wc} {r : Rt} {d : DEnds} {E : Ends} (L : Lk c k r d E) (O : ∀ {Z H σ ρ}, Ok c k.still r Z H σ ρ → Ok c k r Z H σ ρ) : Lk c k.still r d E := ⟨fun Z H σ ρ O1 h => L.nx Z H σ ρ (O O1) h, L.rt, fun Z H σ ρ O1 h => L.bk Z H σ ρ (O O1) h, fun Z H σ ρ O1 h => L.ct Z H σ ρ (O O1) h⟩
theorem Ok.unstill {c : Wc} {k' : Cc} {r : Rt} {Z H Z2 H2 : Hp} {σ σ2 : L2.St} {ρ ρ2 : En} (O : Ok c k r Z H σ ρ) (O2 : Ok c k' r Z2 H2 σ2 ρ2) : Ok c k r Z2 H2 σ2 ρ2 := ⟨O2.en, O2.s0, O2.lb, O2.sl, O2.ow, O2.ds, O.lk⟩
theorem ds_try {i : Nat} {x n : Str} {C : Addr} {wb : WXB} {sw : Addr → Option Addr → WS} {b₀ : Stmt} {body suite : List Stmt} {np pos' tpos : Pos}
    (hN : X.N.Nodup) (hm0 : X.mg x = some (.ref C)) (hex : PySem.W.exmOne X.K (.ref C) (.ref C) = some true)
    (hbd : ∀ (pn : List (Addr × Obj)) (xe : Value → Shared → Prop), DXB (X.tr pn xe) k body wb)
    (hsu : ∀ (a : Addr) (od : Option Addr) (oe : Obj) (pn : List (Addr × Obj)), Zc (.ref C) od oe → (∃ vs, oe.data = .fields vs) → DB (X.suite a ((a, oe) :: pn)) k.still (b₀ :: suite) (sw a od))
    (hs : X.stack = X.env :: X.outer := by rfl) (hf : X.env.frame = some X.env.locals := by rfl) (hi : X.N[i]? = some n := by rfl) (hln : X.env.kindOf n = some .local := by rfl) (hc : Gl X x := by rfl) (hxd : (x == ("__debug__" : Str)) = false := by decide) :
    DS X k (.Try body [.ExceptHandler (some (.Name x np)) (some n) (b₀ :: suite) pos'] [] [] tpos) (wTry x i wb sw) := by
  refine ⟨_, ps_try_as (c := .ref C) (tb := fun W => tXB (wc X k.s) k wb W) (ts := fun a cl d => tSc (wc X k.s) k.still cl C (sw a d)) (Wout := fun _ _ _ _ => False) hs hf hN hi hln ⟨hc, hxd, .inl hm0⟩ takes0 (fun W pn xe tk _ => (hbd pn xe).ps (X := X.tr pn xe) tk) (fun a oe cls d pn hz hv => ?_), fun r Z H σ ρ d E O L h => ?_⟩
  · refine ⟨fun pins s σ H E I ⟨ec, r, Z, ρ, dd, O, L, hu⟩ => ?_⟩
    subst ec
    obtain ⟨t, p, f⟩ := hsu a d oe pn hz hv
    exact p.run pins s σ H E I (f r Z H σ ρ dd E O L hu)
  · refine ⟨r, Z, ρ, d, _, O.still, L.still O.unstill, fun ex cls od Z' H' st er hd => ?_, h⟩
    obtain ⟨e1, hsw⟩ := hd
    have er0 := er
    obtain ⟨C', hC, rfl, hfs⟩ := er
    rw [e1] at hC
    have eC : C' = C := by
      have hC2 : X.mg x = some (.ref C') := hC
      rw [hm0] at hC2
      cases hC2 <;> rfl
    subst eC
    have hsome : ex.fs.isSome = od.isSome := by
      cases q : ex.fs with
      | none =>
        rw [q] at hfs
        rw [show od = none from hfs]
        rfl
      | some ds =>
        rw [q] at hfs
        obtain ⟨d, _, rfl, _⟩ := hfs
        rfl
    have O2 := (O.stp st).still
    refine ⟨true, hex, fun _ a ha => ⟨rfl, r, Z', ρ.set i (.val (ex.slot a od)), _, O2.set (Exn.rp er0), ⟨?_, ?_, ?_, ?_⟩, hsw a od hsome⟩, fun z => by cases z⟩
    · exact fun Z3 H3 σ3 ρ3 O3 h3 => L.nx Z3 H3 _ _ (O.back O3) h3
    · exact L.rt
    · exact fun Z3 H3 σ3 ρ3 O3 h3 => L.bk Z3 H3 _ _ (O.back O3) h3
    · exact fun Z3 H3 σ3 ρ3 O3 h3 => L.ct Z3 H3 _ _ (O.back O3) h3
/-- try: .. except X: .. without a name -/
def wTryO (x : Str) (wb : WXB) (sw : WS) : WS := fun d ρ => wb d (fun ex => ex.cls = x ∧ sw d ρ) ρ
theorem ds_tryO {x : Str} {C : Addr} {wb : WXB} {sw : WS} {b₀ : Stmt} {body suite : List Stmt} {np pos' tpos : Pos}
    (hm0 : X.mg x = some (.ref C)) (hex : PySem.W.exmOne X.K (.ref C) (.ref C) = some true)
    (hbd : ∀ (pn : List (Addr × Obj)) (xe : Value → Shared → Prop), DXB (X.tr pn xe) k body wb)
    (hsu : ∀ (a : Addr) (od : Option Addr) (oe : Obj) (pn : List (Addr × Obj)), Zc (.ref C) od oe → (∃ vs, oe.data = .fields vs) → DB (X.suite a ((a, oe) :: pn)) k.still (b₀ :: suite) sw)
    (hs : X.stack = X.env :: X.outer := by rfl) (hf : X.env.frame = some X.env.locals := by rfl) (hc : Gl X x := by rfl) (hxd : (x == ("__debug__" : Str)) = false := by decide) :
    DS X k (.Try body [.ExceptHandler (some (.Name x np)) none (b₀ :: suite) pos'] [] [] tpos) (wTryO x wb sw) := by
  refine ⟨_, ps_try_only (c := .ref C) (tb := fun W => tXB (wc X k.s) k wb W) (ts := fun a cl d => tSc (wc X k.s) k.still cl C sw) (Wout := fun _ _ _ _ => False) hs hf ⟨hc, hxd, .inl hm0⟩ takes0 (fun W pn xe tk _ => (hbd pn xe).ps (X := X.tr pn xe) tk) (fun a oe cls d pn hz hv => ?_), fun r Z H σ ρ d E O L h => ?_⟩
  · refine ⟨fun pins s σ H E I ⟨ec, r, Z, ρ, dd, O, L, hu⟩ => ?_⟩
    subst ec
    obtain ⟨t, p, f⟩ := hsu a d oe pn hz hv
    exact p.run pins s σ H E I (f r Z H σ ρ dd E O L hu)
  · refine ⟨r, Z, ρ, d, _, O.still, L.still O.unstill, fun ex cls od Z' H' st er hd => ?_, h⟩
    obtain ⟨e1, hsw⟩ := hd
    obtain ⟨C', hC, rfl, hfs⟩ := er
    rw [e1] at hC
    have eC : C' = C := by
      have hC2 : X.mg x = some (.ref C') := hC
      rw [hm0] at hC2
      cases hC2 <;> rfl
    subst eC
    exact ⟨true, hex, fun _ a ha => ⟨rfl, r, Z', ρ, _, (O.stp st).still, L.still (O.stp st).unstill, hsw⟩, fun z => by cases z⟩
/-- e.fld in an except suite -/
def wXf (i : Nat) (a : Addr) (od : Option Addr) (fld : Str) : WE := fun ρ Q => Sl.V ρ[i]? fun d => ∃ dd ds v, od = some dd ∧ d = .exc a dd ds ∧ ds.lookup fld = some v ∧ Q v
theorem de_xf {i : Nat} {a C : Addr} {od : Option Addr} {oe : Obj} {pn : List (Addr × Obj)} {n fld : Str} {np : Pos} (T : XfC X.K C) (hno : PySem.W.findIn X.K (.ref C) fld = some none) (hz : Zc (.ref C) od oe) (hf : ∃ vs, oe.data = .fields vs)
    (hi : X.N[i]? = some n := by rfl) (hvis : Vis X.env.scope n := by first | exact Or.inl rfl | exact Or.inr (Or.inl rfl) | exact Or.inr (Or.inr rfl)) (hd : (n == ("__debug__" : Str)) = false := by decide) (hcd : (n == ("__classdict__" : Str)) = false := by decide)
    (hb : attributeBase (.Name n np) fld X.env (eval (.Name n np) X.env) = eval (.Name n np) X.env := by rfl) :
    DE (X.suite a ((a, oe) :: pn)) k (.Attribute (.Name n np) fld pos) (wXf i a od fld) := by
  refine ⟨_, pe_xf T hno hz hf (pe_var (X := X.suite a ((a, oe) :: pn)) hi hvis hd hcd) hb, fun r Z H σ ρ Qd Q O h q => ?_⟩
  obtain ⟨d, e1, dd, ds, v, rfl, rfl, e4, h5⟩ := Sl.V_ex h
  obtain ⟨o, h4, v', rfl, rv⟩ := O.sl i _ e1
  cases rv with
  | exc hZ hr =>
    obtain ⟨w, hw, rw'⟩ := rpf_lookup hr e4
    exact ⟨_, h4, rfl, rfl, dd, _, w, rfl, O.bs.zh _ _ hZ, hw, q _ _ Z H (.refl O.bs) rw' h5⟩
/-- isinstance(e, c) of an error with a dict, or without -/
def rIsF (K : PySem.W.Frag) (D a : Addr) (od : Option Addr) : List V → Hp → VK → Prop := fun xs H Q => (∀ dd, od = some dd → ∃ fs, H dd = some (.xd fs)) ∧ ∃ (c : V) (cv : Value) (b : Bool), xs = [.ref a, c] ∧ (∀ u, RelV c u → u = cv) ∧ PySem.W.kitOne K (.ref D) cv = some b ∧ Q (.bl b) H
theorem call_isF {D : Addr} {a : Addr} {od : Option Addr} {oe : Obj} {pn : List (Addr × Obj)} (T : ExcC X.K D) (hz : Zc (.ref D) od oe) (hf : ∃ vs, oe.data = .fields vs) : CallR (X.suite a ((a, oe) :: pn)) (.builtin "isinstance") (rIsF X.K D a od) := by
  intro pins s σ H xs us Q I r h
  obtain ⟨hdd, c, cv, b, rfl, hcv, e, q⟩ := h
  cases r with
  | cons rx rr =>
    cases rr with
    | cons rt rr =>
      cases rr
      cases rx
      have ec := hcv _ rt
      subst ec
      have hget := (I.pin (a, oe) (List.mem_append.mpr (.inl List.mem_cons_self))).1
      obtain ⟨vs, hv⟩ := hf
      obtain ⟨cd, hcd, _⟩ := PySem.W.any_some T.hd
      have J : ∃ ox, PySem.W.InstAt s.heap a oe D ox := by
        obtain ⟨oc, od', oda, osl⟩ := oe
        obtain ⟨h1, h2⟩ := hz
        dsimp only at h1 h2 hv
        subst h1 h2 hv
        cases od' with
        | none => exact ⟨none, hget, rfl, rfl, trivial⟩
        | some dd =>
          obtain ⟨fs, hx⟩ := hdd dd rfl
          obtain ⟨mA, ⟨o, _, _, ho, _⟩, _⟩ := I.hok dd _ hx
          exact ⟨some o, hget, rfl, rfl, ho⟩
      obtain ⟨ox, J⟩ := J
      exact PySem.W.kia_one (PySem.W.kitx_exc (by rw [hcd]; rfl) T.hg T.hk T.hs T.ha T.hn T.ht T.hm) I.kIn J e (fun z => nomatch z) fun tk => ⟨.bl b, H, I.kept (t' := tk) fun _ _ z => z, rfl, q⟩
def wIsF (i : Nat) (a : Addr) (od : Option Addr) : WE := fun ρ Q => Sl.V ρ[i]? fun d => ((od = none ∧ d = .rf a) ∨ ∃ dd ds, od = some dd ∧ d = .exc a dd ds) ∧ Q (.bl true)
theorem de_isF {i : Nat} {a D : Addr} {od : Option Addr} {oe : Obj} {pn : List (Addr × Obj)} {n : Str} {ce : Expr} {np : Pos} {v : V} {cv : Value} (T : ExcC X.K D) (hz : Zc (.ref D) od oe) (hf : ∃ vs, oe.data = .fields vs) (hk : PySem.W.kitOne X.K (.ref D) cv = some true)
    (hv : ∀ u, RelV v u → u = cv) (hce : PE (X.suite a ((a, oe) :: pn)) ce (tC v)) (hm : X.mg "isinstance" = none) (hi : X.N[i]? = some n := by rfl) (hvis : Vis X.env.scope n := by first | exact Or.inl rfl | exact Or.inr (Or.inl rfl) | exact Or.inr (Or.inr rfl)) (hd : (n == ("__debug__" : Str)) = false := by decide)
    (hcd : (n == ("__classdict__" : Str)) = false := by decide) (hg : Gl X "isinstance" := by rfl)
    (h1 : starEach [.Name n np, ce] (X.suite a ((a, oe) :: pn)).env = (false, eval (.Name n np) (X.suite a ((a, oe) :: pn)).env) :: starEach [ce] (X.suite a ((a, oe) :: pn)).env := by rfl)
    (h2 : starEach [ce] (X.suite a ((a, oe) :: pn)).env = (false, eval ce (X.suite a ((a, oe) :: pn)).env) :: starEach [] (X.suite a ((a, oe) :: pn)).env := by rfl)
    (h3 : (backTo pos (starEach [ce] (X.suite a ((a, oe) :: pn)).env)).any (·.1) = false := by rfl) :
    DE (X.suite a ((a, oe) :: pn)) k (.Call (.Name "isinstance" p) [.Name n np, ce] [] pos) (wIsF i a od) := by
  refine ⟨_, pe_callB (X := X.suite a ((a, oe) :: pn)) (call_isF T hz hf) hg hm PyProof.Rows.boot_isinstance (pa_cons (pe_var (X := X.suite a ((a, oe) :: pn)) hi hvis hd hcd) (pa_cons hce pa_nil h2) h1) (by decide) (by decide) h1 h3, fun r Z H σ ρ Qd Q O h q => ?_⟩
  obtain ⟨d, e1, e2, e3⟩ := Sl.V_ex h
  obtain ⟨o, h4, v', rfl, h5⟩ := O.sl i _ e1
  rcases e2 with ⟨rfl, rfl⟩ | ⟨dd, ds, rfl, rfl⟩
  · cases h5
    exact ⟨_, h4, fun _ z => (nomatch z), v, cv, true, rfl, hv, hk, q _ _ Z H (.refl O.bs) (.bl true) e3⟩
  · cases h5 with
    | exc hZ hr =>
      exact ⟨_, h4, fun _ z => by cases z; exact ⟨_, O.bs.zh _ _ hZ⟩, v, cv, true, rfl, hv, hk, q _ _ Z H (.refl O.bs) (.bl true) e3⟩
end
end Dl
set_option Elab.async false
set_option linter.all false
set_option maxRecDepth 100000
set_option maxHeartbeats 2000000
namespace Dl
open PySem PySem.Spec PyProof.Rows L2
section
variable {X : Cx} {k : Cc} {a b e c : Expr} {es : List Expr} {wa wb w wc' : WE} {pos p p1 p2 pos2 : Pos} {rest : List Stmt}
/-! ### an instance of an own class is made -/
/-- the promise of an __init__ that keeps its arguments under the names fs -/
def spInit (C : Addr) (fs : List Str) : Sp := fun vs H Q _ => ∃ x dx ws, vs = .ref x :: ws ∧ ws.length = fs.length ∧ H x = some (.ins C dx []) ∧ H dx = some (.own x) ∧ dx ≠ x ∧ Q .non (upd H x (.ins C dx (fs.zip ws)))
theorem lt_put {f : Str} {v : V} : ∀ {fs : List (Str × V)} {m : Nat}, fs.length < m → (putF f v fs).length < m + 1
  | [], m, h => Nat.succ_lt_succ h
  | (g, x) :: r, m, h => by
    unfold putF
    split
    · exact Nat.lt_succ_of_lt h
    · cases m with
      | zero => cases h
      | succ m => exact Nat.succ_lt_succ (lt_put (Nat.lt_of_succ_lt_succ h))
theorem rpf_zip {c : Wc} {Z : Hp} : ∀ {fs : List Str} {vs : List V} {ds : List D}, RpA c Z vs ds → RpF c Z (fs.zip vs) (fs.zip ds)
  | [], _, _, _ => by simp only [List.zip_nil_left]; exact .nil
  | _ :: _, _, _, .nil => by simp only [List.zip_nil_right]; exact .nil
  | _ :: _, _, _, .cons h r => by simp only [List.zip_cons_cons]; exact .cons h (rpf_zip r)
def wMake (n : Str) (fs : List Str) (u : WA) : WE := fun ρ Q => u ρ fun ds => ds.length = fs.length ∧ Q (.ins n (fs.zip ds))
theorem de_make {x : Str} {C f : Addr} {n : Nat} {fd : FuncData} {ps fs : List Str} {u : WA} (M : Mk X.K C f) (F : FnOk X.prog X.w X.K X.mg X.base CX0 n f fd ps (spInit C fs)) (hr : Room (n + 1) X.A) (hm : X.mg x = some (.ref C)) (hb : Binds X.K fd ps []) (ha : DA X k (e :: es) u)
    (hg : Gl X x := by rfl) (hdb : (x == ("__debug__" : Str)) = false := by decide) (he : starEach (e :: es) X.env = (false, eval e X.env) :: starEach es X.env := by rfl) (hpl : (backTo pos (starEach es X.env)).any (·.1) = false := by rfl) :
    DE X k (.Call (.Name x p) (e :: es) [] pos) (wMake x fs u) := by
  obtain ⟨t, pa, g⟩ := ha
  refine ⟨_, pe_make (ds := []) (dvs := []) (E := fun _ _ _ => False) M F hr hg hm hb .nil pass0 pa hdb he hpl, fun r Z H σ ρ Qd Q O h q => ?_⟩
  refine g r Z H σ ρ _ _ O h fun ds vs Z1 H1 s1 r1 h1 => ?_
  intro y dx hy hdx hne
  rw [List.append_nil]
  refine ⟨y, dx, vs, rfl, by rw [r1.length]; exact h1.1, upd_same, by rw [upd_ne hne, upd_same], hne, rfl, ?_⟩
  rw [upd_upd]
  have s2 := s1.trans (.own (o := .own y) s1.bs hdx) O.bs.st
  have hy2 : upd H1 dx (.own y) y = none := by
    rw [upd_ne hne.symm]
    exact hy
  have s3 := Stp.add (o := .ins C dx (fs.zip vs)) s2.bs hy2
  exact q _ _ _ _ (s2.trans s3 O.bs.st) (.ins hm upd_same ((rpf_zip r1).mono s3.zz)) h1.2
/-! ### tuple(x), list(x) -/
def rdCtuple : RAD := fun ds Q => match ds with
  | [.lst xs] => Q (.tup xs)
  | [.tup xs] => Q (.tup xs)
  | _ => False
theorem rpa_one {c : Wc} {Z : Hp} {vs : List V} {d : D} (h : RpA c Z vs [d]) : ∃ v, vs = [v] ∧ Rp c Z v d := by
  cases h with
  | cons h r =>
    cases r
    exact ⟨_, rfl, h⟩
theorem de_Ctuple {u : WA} (hm : X.mg "tuple" = none) (ha : DA X k [e] u) (hg : Gl X "tuple" := by rfl) (he : starEach [e] X.env = (false, eval e X.env) :: starEach [] X.env := by rfl) : DE X k (.Call (.Name "tuple" p) [e] [] pos) (wCB rdCtuple u) := by
  refine de_ty call_tuple_of (fun Z H xs ds Qd Q B ra h q => ?_) hm PyProof.Rows.boot_tuple ha hg (by decide) (by decide) he rfl
  match ds, h with
  | [.lst ys], h =>
    obtain ⟨v, rfl, rv⟩ := rpa_one ra
    cases rv with
    | lst hs hr => exact ⟨_, _, rfl, .inl ⟨.inl (.inl (B.zh _ _ hs)), fun l hl => q _ _ _ _ (.add B hl) (rp_tup hr B hl) h⟩⟩
  | [.tup ys], h =>
    obtain ⟨v, rfl, rv⟩ := rpa_one ra
    cases rv with
    | tup hs hr => exact ⟨_, _, rfl, .inr ⟨same_t B.zh hs, q _ _ Z H (.refl B) (.tup hs hr) h⟩⟩
def rdClist : RAD := fun ds Q => match ds with
  | [.lst xs] => Q (.lst xs)
  | [.tup xs] => Q (.lst xs)
  | _ => False
theorem de_Clist {u : WA} (hm : X.mg "list" = none) (ha : DA X k [e] u) (hg : Gl X "list" := by rfl) (he : starEach [e] X.env = (false, eval e X.env) :: starEach [] X.env := by rfl) : DE X k (.Call (.Name "list" p) [e] [] pos) (wCB rdClist u) := by
  refine de_ty call_list_of (fun Z H xs ds Qd Q B ra h q => ?_) hm PyProof.Rows.boot_list ha hg (by decide) (by decide) he rfl
  match ds, h with
  | [.lst ys], h =>
    obtain ⟨v, rfl, rv⟩ := rpa_one ra
    cases rv with
    | lst hs hr => exact ⟨_, _, rfl, .inl (.inl (.inl (B.zh _ _ hs))), fun l hl => q _ _ _ _ (.add B hl) (rp_lst hr B hl) h⟩
  | [.tup ys], h =>
    obtain ⟨v, rfl, rv⟩ := rpa_one ra
    cases rv with
    | tup hs hr => exact ⟨_, _, rfl, .inr (same_t B.zh hs), fun l hl => q _ _ _ _ (.add B hl) (rp_lst hr B hl) h⟩
/-- str(i) -/
def rdCstr : RAD := fun ds Q => match ds with
  | [.int i] => i.natAbs.log2 < 1920 ∧ Q (.str (toString i))
  | _ => False
theorem de_Cstr {u : WA} (hm : X.mg "str" = none) (ha : DA X k [e] u) (hg : Gl X "str" := by rfl) (he : starEach [e] X.env = (false, eval e X.env) :: starEach [] X.env := by rfl) : DE X k (.Call (.Name "str" p) [e] [] pos) (wCB rdCstr u) := by
  refine de_ty call_str_int (fun Z H xs ds Qd Q B ra h q => ?_) hm PyProof.Rows.boot_str ha hg (by decide) (by decide) he rfl
  match ds, h with
  | [.int i], h =>
    obtain ⟨v, rfl, rv⟩ := rpa_one ra
    cases rv
    exact ⟨i, rfl, h.1, q _ _ Z H (.refl B) (.str _) h.2⟩
theorem pv0 {i : Nat} {x : Str} (hN : X.N[i]? = some x := by rfl) (hv : Vis X.env.scope x := by first | exact Or.inl rfl | exact Or.inr (Or.inl rfl) | exact Or.inr (Or.inr rfl)) (hd : (x == ("__debug__" : Str)) = false := by decide) (hcd : (x == ("__classdict__" : Str)) = false := by decide) : PE X (.Name x pos) (tVar i) := pe_var hN hv hd hcd
end
end Dl
set_option Elab.async false
set_option linter.all false
set_option maxRecDepth 100000
set_option maxHeartbeats 2000000
namespace Dl
open PySem PySem.Spec PyProof.Rows L2
/-! ### dicts with keys that are texts or ints -/
def D.key : D → Option Key
  | .str s => some (.inr s)
  | .int i => some (.inl i)
  | _ => none
def getT (kvs : List (Key × D)) (k : Key) : Option D := (kvs.find? fun kv => decide (kv.1 = k)).map (·.2)
def putT (kvs : List (Key × D)) (k : Key) (v : D) : List (Key × D) :=
  if (kvs.any fun p => decide (p.1 = k)) = true
  then kvs.map fun p => if p.1 = k then (p.1, v) else p
  else kvs ++ [(k, v)]
section
variable {c : Wc} {Z : Hp}
theorem key_v {d : D} {key : Key} {v : V} (h : Rp c Z v d) (e : d.key = some key) : v = kV key := by
  cases h <;> simp only [D.key, Option.some.injEq] at e <;> first | (subst e; rfl) | cases e
theorem rpk_get {k : Key} : ∀ {xs : List (Key × V)} {ds : List (Key × D)}, RpK c Z xs ds → (getT ds k = none ∧ valV xs k = none) ∨ ∃ d v, getT ds k = some d ∧ valV xs k = some v ∧ Rp c Z v d
  | _, _, .nil => .inl ⟨rfl, rfl⟩
  | _, _, .cons (k := j) (v := v) (d := d) h r => by
    unfold getT valV
    by_cases e : j = k
    · right
      refine ⟨d, v, ?_, ?_, h⟩ <;> rw [List.find?_cons_of_pos (by simpa using e)] <;> rfl
    · rw [List.find?_cons_of_neg (by simpa using e), List.find?_cons_of_neg (by simpa using e)]
      exact rpk_get r
theorem rpk_any {k : Key} : ∀ {xs : List (Key × V)} {ds : List (Key × D)}, RpK c Z xs ds → (xs.any fun kv => decide (kv.1 = k)) = (ds.any fun kv => decide (kv.1 = k))
  | _, _, .nil => rfl
  | _, _, .cons h r => by rw [List.any_cons, List.any_cons, rpk_any r]
theorem rpk_map {k : Key} {v : V} {d : D} (hv : Rp c Z v d) : ∀ {xs : List (Key × V)} {ds : List (Key × D)}, RpK c Z xs ds → RpK c Z (xs.map fun kv => if kv.1 = k then (kv.1, v) else kv) (ds.map fun kv => if kv.1 = k then (kv.1, d) else kv)
  | _, _, .nil => .nil
  | _, _, .cons (k := j) h r => by
    rw [List.map_cons, List.map_cons]
    by_cases e : j = k
    · rw [if_pos e, if_pos e]
      exact .cons hv (rpk_map hv r)
    · rw [if_neg e, if_neg e]
      exact .cons h (rpk_map hv r)
theorem rpk_app {k : Key} {v : V} {d : D} (hv : Rp c Z v d) : ∀ {xs : List (Key × V)} {ds : List (Key × D)}, RpK c Z xs ds → RpK c Z (xs ++ [(k, v)]) (ds ++ [(k, d)])
  | _, _, .nil => .cons hv .nil
  | _, _, .cons h r => .cons h (rpk_app hv r)
theorem rpk_put {k : Key} {v : V} {d : D} {xs : List (Key × V)} {ds : List (Key × D)} (h : RpK c Z xs ds) (hv : Rp c Z v d) : RpK c Z (putK xs k v) (putT ds k d) := by
  unfold putK putT
  rw [rpk_any h]
  split
  · exact rpk_map hv h
  · exact rpk_app hv h
theorem rpk_len : ∀ {xs : List (Key × V)} {ds : List (Key × D)}, RpK c Z xs ds → xs.length = ds.length
  | _, _, .nil => rfl
  | _, _, .cons _ r => by rw [List.length_cons, List.length_cons, rpk_len r]
end
section
variable {X : Cx} {k : Cc} {a b e c : Expr} {es : List Expr} {wa wb w wc' : WE} {pos p p1 p2 pos2 : Pos} {rest : List Stmt}
/-- x[i] = v, x a dict of the def's own -/
def wDPut (i : Nat) (wi w : WE) : WS := fun d ρ => Sl.OD ρ[i]? fun kvs => w ρ fun v => wi ρ fun kd => ∃ key, kd.key = some key ∧ kvs.length ≤ 100000 ∧ d.nx (ρ.set i (.od (putT kvs key v)))
theorem ds_dput {i : Nat} {x : Str} {npos pos' : Pos} (hu : X.A.units + 1 < cLine) (h : DE X k e w) (hk : DE X k a wa) (hi : X.N[i]? = some x := by rfl) (hv : Vis X.env.scope x := by first | exact Or.inl rfl | exact Or.inr (Or.inl rfl) | exact Or.inr (Or.inr rfl)) (hd : (x == ("__debug__" : Str)) = false := by decide) (hcd : (x == ("__classdict__" : Str)) = false := by decide)
    (hs : swapsWith e (some (.Subscript (.Name x npos) a pos')) pos.line X.env = pure false := by rfl) : DS X k (.Assign [.Subscript (.Name x npos) a pos'] e pos) (wDPut i wa w) := by
  obtain ⟨t, pe, f⟩ := h
  obtain ⟨t2, pk, f2⟩ := hk
  refine ⟨_, ps_dput hu (pe_var hi hv hd hcd) pk pe hs, fun r Z H σ ρ d E O L h => ?_⟩
  obtain ⟨ds, e1, h⟩ := Sl.OD_ex h
  obtain ⟨o, h2, a', vs, rfl, h3, h4⟩ := O.sl i _ e1
  obtain ⟨z1, z2, z3⟩ := O.ow i _ a' e1 rfl h2
  refine f r Z H σ ρ _ _ O h fun y v Z1 H1 s1 r1 h1 => ?_
  refine ⟨_, h2, f2 r Z1 H1 σ ρ _ _ (O.stp s1) h1 fun kd u Z2 H2 s2 r2 h2' => ?_⟩
  obtain ⟨key, ek, hl, hn⟩ := h2'
  have s12 := s1.trans s2 O.bs.st
  have h5 := s12.hh a' _ h3 z3
  refine ⟨a', _, rfl, .inl ⟨vs, key, h5, key_v r2 ek, ?_, rfl⟩, L.nx Z2 _ σ _ ((O.stp s12).chg e1 rfl h2 (t' := .od (putT ds key y)) rfl ⟨a', _, rfl, upd_same, rpk_put (h4.mono s12.zz) (r1.mono s2.zz)⟩) hn⟩
  rw [rpk_len h4]
  exact Nat.lt_of_le_of_lt hl (by decide)
/-- d[i], i in d, d.get(i), d.get(i, z): d a tree -/
def rdDGet : R2D := fun d kd Q => d.K fun kvs => ∃ key v, kd.key = some key ∧ getT kvs key = some v ∧ Q v
theorem rp_dic {c : Wc} {Z : Hp} {v : V} {kvs : List (Key × D)} (h : Rp c Z v (.dic kvs)) : ∃ a xs, v = .ref a ∧ Rd Z a (.dK xs) ∧ RpK c Z xs kvs := by
  cases h with
  | dic h r => exact ⟨_, _, rfl, h, r⟩
theorem de_dget (hu : X.A.units + 1 < cLine) (ha : DE X k a wa) (hb : DE X k b wb) (hs : NoSl b := by intro _ _; rfl) : DE X k (.Subscript a b pos) (wOp rdDGet wa wb) := by
  obtain ⟨t, pa, f⟩ := ha
  obtain ⟨t2, pb, f2⟩ := hb
  refine ⟨_, pe_dget hu pa pb hs, fun r Z H σ ρ Qd Q O h q => ?_⟩
  refine f r Z H σ ρ _ _ O h fun x v Z1 H1 s1 r1 h1 => ?_
  refine f2 r Z1 H1 σ ρ _ _ (O.stp s1) h1 fun y u Z2 H2 s2 r2 h2 => ?_
  obtain ⟨kvs, rfl, key, dv, ek, eg, hq⟩ := D.K_ex h2
  obtain ⟨a', xs, rfl, hd, hr⟩ := rp_dic (r1.mono s2.zz)
  rcases rpk_get (k := key) hr with ⟨z, _⟩ | ⟨dv', v', e1, e2, e3⟩
  · rw [eg] at z
    cases z
  · rw [eg] at e1
    cases e1
    exact ⟨a', v', rfl, .inl ⟨xs, key, rd_mono s2.bs.zh hd, key_v r2 ek, e2.symm⟩, q dv v' Z2 H2 (s1.trans s2 O.bs.st) e3 hq⟩
def rdDIn : R2D := fun kd d Q => d.K fun kvs => ∃ key, kd.key = some key ∧ Q (.bl (getT kvs key).isSome)
theorem din_core {t t2 : TE} (pa : PE X a t) (pb : PE X b t2) (f : ∀ (r : Rt) (Z H : Hp) (σ : L2.St) (ρ : En) (Qd : D → Prop) (Q : VK), Ok (wc X k.s) k r Z H σ ρ → wa ρ Qd → (∀ d v Z' H', Stp k.s Z H Z' H' → Rp (wc X k.s) Z' v d → Qd d → Q v H') → t σ H Q)
    (f2 : ∀ (r : Rt) (Z H : Hp) (σ : L2.St) (ρ : En) (Qd : D → Prop) (Q : VK), Ok (wc X k.s) k r Z H σ ρ → wb ρ Qd → (∀ d v Z' H', Stp k.s Z H Z' H' → Rp (wc X k.s) Z' v d → Qd d → Q v H') → t2 σ H Q)
    {r : Rt} {Z H : Hp} {σ : L2.St} {ρ : En} {Qd : D → Prop} {Q : VK} (O : Ok (wc X k.s) k r Z H σ ρ) (h : wOp rdDIn wa wb ρ Qd) (q : ∀ d v Z' H', Stp k.s Z H Z' H' → Rp (wc X k.s) Z' v d → Qd d → Q v H') : tDIn t t2 σ H Q := by
  refine f r Z H σ ρ _ _ O h fun x v Z1 H1 s1 r1 h1 => ?_
  refine f2 r Z1 H1 σ ρ _ _ (O.stp s1) h1 fun y u Z2 H2 s2 r2 h2 => ?_
  obtain ⟨kvs, rfl, key, ek, hq⟩ := D.K_ex h2
  obtain ⟨a', xs, rfl, hd, hr⟩ := rp_dic r2
  refine ⟨a', valV xs key, rfl, .inl ⟨xs, key, rd_mono s2.bs.zh hd, key_v (r1.mono s2.zz) ek, rfl⟩, ?_⟩
  rcases rpk_get (k := key) hr with ⟨z, z2⟩ | ⟨dv', v', e1, e2, e3⟩
  · rw [z] at hq
    rw [z2]
    exact q _ _ Z2 H2 (s1.trans s2 O.bs.st) (.bl _) hq
  · rw [e1] at hq
    rw [e2]
    exact q _ _ Z2 H2 (s1.trans s2 O.bs.st) (.bl _) hq
theorem de_din (hu : X.A.units + 1 < cLine) (ha : DE X k a wa) (hb : DE X k b wb) (hm : behindInMarks .In b = false := by rfl) : DE X k (.Compare a [.In] [b] pos) (wOp rdDIn wa wb) := by
  obtain ⟨t, pa, f⟩ := ha
  obtain ⟨t2, pb, f2⟩ := hb
  exact ⟨_, pe_cmp (pc_din hu pa pb) hm, fun r Z H σ ρ Qd Q O h q => din_core pa pb f f2 O h q⟩
theorem dt_din (hu : X.A.units + 1 < cLine) (ha : DE X k a wa) (hb : DE X k b wb) (hm : behindInMarks .In b = false := by rfl) : DT X k (.Compare a [.In] [b] pos) (wB (wOp rdDIn wa wb)) := by
  obtain ⟨t, pa, f⟩ := ha
  obtain ⟨t2, pb, f2⟩ := hb
  refine ⟨_, pt_cmp (pc_din hu pa pb) hm, fun r Z H σ ρ Qd Q O h q => ?_⟩
  refine din_core (Qd := fun d => d.B Qd) pa pb f f2 O h fun d v Z' H' s rv hd => ?_
  obtain ⟨i, rfl, hd⟩ := D.B_ex hd
  cases rv
  exact ⟨i, rfl, q i Z' H' s hd⟩
def wDGet2 (wd wk wz : WE) : WE := fun ρ Q => wd ρ fun d => d.K fun kvs => wk ρ fun kd => wz ρ fun z => ∃ key, kd.key = some key ∧ Q ((getT kvs key).getD z)
theorem de_get2 {o e f : Expr} {apos : Pos} {wd wk wz : WE} (hu : X.A.units + 1 < cLine) (m : M2 X o "get" apos e f pos) (hd : DE X k o wd) (hk : DE X k e wk) (hz : DE X k f wz) : DE X k (.Call (.Attribute o "get" apos) [e, f] [] pos) (wDGet2 wd wk wz) := by
  obtain ⟨t, pa, f1⟩ := hd
  obtain ⟨t2, pb, f2⟩ := hk
  obtain ⟨t3, pc, f3⟩ := hz
  refine ⟨_, pe_dget2 hu pa pb pc m, fun r Z H σ ρ Qd Q O h q => ?_⟩
  refine f1 r Z H σ ρ _ _ O h fun x v Z1 H1 s1 r1 h1 => ?_
  obtain ⟨kvs, rfl, h1⟩ := D.K_ex h1
  obtain ⟨a', xs, rfl, hd, hr⟩ := rp_dic r1
  refine ⟨a', rfl, .inl ⟨xs, rd_mono s1.bs.zh hd⟩, f2 r Z1 H1 σ ρ _ _ (O.stp s1) h1 fun y u Z2 H2 s2 r2 h2 => ?_⟩
  have s12 := s1.trans s2 O.bs.st
  refine f3 r Z2 H2 σ ρ _ _ (O.stp s12) h2 fun z w Z3 H3 s3 r3 h3 => ?_
  obtain ⟨key, ek, hq⟩ := h3
  have s13 := s12.trans s3 O.bs.st
  have hr3 := hr.mono (s2.trans s3 s1.bs.st).zz
  refine ⟨valV xs key, .inl ⟨xs, key, rd_mono s3.bs.zh (rd_mono (s2.trans s3 s1.bs.st).zz hd), key_v r2 ek, rfl⟩, ?_⟩
  rcases rpk_get (k := key) hr3 with ⟨z1, z2⟩ | ⟨dv', v', e1, e2, e3⟩
  · rw [z1] at hq
    rw [z2]
    exact q _ _ Z3 H3 s13 r3 hq
  · rw [e1] at hq
    rw [e2]
    exact q _ _ Z3 H3 s13 e3 hq
def wDGet1 (wd wk : WE) : WE := fun ρ Q => wd ρ fun d => d.K fun kvs => wk ρ fun kd => ∃ key, kd.key = some key ∧ Q ((getT kvs key).getD .non)
theorem de_get1 {o e : Expr} {apos : Pos} {wd wk : WE} (hu : X.A.units + 1 < cLine) (m : M1 X o "get" apos e pos) (hd : DE X k o wd) (hk : DE X k e wk) : DE X k (.Call (.Attribute o "get" apos) [e] [] pos) (wDGet1 wd wk) := by
  obtain ⟨t, pa, f1⟩ := hd
  obtain ⟨t2, pb, f2⟩ := hk
  refine ⟨_, pe_dget1 hu pa pb m, fun r Z H σ ρ Qd Q O h q => ?_⟩
  refine f1 r Z H σ ρ _ _ O h fun x v Z1 H1 s1 r1 h1 => ?_
  obtain ⟨kvs, rfl, h1⟩ := D.K_ex h1
  obtain ⟨a', xs, rfl, hd, hr⟩ := rp_dic r1
  refine ⟨a', rfl, .inl ⟨xs, rd_mono s1.bs.zh hd⟩, f2 r Z1 H1 σ ρ _ _ (O.stp s1) h1 fun y u Z2 H2 s2 r2 h2 => ?_⟩
  obtain ⟨key, ek, hq⟩ := h2
  have s12 := s1.trans s2 O.bs.st
  refine ⟨valV xs key, .inl ⟨xs, key, rd_mono s2.bs.zh (rd_mono s2.zz hd), key_v r2 ek, rfl⟩, ?_⟩
  rcases rpk_get (k := key) (hr.mono s2.zz) with ⟨z1, z2⟩ | ⟨dv', v', e1, e2, e3⟩
  · rw [z1] at hq
    rw [z2]
    exact q _ _ Z2 H2 s12 .non hq
  · rw [e1] at hq
    rw [e2]
    exact q _ _ Z2 H2 s12 e3 hq
/-- s.find(t, i) -/
def wFind (w u v : WE) : WE := fun ρ Q => w ρ fun d => d.S fun z => u ρ fun y => y.S fun t => v ρ fun j => j.I fun i => Q (.int (Txt.find3 z t i))
theorem de_find {o e f : Expr} {apos : Pos} {u v : WE} (h : DE X k o w) (h2 : DE X k e u) (h3 : DE X k f v) (hbase : attributeBase o "find" X.env (eval o X.env) = eval o X.env := by rfl) (hline : (apos.endLine == pos.line) = true := by rfl)
    (s1 : starEach [e, f] X.env = (false, eval e X.env) :: starEach [f] X.env := by rfl) (s2 : starEach [f] X.env = (false, eval f X.env) :: starEach [] X.env := by rfl)
    (pb : ∀ {to : TE} {ta : TA} {r : V → List V → Hp → VK → Prop}, MtR X "str.find" r → PE X o to → PA X [e, f] ta → PE X (.Call (.Attribute o "find" apos) [e, f] [] pos) (tBM X.K "str" r to ta) := by intro _ _ _ m h1 h2; exact pe_bm PySem.F.plainAttrs_str PySem.F.slot_str_find PySem.F.type_str_find m h1 h2) :
    DE X k (.Call (.Attribute o "find" apos) [e, f] [] pos) (wFind w u v) := by
  obtain ⟨t, pa, f1⟩ := h
  obtain ⟨t2, pb2, f2⟩ := h2
  obtain ⟨t3, pc, f3⟩ := h3
  refine ⟨_, pb mt_find3 pa (pa_cons pb2 (pa_cons pc pa_nil s2) s1), fun r Z H σ ρ Qd Q O h q => ?_⟩
  refine f1 r Z H σ ρ _ _ O h fun x v Z1 H1 s1 r1 h1 => ?_
  obtain ⟨z, rfl, h1⟩ := D.S_ex h1
  cases r1
  refine ⟨rfl, f2 r Z1 H1 σ ρ _ _ (O.stp s1) h1 fun y u Z2 H2 s2 r2 h2 => ?_⟩
  obtain ⟨y, rfl, h2⟩ := D.S_ex h2
  cases r2
  have s12 := s1.trans s2 O.bs.st
  refine f3 r Z2 H2 σ ρ _ _ (O.stp s12) h2 fun j w Z3 H3 s3 r3 h3 => ?_
  obtain ⟨i, rfl, h3⟩ := D.I_ex h3
  cases r3
  exact ⟨z, y, i, rfl, rfl, q _ _ Z3 H3 (s12.trans s3 O.bs.st) (.int _) h3⟩
def rdDNotIn : R2D := fun kd d Q => d.K fun kvs => ∃ key, kd.key = some key ∧ Q (.bl (!(getT kvs key).isSome))
theorem dnotin_core {t t2 : TE} (f : ∀ (r : Rt) (Z H : Hp) (σ : L2.St) (ρ : En) (Qd : D → Prop) (Q : VK), Ok (wc X k.s) k r Z H σ ρ → wa ρ Qd → (∀ d v Z' H', Stp k.s Z H Z' H' → Rp (wc X k.s) Z' v d → Qd d → Q v H') → t σ H Q)
    (f2 : ∀ (r : Rt) (Z H : Hp) (σ : L2.St) (ρ : En) (Qd : D → Prop) (Q : VK), Ok (wc X k.s) k r Z H σ ρ → wb ρ Qd → (∀ d v Z' H', Stp k.s Z H Z' H' → Rp (wc X k.s) Z' v d → Qd d → Q v H') → t2 σ H Q)
    {r : Rt} {Z H : Hp} {σ : L2.St} {ρ : En} {Qd : D → Prop} {Q : VK} (O : Ok (wc X k.s) k r Z H σ ρ) (h : wOp rdDNotIn wa wb ρ Qd) (q : ∀ d v Z' H', Stp k.s Z H Z' H' → Rp (wc X k.s) Z' v d → Qd d → Q v H') : tDNotIn t t2 σ H Q := by
  refine f r Z H σ ρ _ _ O h fun x v Z1 H1 s1 r1 h1 => ?_
  refine f2 r Z1 H1 σ ρ _ _ (O.stp s1) h1 fun y u Z2 H2 s2 r2 h2 => ?_
  obtain ⟨kvs, rfl, key, ek, hq⟩ := D.K_ex h2
  obtain ⟨a', xs, rfl, hd, hr⟩ := rp_dic r2
  refine ⟨a', valV xs key, rfl, .inl ⟨xs, key, rd_mono s2.bs.zh hd, key_v (r1.mono s2.zz) ek, rfl⟩, ?_⟩
  rcases rpk_get (k := key) hr with ⟨z, z2⟩ | ⟨dv', v', e1, e2, e3⟩
  · rw [z] at hq
    rw [z2]
    exact q _ _ Z2 H2 (s1.trans s2 O.bs.st) (.bl _) hq
  · rw [e1] at hq
    rw [e2]
    exact q _ _ Z2 H2 (s1.trans s2 O.bs.st) (.bl _) hq
theorem de_dnotin (hu : X.A.units + 1 < cLine) (ha : DE X k a wa) (hb : DE X k b wb) (hm : behindInMarks .NotIn b = false := by rfl) : DE X k (.Compare a [.NotIn] [b] pos) (wOp rdDNotIn wa wb) := by
  obtain ⟨t, pa, f⟩ := ha
  obtain ⟨t2, pb, f2⟩ := hb
  exact ⟨_, pe_cmp (pc_dnotin hu pa pb) hm, fun r Z H σ ρ Qd Q O h q => dnotin_core f f2 O h q⟩
theorem dt_dnotin (hu : X.A.units + 1 < cLine) (ha : DE X k a wa) (hb : DE X k b wb) (hm : behindInMarks .NotIn b = false := by rfl) : DT X k (.Compare a [.NotIn] [b] pos) (wB (wOp rdDNotIn wa wb)) := by
  obtain ⟨t, pa, f⟩ := ha
  obtain ⟨t2, pb, f2⟩ := hb
  refine ⟨_, pt_cmp (pc_dnotin hu pa pb) hm, fun r Z H σ ρ Qd Q O h q => ?_⟩
  refine dnotin_core (Qd := fun d => d.B Qd) f f2 O h fun d v Z' H' s rv hd => ?_
  obtain ⟨i, rfl, hd⟩ := D.B_ex hd
  cases rv
  exact ⟨i, rfl, q i Z' H' s hd⟩
end
end Dl
set_option Elab.async false
set_option linter.all false
set_option maxRecDepth 100000
set_option maxHeartbeats 2000000
namespace Dl
open PySem PySem.Spec PyProof.Rows L2
/-! ### a dict is locked while it is walked -/
structure LkS (Z Z' : Hp) : Prop where
  st : ∀ a u, Z a = some u → (∀ kvs, u ≠ .dK kvs) → (∀ o kvs, u ≠ .frz o (.dK kvs)) → Z' a = some u
  di : ∀ a kvs, Rd Z a (.dK kvs) → Rd Z' a (.dK kvs)
section
variable {c : Wc} {Z Z' : Hp}
theorem LkS.seqT (e : LkS Z Z') {K : PySem.W.Frag} {a : Addr} {xs : List V} (h : SqT K Z a xs) : SqT K Z' a xs := by
  rcases h with (h | ⟨o, h⟩) | h
  · exact .inl (.inl (e.st _ _ h (fun _ z => by cases z) (fun _ _ z => by cases z)))
  · exact .inl (.inr ⟨o, e.st _ _ h (fun _ z => by cases z) (fun _ _ z => by cases z)⟩)
  · exact .inr h
theorem LkS.seqL (e : LkS Z Z') {K : PySem.W.Frag} {a : Addr} {xs : List V} (h : SqL K Z a xs) : SqL K Z' a xs := by
  rcases h with (h | ⟨o, h⟩) | h
  · exact .inl (.inl (e.st _ _ h (fun _ z => by cases z) (fun _ _ z => by cases z)))
  · exact .inl (.inr ⟨o, e.st _ _ h (fun _ z => by cases z) (fun _ _ z => by cases z)⟩)
  · exact .inr h
mutual
theorem Rp.lks (e : LkS Z Z') : ∀ {v : V} {d : D}, Rp c Z v d → Rp c Z' v d
  | _, _, .non => .non
  | _, _, .bl b => .bl b
  | _, _, .int i => .int i
  | _, _, .str x => .str x
  | _, _, .lst h r => .lst (e.st _ _ h (fun _ z => by cases z) (fun _ _ z => by cases z)) (RpA.lks e r)
  | _, _, .tup h r => .tup (e.seqT h) (RpA.lks e r)
  | _, _, .dic h r => .dic (e.di _ _ h) (RpK.lks e r)
  | _, _, .ins n h r => .ins n (e.st _ _ h (fun _ z => by cases z) (fun _ _ z => by cases z)) (RpF.lks e r)
  | _, _, .drw => .drw
  | _, _, .scr h => .scr (e.seqL h)
  | _, _, .ty n => .ty n
  | _, _, .rf a => .rf a
  | _, _, .exc h r => .exc (e.st _ _ h (fun _ z => by cases z) (fun _ _ z => by cases z)) (RpF.lks e r)
theorem RpA.lks (e : LkS Z Z') : ∀ {v : List V} {d : List D}, RpA c Z v d → RpA c Z' v d
  | _, _, .nil => .nil
  | _, _, .cons h r => .cons (Rp.lks e h) (RpA.lks e r)
theorem RpK.lks (e : LkS Z Z') : ∀ {v : List (Key × V)} {d : List (Key × D)}, RpK c Z v d → RpK c Z' v d
  | _, _, .nil => .nil
  | _, _, .cons h r => .cons (Rp.lks e h) (RpK.lks e r)
theorem RpF.lks (e : LkS Z Z') : ∀ {v : List (Str × V)} {d : List (Str × D)}, RpF c Z v d → RpF c Z' v d
  | _, _, .nil => .nil
  | _, _, .cons h r => .cons (Rp.lks e h) (RpF.lks e r)
end
theorem lks_lock {a : Addr} {o : Obj} {xs : List (Key × V)} (h : Z a = some (.dK xs)) : LkS Z (upd Z a (.frz o (.dK xs))) :=
  ⟨fun b u hb n1 n2 => by
    by_cases e : b = a
    · subst e
      rw [h] at hb
      cases hb
      exact absurd rfl (n1 _)
    · rw [upd_ne e]
      exact hb, fun b kvs hb => by
    by_cases e : b = a
    · subst e
      rcases hb with hb | ⟨_, hb⟩
      · rw [h] at hb
        cases hb
        exact .inr ⟨o, upd_same⟩
      · rw [h] at hb
        cases hb
    · rcases hb with hb | ⟨o', hb⟩
      · exact .inl (by rw [upd_ne e]; exact hb)
      · exact .inr ⟨o', by rw [upd_ne e]; exact hb⟩⟩
theorem lks_free {a : Addr} {o : Obj} {xs : List (Key × V)} (h : Z a = some (.frz o (.dK xs))) : LkS Z (upd Z a (.dK xs)) :=
  ⟨fun b u hb n1 n2 => by
    by_cases e : b = a
    · subst e
      rw [h] at hb
      cases hb
      exact absurd rfl (n2 _ _)
    · rw [upd_ne e]
      exact hb, fun b kvs hb => by
    by_cases e : b = a
    · subst e
      rcases hb with hb | ⟨_, hb⟩
      · rw [h] at hb
        cases hb
      · rw [h] at hb
        cases hb
        exact .inl upd_same
    · rcases hb with hb | ⟨o', hb⟩
      · exact .inl (by rw [upd_ne e]; exact hb)
      · exact .inr ⟨o', by rw [upd_ne e]; exact hb⟩⟩
end
/-- the heap with the object at a, if there is one, as u -/
def lkA (F : Hp) (a : Addr) (u : HO) : Hp := fun b => if b = a then (F a).map fun _ => u else F b
theorem lkA_ne {F : Hp} {a b : Addr} {u : HO} (h : b ≠ a) : lkA F a u b = F b := if_neg h
theorem lkA_none {F : Hp} {a b : Addr} {u : HO} (h : F b = none) : lkA F a u b = none := by
  by_cases e : b = a
  · subst e
    show (if b = b then _ else _) = _
    rw [if_pos rfl, h]
    rfl
  · rw [lkA_ne e]
    exact h
theorem lkA_some {F : Hp} {a : Addr} {u o : HO} (h : F a = some o) : lkA F a u a = some u := by
  show (if a = a then _ else _) = _
  rw [if_pos rfl, h]
  rfl
theorem lkA_inv {F : Hp} {a : Addr} {u o : HO} (h : lkA F a u a = some o) : o = u ∧ ∃ o', F a = some o' := by
  have h' : (F a).map (fun _ => u) = some o := by
    have z : (if a = a then (F a).map (fun _ => u) else F a) = some o := h
    rw [if_pos rfl] at z
    exact z
  cases q : F a with
  | none => rw [q] at h'; cases h'
  | some o' =>
    rw [q] at h'
    exact ⟨(Option.some.inj h').symm, o', rfl⟩
section
variable {c : Wc} {k : Cc} {r : Rt} {Z H Z' H' : Hp} {σ σ' : L2.St} {ρ ρ' : En} {a : Addr} {xs : List (Key × V)} {od : Obj}
def Rt.lock (r : Rt) (a : Addr) (u : HO) (Zl : Hp) : Rt := ⟨lkA r.Z0 a u, lkA r.H0 a u, Zl⟩
theorem Ok.ne_s (O : Ok c k r Z H σ ρ) (h : Z a = some u) : a ≠ c.s := fun z => by
  subst z
  rw [O.bs.zs] at h
  cases h
theorem bs_lock (O : Ok c k r Z H σ ρ) (h : Z a = some (.dK xs)) : Bs c.s (upd Z a (.frz od (.dK xs))) (upd H a (.frz od (.dK xs))) := by
  have ne := O.ne_s h
  refine ⟨fun b u hb => ?_, ?_, by rw [upd_ne ne.symm]; exact O.bs.zs⟩
  · by_cases e : b = a
    · subst e
      rw [upd_same] at hb ⊢
      exact hb
    · rw [upd_ne e] at hb ⊢
      exact O.bs.zh _ _ hb
  · obtain ⟨i, j, h1, h2, h3⟩ := O.bs.st
    exact ⟨i, j, by rw [upd_ne ne.symm]; exact h1, h2, h3⟩
theorem Ok.lock (O : Ok c k r Z H σ ρ) (h : Z a = some (.dK xs)) : Ok c k.still (r.lock a (.frz od (.dK xs)) (upd Z a (.frz od (.dK xs)))) (upd Z a (.frz od (.dK xs))) (upd H a (.frz od (.dK xs))) σ ρ := by
  have ne := O.ne_s h
  have hH := O.bs.zh _ _ h
  refine ⟨⟨fun b u hb => ?_, bs_lock O h, fun b u hb => ?_, fun b u hb hs => ?_⟩, ?_, Same.refl _, fun i t ht => ?_, fun i t b ht ho hb => ?_, O.ds, fun _ _ _ _ _ _ _ z => z.elim⟩
  · by_cases e : b = a
    · subst e
      obtain ⟨rfl, _⟩ := lkA_inv (show lkA r.Z0 b _ b = some u from hb)
      exact upd_same
    · rw [upd_ne e]
      exact O.en.zz _ _ ((lkA_ne e).symm.trans (show lkA r.Z0 a _ b = some u from hb))
  · by_cases e : b = a
    · subst e
      rw [upd_same] at hb
      cases hb
      rcases O.en.nw _ _ h with q | q
      · exact .inl (lkA_some q)
      · exact .inr (lkA_none q)
    · rw [upd_ne e] at hb
      rcases O.en.nw _ _ hb with q | q
      · exact .inl ((lkA_ne e).trans q)
      · exact .inr (lkA_none q)
  · by_cases e : b = a
    · subst e
      obtain ⟨rfl, _⟩ := lkA_inv (show lkA r.H0 b _ b = some u from hb)
      exact upd_same
    · rw [upd_ne e]
      exact O.en.hh _ _ ((lkA_ne e).symm.trans (show lkA r.H0 a _ b = some u from hb)) hs
  · obtain ⟨i, j, h1, h2, h3⟩ := O.s0
    exact ⟨i, j, (lkA_ne ne.symm).trans h1, h2, h3⟩
  · obtain ⟨o, h1, h2⟩ := O.sl i t ht
    refine ⟨o, h1, ?_⟩
    cases t with
    | un => trivial
    | val d =>
      obtain ⟨v, e1, e2⟩ := h2
      exact ⟨v, e1, e2.lks (lks_lock h)⟩
    | ol ds =>
      obtain ⟨b, vs, e1, e2, e3⟩ := h2
      have hb : b ≠ a := fun z => by
        subst z
        rw [hH] at e2
        cases e2
      exact ⟨b, vs, e1, by rw [upd_ne hb]; exact e2, e3.lks (lks_lock h)⟩
    | od ds =>
      obtain ⟨b, vs, e1, e2, e3⟩ := h2
      have hb : b ≠ a := fun z => by
        subst z
        have q := (O.ow i _ b ht rfl (by rw [h1, e1])).1
        rw [h] at q
        cases q
      exact ⟨b, vs, e1, by rw [upd_ne hb]; exact e2, e3.lks (lks_lock h)⟩
  · obtain ⟨q1, q2, q3⟩ := O.ow i t b ht ho hb
    have hb : b ≠ a := fun z => by
      subst z
      rw [h] at q1
      cases q1
    exact ⟨by rw [upd_ne hb]; exact q1, lkA_none q2, q3⟩
theorem Ok.free {Zl : Hp} (O : Ok c k r Z H σ ρ) (h : Z a = some (.dK xs)) (hl : Zl a = some (.frz od (.dK xs))) (O' : Ok c k.still (r.lock a (.frz od (.dK xs)) Zl) Z' H' σ' ρ') (hlz : ∀ b u, b ≠ a → r.Zl b = some u → Zl b = some u) :
    H' a = some (.frz od (.dK xs)) ∧ Ok c k r (upd Z' a (.dK xs)) (upd H' a (.dK xs)) σ' ρ' := by
  have ne := O.ne_s h
  have hZ' : Z' a = some (.frz od (.dK xs)) := O'.lb _ _ hl
  have hH' := O'.bs.zh _ _ hZ'
  have hH := O.bs.zh _ _ h
  refine ⟨hH', ⟨⟨fun b u hb => ?_, ⟨fun b u hb => ?_, ?_, by rw [upd_ne ne.symm]; exact O'.bs.zs⟩, fun b u hb => ?_, fun b u hb hs => ?_⟩, O.s0, fun b u hb => ?_, fun i t ht => ?_, fun i t b ht ho hb => ?_, O'.ds, O.lk⟩⟩
  · by_cases e : b = a
    · subst e
      have q := O.en.zz _ _ hb
      rw [h] at q
      cases q
      exact upd_same
    · rw [upd_ne e]
      exact O'.en.zz _ _ ((lkA_ne e).trans hb)
  · by_cases e : b = a
    · subst e
      rw [upd_same] at hb ⊢
      exact hb
    · rw [upd_ne e] at hb ⊢
      exact O'.bs.zh _ _ hb
  · obtain ⟨i, j, h1, h2, h3⟩ := O'.bs.st
    exact ⟨i, j, by rw [upd_ne ne.symm]; exact h1, h2, h3⟩
  · by_cases e : b = a
    · subst e
      rw [upd_same] at hb
      cases hb
      exact O.en.nw _ _ h
    · rw [upd_ne e] at hb
      rcases O'.en.nw _ _ hb with q | q
      · exact .inl ((lkA_ne e).symm.trans q)
      · exact .inr ((lkA_ne e).symm.trans q)
  · by_cases e : b = a
    · subst e
      have q := O.en.hh _ _ hb hs
      rw [hH] at q
      cases q
      exact upd_same
    · rw [upd_ne e]
      exact O'.en.hh _ _ ((lkA_ne e).trans hb) hs
  · by_cases e : b = a
    · subst e
      have q := O.lb _ _ hb
      rw [h] at q
      cases q
      exact upd_same
    · rw [upd_ne e]
      exact O'.lb _ _ (hlz b u e hb)
  · obtain ⟨o, h1, h2⟩ := O'.sl i t ht
    refine ⟨o, h1, ?_⟩
    cases t with
    | un => trivial
    | val d =>
      obtain ⟨v, e1, e2⟩ := h2
      exact ⟨v, e1, e2.lks (lks_free hZ')⟩
    | ol ds =>
      obtain ⟨b, vs, e1, e2, e3⟩ := h2
      have hb : b ≠ a := fun z => by
        subst z
        rw [hH'] at e2
        cases e2
      exact ⟨b, vs, e1, by rw [upd_ne hb]; exact e2, e3.lks (lks_free hZ')⟩
    | od ds =>
      obtain ⟨b, vs, e1, e2, e3⟩ := h2
      have hb : b ≠ a := fun z => by
        subst z
        rw [hH'] at e2
        cases e2
      exact ⟨b, vs, e1, by rw [upd_ne hb]; exact e2, e3.lks (lks_free hZ')⟩
  · obtain ⟨q1, q2, q3⟩ := O'.ow i t b ht ho hb
    have hb : b ≠ a := fun z => by
      subst z
      rw [hZ'] at q1
      cases q1
    exact ⟨by rw [upd_ne hb]; exact q1, (lkA_ne hb).symm.trans q2, q3⟩
theorem Ok.freeE (O : Ok c k r Z H σ ρ) (h : Z a = some (.dK xs)) (e' : Stp c.s (lkA r.Z0 a (.frz od (.dK xs))) (lkA r.H0 a (.frz od (.dK xs))) Z' H') (hZ' : Z' a = some (.frz od (.dK xs))) : Stp c.s r.Z0 r.H0 (upd Z' a (.dK xs)) (upd H' a (.dK xs)) := by
  have ne := O.ne_s h
  have hH := O.bs.zh _ _ h
  refine ⟨fun b u hb => ?_, ⟨fun b u hb => ?_, ?_, by rw [upd_ne ne.symm]; exact e'.bs.zs⟩, fun b u hb => ?_, fun b u hb hs => ?_⟩
  · by_cases e : b = a
    · subst e
      have q := O.en.zz _ _ hb
      rw [h] at q
      cases q
      exact upd_same
    · rw [upd_ne e]
      exact e'.zz _ _ ((lkA_ne e).trans hb)
  · by_cases e : b = a
    · subst e
      rw [upd_same] at hb ⊢
      exact hb
    · rw [upd_ne e] at hb ⊢
      exact e'.bs.zh _ _ hb
  · obtain ⟨i, j, h1, h2, h3⟩ := e'.bs.st
    exact ⟨i, j, by rw [upd_ne ne.symm]; exact h1, h2, h3⟩
  · by_cases e : b = a
    · subst e
      rw [upd_same] at hb
      cases hb
      exact O.en.nw _ _ h
    · rw [upd_ne e] at hb
      rcases e'.nw _ _ hb with q | q
      · exact .inl ((lkA_ne e).symm.trans q)
      · exact .inr ((lkA_ne e).symm.trans q)
  · by_cases e : b = a
    · subst e
      have q := O.en.hh _ _ hb hs
      rw [hH] at q
      cases q
      exact upd_same
    · rw [upd_ne e]
      exact e'.hh _ _ ((lkA_ne e).trans hb) hs
theorem Ok.freeL {Zl : Hp} (O : Ok c k r Z H σ ρ) (h : Z a = some (.dK xs)) (l' : Same Zl Z') (hl : ∀ b, b ≠ a → Zl b = Z b) : Same r.Zl (upd Z' a (.dK xs)) := fun b u hb => by
  by_cases e : b = a
  · subst e
    have q := O.lb _ _ hb
    rw [h] at q
    cases q
    exact upd_same
  · rw [upd_ne e]
    exact l' _ _ ((hl b e).trans (O.lb _ _ hb))
end
end Dl
set_option Elab.async false
set_option linter.all false
set_option maxRecDepth 100000
set_option maxHeartbeats 2000000
namespace Dl
open PySem PySem.Spec PyProof.Rows L2
section
variable {X : Cx} {k : Cc} {a b e c : Expr} {es : List Expr} {wa wb w wc' : WE} {pos p p1 p2 pos2 : Pos} {rest : List Stmt} {u : WS}
/-! ### what is read without a change, also from a heap with locked dicts -/
def DP (X : Cx) (k : Cc) (e : Expr) (w : WE) : Prop := ∃ t, PE X e t ∧ ∀ (r : Rt) (Z H : Hp) (σ : L2.St) (ρ : En) (Qd : D → Prop), Ok (wc X k.s) k r Z H σ ρ → w ρ Qd →
  ∃ v d, Rp (wc X k.s) Z v d ∧ Qd d ∧ ∀ (Z' H' : Hp) (Q : VK), LkS Z Z' → Same Z' H' → Q v H' → t σ H' Q
theorem LkS.refl (Z : Hp) : LkS Z Z := ⟨fun _ _ h _ _ => h, fun _ _ h => h⟩
theorem DP.de (h : DP X k e w) : DE X k e w := by
  obtain ⟨t, p, f⟩ := h
  refine ⟨t, p, fun r Z H σ ρ Qd Q O h q => ?_⟩
  obtain ⟨v, d, h1, h2, h3⟩ := f r Z H σ ρ Qd O h
  exact h3 Z H Q (.refl Z) O.bs.zh (q d v Z H (.refl O.bs) h1 h2)
theorem dp_var {i : Nat} {x : Str} (hN : X.N[i]? = some x := by rfl) (hv : Vis X.env.scope x := by first | exact Or.inl rfl | exact Or.inr (Or.inl rfl) | exact Or.inr (Or.inr rfl)) (hd : (x == ("__debug__" : Str)) = false := by decide) (hcd : (x == ("__classdict__" : Str)) = false := by decide) : DP X k (.Name x pos) (wVar i) := by
  refine ⟨_, pe_var hN hv hd hcd, fun r Z H σ ρ Qd O h => ?_⟩
  obtain ⟨d, e1, h1⟩ := Sl.V_ex h
  obtain ⟨o, h2, v, rfl, h3⟩ := O.sl i _ e1
  exact ⟨v, d, h3, h1, fun Z' H' Q _ _ q => ⟨v, h2, q⟩⟩
theorem dp_str {x : Str} {j : Nat} : DP X k (.Constant (.str x) j pos) (wC (.str x)) := ⟨_, pe_str, fun r Z H σ ρ Qd O h => ⟨_, _, .str x, h, fun _ _ _ _ _ q => q⟩⟩
theorem dp_fld {n f : Str} {C : Addr} (hm : X.mg n = some (.ref C)) (hc : Cls X.K C) (hn : NoAttr X.K C f) (h : DP X k e w) (hb : attributeBase e f X.env (eval e X.env) = eval e X.env := by rfl) : DP X k (.Attribute e f pos) (wFld n f w) := by
  obtain ⟨t, p, g⟩ := h
  refine ⟨_, pe_fld p hb, fun r Z H σ ρ Qd O h => ?_⟩
  obtain ⟨v, d, h1, h2, h3⟩ := g r Z H σ ρ _ O h
  obtain ⟨fs, x, rfl, hl, h4⟩ := D.F_ex h2
  cases h1 with
  | ins m hz hr =>
    have e : X.mg n = _ := m
    rw [hm] at e
    cases e
    obtain ⟨y, e2, e3⟩ := rpf_lookup hr hl
    exact ⟨y, x, e3, h4, fun Z' H' Q lk sm q => h3 Z' H' _ lk sm ⟨_, _, _, _, y, rfl, sm _ _ (lk.st _ _ hz (fun _ z => by cases z) (fun _ _ z => by cases z)), hc, hn, e2, q⟩⟩
theorem dp_dget (hu : X.A.units + 1 < cLine) (ha : DP X k a wa) (hb : DP X k b wb) (hs : NoSl b := by intro _ _; rfl) : DP X k (.Subscript a b pos) (wOp rdDGet wa wb) := by
  obtain ⟨t, pa, f⟩ := ha
  obtain ⟨t2, pb, f2⟩ := hb
  refine ⟨_, pe_dget hu pa pb hs, fun r Z H σ ρ Qd O h => ?_⟩
  obtain ⟨v, d, h1, h2, h3⟩ := f r Z H σ ρ _ O h
  obtain ⟨v', d', h1', h2', h3'⟩ := f2 r Z H σ ρ _ O h2
  obtain ⟨kvs, rfl, key, dv, ek, eg, hq⟩ := D.K_ex h2'
  obtain ⟨a', xs, rfl, hd, hr⟩ := rp_dic h1
  rcases rpk_get (k := key) hr with ⟨z, _⟩ | ⟨dv', y, e1, e2, e3⟩
  · rw [eg] at z
    cases z
  · rw [eg] at e1
    cases e1
    exact ⟨y, dv, e3, hq, fun Z' H' Q lk sm q => h3 Z' H' _ lk sm (h3' Z' H' _ lk sm ⟨a', y, rfl, .inl ⟨xs, key, rd_mono sm (lk.di _ _ hd), key_v h1' ek, e2.symm⟩, q⟩)⟩
/-! ### for over a dict -/
theorem ps_or {st : Stmt} {t1 t2 : TS} (h1 : PS X st t1) (h2 : PS X st t2) : PS X st (fun D σ H => t1 D σ H ∨ t2 D σ H) :=
  ⟨fun pins s σ H D I h => by
    rcases h with h | h
    · exact h1.run pins s σ H D I h
    · exact h2.run pins s σ H D I h⟩
theorem for_core {g : WG} {g' : TG} {tb : TS} {us : List Nat} {r : Rt} {Z1 H1 : Hp} {σ : L2.St} {ρ : En} {d : DEnds} {E : Ends} {J : It} {ds : List D}
    (fg : ∀ (r : Rt) (Z H : Hp) (σ : L2.St) (ρ : En) (v : V) (d : D) (Qd : En → Prop) (Q : L2.St → Hp → Prop), Ok (wc X k.s) k r Z H σ ρ → Rp (wc X k.s) Z v d → g d ρ Qd → (∀ σ' ρ', Ok (wc X k.s) k r Z H σ' ρ' → (∀ vs, (∀ i ∈ us, i ∈ vs) → wipe σ' vs = wipe σ vs) → Qd ρ' → Q σ' H) → g' v σ H Q)
    (fb : ∀ (r : Rt) (Z H : Hp) (σ : L2.St) (ρ : En) (d : DEnds) (E : Ends), Ok (wc X k.s) k r Z H σ ρ → Lk (wc X k.s) k r d E → u d ρ → tb E σ H)
    (O : Ok (wc X k.s) k r Z1 H1 σ ρ) (L : Lk (wc X k.s) k r d E) (it : ItD (wc X k.s) Z1 J ds) (h : wForL g u ds d ρ) :
    ∃ W : Nat → Nat → L2.St → Hp → Prop, (∃ m, W 0 m σ H1) ∧ ∀ i m σ H, W i m σ H → (J.stop i H ∧ E.nx σ H) ∨ (J.go i H ∧ ∃ N : L2.St → Hp → Prop, (∀ σ' H', N σ' H' → ∃ m', m' < m ∧ W (i + 1) m' σ' H') ∧ ∀ x H', J.yld i H x H' → g' x σ H' fun σ2 H2 => tb { E with nx := N, ct := N, bk := E.nx } σ2 H2) := by
  have lw : Same r.Zl Z1 := O.lb
  refine ⟨fun i m σ' H' => ∃ Z' ρ', Ok (wc X k.s) k { r with Zl := Z1 } Z' H' σ' ρ' ∧ wForL g u (ds.drop i) d ρ' ∧ i ≤ ds.length ∧ m = ds.length - i, ⟨_, Z1, ρ, O.raise, h, Nat.zero_le _, rfl⟩, ?_⟩
  rintro i m σ' H' ⟨Z', ρ', O', h', hi, rfl⟩
  obtain ⟨go, stop, yld⟩ := it Z' H' O'.lb O'.bs
  by_cases hlt : i < ds.length
  · refine .inr ⟨go i hlt, fun σ2 H2 => ∃ Z2 ρ2, Ok (wc X k.s) k { r with Zl := Z1 } Z2 H2 σ2 ρ2 ∧ wForL g u (ds.drop (i + 1)) d ρ2, ?_, ?_⟩
    · rintro σ2 H2 ⟨Z2, ρ2, O2, h2⟩
      exact ⟨_, by omega, Z2, ρ2, O2, h2, hlt, rfl⟩
    · intro x H2 y
      obtain ⟨dx, Z3, e1, s3, r3⟩ := yld i x H2 y hlt
      have e2 : ds.drop i = dx :: ds.drop (i + 1) := by
        rw [List.drop_eq_getElem_cons hlt]
        rw [List.getElem?_eq_getElem hlt] at e1
        rw [Option.some.inj e1]
      rw [e2] at h'
      refine fg _ Z3 H2 σ' ρ' x dx _ _ (O'.stp s3) r3 h' fun σ4 ρ4 O4 _ h4 => ?_
      refine fb _ Z3 H2 σ4 ρ4 _ _ O4 ⟨?_, ?_, ?_, ?_⟩ h4
      · exact fun Z5 H5 σ5 ρ5 O5 h5 => ⟨Z5, ρ5, O5, h5⟩
      · exact fun Z5 H5 v5 x5 e5 l5 => L.rt Z5 H5 v5 x5 e5 (lw.trans l5)
      · exact fun Z5 H5 σ5 ρ5 O5 h5 => L.nx Z5 H5 σ5 ρ5 (O5.lower lw) h5
      · exact fun Z5 H5 σ5 ρ5 O5 h5 => ⟨Z5, ρ5, O5, h5⟩
  · have e : i = ds.length := by omega
    subst e
    refine .inl ⟨stop _ (Nat.le_refl _), L.nx Z' H' σ' ρ' (O'.lower lw) ?_⟩
    rw [List.drop_length] at h'
    exact h'
def keyD : Key → D
  | .inl i => .int i
  | .inr s => .str s
theorem rp_key {c : Wc} {Z : Hp} (key : Key) : Rp c Z (kV key) (keyD key) := by
  cases key with
  | inl i => exact .int i
  | inr s => exact .str s
theorem rpk_at {c : Wc} {Z : Hp} : ∀ {xs : List (Key × V)} {ds : List (Key × D)} (i : Nat) {key : Key} {v : V}, RpK c Z xs ds → xs[i]? = some (key, v) → ∃ d, ds[i]? = some (key, d) ∧ Rp c Z v d
  | _, _, i, _, _, .nil, h => by simp at h
  | _, _, 0, _, _, .cons h _, e => by
    rw [List.getElem?_cons_zero] at e
    cases e
    exact ⟨_, rfl, h⟩
  | _, _, i + 1, _, _, .cons _ r, e => by
    rw [List.getElem?_cons_succ] at e
    obtain ⟨d, h1, h2⟩ := rpk_at i r e
    exact ⟨d, by rw [List.getElem?_cons_succ]; exact h1, h2⟩
theorem itd_keys {c : Wc} {Z : Hp} {a : Addr} {o : Obj} {xs : List (Key × V)} {ds : List (Key × D)} (h : Z a = some (.frz o (.dK xs))) (hr : RpK c Z xs ds) : ItD c Z (Itk a o xs) (ds.map fun kv => keyD kv.1) := by
  intro Z2 H2 e b
  have h2 := b.zh _ _ (e _ _ h)
  have hl := rpk_len hr
  refine ⟨fun i hi => ⟨h2, by rw [List.length_map, ← hl] at hi; exact hi⟩, fun i hi => ⟨h2, by rw [List.length_map, ← hl] at hi; exact hi⟩, fun i x H' y hi => ?_⟩
  obtain ⟨rfl, key, v, e1, rfl⟩ := y
  obtain ⟨d, e2, e3⟩ := rpk_at i hr e1
  exact ⟨keyD key, Z2, by rw [List.getElem?_map, e2]; rfl, .refl b, rp_key key⟩
def wiK (w : WE) : WA := fun ρ Q => w ρ fun d => d.K fun kvs => Q (kvs.map fun kv => keyD kv.1)
theorem ds_forK {tg it : Expr} {body : List Stmt} {w : WE} {g : WG} {us : List Nat} (hp : PassesOwn (model X.prog X.w) X.A X.env X.xe) (hi : DP X k it w) (hg : DG X k.still tg us g) (hb : DB X k.still body u) (hc : X.calm = true := by rfl)
    (hs : ∀ x, foldedSetIterable it X.env x = pure x := by intro _; rfl) : DS X k (.For tg it body [] pos) (wFor (wiK w) g u) := by
  obtain ⟨ti, pi, fi⟩ := hi
  obtain ⟨g', pg, fg⟩ := hg
  obtain ⟨tb, pb, fb⟩ := hb
  refine ⟨_, ps_or (ps_lock (ps_for hp hc (pi_keys pi) pg pb hs)) (ps_for hp hc (pi_keys pi) pg pb hs), fun r Z H σ ρ d E O L h => ?_⟩
  obtain ⟨v, dd, h1, h2, h3⟩ := fi r Z H σ ρ _ O h
  obtain ⟨kvs, rfl, h4⟩ := D.K_ex h2
  obtain ⟨a, xs, rfl, hd, hr⟩ := rp_dic h1
  rcases hd with hd | ⟨o, hd⟩
  · refine .inl ⟨a, .dK xs, O.bs.zh _ _ hd, trivial, fun od => ?_⟩
    have hr' : RpK (wc X k.s) (upd Z a (.frz od (.dK xs))) xs kvs := hr.lks (lks_lock hd)
    have OL := O.lock (od := od) hd
    refine h3 _ _ _ (lks_lock hd) OL.bs.zh ⟨a, od, rfl, .inl ⟨xs, upd_same, ?_⟩⟩
    have un : ∀ {Z' H' σ' ρ'}, Ok (wc X k.s) k.still (r.lock a (.frz od (.dK xs)) (upd Z a (.frz od (.dK xs)))) Z' H' σ' ρ' → H' a = some (.frz od (.dK xs)) ∧ Ok (wc X k.s) k r (upd Z' a (.dK xs)) (upd H' a (.dK xs)) σ' ρ' := fun O' => O.free hd upd_same O' fun b u hb hz => by rw [upd_ne hb]; exact O.lb _ _ hz
    refine for_core (k := k.still) (d := d) fg fb OL ⟨fun Z' H' σ' ρ' O' h' => ?_, fun Z' H' v x st lb rv h' => ?_, fun Z' H' σ' ρ' O' h' => ?_, fun Z' H' σ' ρ' O' h' => ?_⟩ (itd_keys upd_same hr') h4
    · exact ⟨(un O').1, L.nx _ _ _ _ (un O').2 h'⟩
    · have hz := lb _ _ upd_same
      have hh := st.bs.zh _ _ hz
      exact ⟨hh, L.rt _ _ v x (O.freeE hd st hz) (O.freeL hd lb fun b hb => upd_ne hb) (rv.lks (lks_free hz)) h'⟩
    · exact ⟨(un O').1, L.bk _ _ _ _ (un O').2 h'⟩
    · exact ⟨(un O').1, L.ct _ _ _ _ (un O').2 h'⟩
  · refine .inr (h3 Z H _ (.refl Z) O.bs.zh ⟨a, o, rfl, .inl ⟨xs, O.bs.zh _ _ hd, ?_⟩⟩)
    exact for_core (k := k.still) (d := d) fg fb O.still (L.still O.unstill) (itd_keys hd hr) h4
/-- for a, b in d.items() -/
theorem itd_items {c : Wc} {Z : Hp} {a : Addr} {o : Obj} {xs : List (Key × V)} {ds : List (Key × D)} (h : Z a = some (.frz o (.dK xs))) (hr : RpK c Z xs ds) : ItD c Z (Iti a o xs) (ds.map fun kv => .tup [keyD kv.1, kv.2]) := by
  intro Z2 H2 e b
  have h2 := b.zh _ _ (e _ _ h)
  have hl := rpk_len hr
  refine ⟨fun i hi => ⟨h2, by rw [List.length_map, ← hl] at hi; exact hi⟩, fun i hi => ⟨h2, by rw [List.length_map, ← hl] at hi; exact hi⟩, fun i x H' y hi => ?_⟩
  obtain ⟨T, key, v, e1, rfl, hT, rfl⟩ := y
  obtain ⟨d, e2, e3⟩ := rpk_at i hr e1
  exact ⟨.tup [keyD key, d], _, by rw [List.getElem?_map, e2]; rfl, .add b hT, rp_tup (.cons (rp_key key) (.cons (e3.mono e) .nil)) b hT⟩
def wiI (w : WE) : WA := fun ρ Q => w ρ fun d => d.K fun kvs => Q (kvs.map fun kv => .tup [keyD kv.1, kv.2])
theorem ds_forI {it : Expr} {elts : List Expr} {kk : Nat} {tpos apos cpos : Pos} {body : List Stmt} {w : WE} {g : WG} {us : List Nat} (hp : PassesOwn (model X.prog X.w) X.A X.env X.xe) (hi : DP X k it w) (hg : DG X k.still (.Tuple elts kk tpos) us g) (hb : DB X k.still body u) (hc : X.calm = true := by rfl)
    (hbase : attributeBase it "items" X.env (eval it X.env) = eval it X.env := by rfl) (hline : (apos.endLine == cpos.line) = true := by rfl)
    (hs : ∀ x, foldedSetIterable (.Call (.Attribute it "items" apos) [] [] cpos) X.env x = pure x := by intro _; rfl) : DS X k (.For (.Tuple elts kk tpos) (.Call (.Attribute it "items" apos) [] [] cpos) body [] pos) (wFor (wiI w) g u) := by
  obtain ⟨ti, pi, fi⟩ := hi
  obtain ⟨g', pg, fg⟩ := hg
  obtain ⟨tb, pb, fb⟩ := hb
  refine ⟨_, ps_or (ps_lock (ps_for hp hc (pi_items pi hbase hline) pg pb hs)) (ps_for hp hc (pi_items pi hbase hline) pg pb hs), fun r Z H σ ρ d E O L h => ?_⟩
  obtain ⟨v, dd, h1, h2, h3⟩ := fi r Z H σ ρ _ O h
  obtain ⟨kvs, rfl, h4⟩ := D.K_ex h2
  obtain ⟨a, xs, rfl, hd, hr⟩ := rp_dic h1
  rcases hd with hd | ⟨o, hd⟩
  · refine .inl ⟨a, .dK xs, O.bs.zh _ _ hd, trivial, fun od => ?_⟩
    have hr' : RpK (wc X k.s) (upd Z a (.frz od (.dK xs))) xs kvs := hr.lks (lks_lock hd)
    have OL := O.lock (od := od) hd
    refine h3 _ _ _ (lks_lock hd) OL.bs.zh ⟨a, od, xs, rfl, upd_same, ?_⟩
    have un : ∀ {Z' H' σ' ρ'}, Ok (wc X k.s) k.still (r.lock a (.frz od (.dK xs)) (upd Z a (.frz od (.dK xs)))) Z' H' σ' ρ' → H' a = some (.frz od (.dK xs)) ∧ Ok (wc X k.s) k r (upd Z' a (.dK xs)) (upd H' a (.dK xs)) σ' ρ' := fun O' => O.free hd upd_same O' fun b u hb hz => by rw [upd_ne hb]; exact O.lb _ _ hz
    refine for_core (k := k.still) (d := d) fg fb OL ⟨fun Z' H' σ' ρ' O' h' => ?_, fun Z' H' v x st lb rv h' => ?_, fun Z' H' σ' ρ' O' h' => ?_, fun Z' H' σ' ρ' O' h' => ?_⟩ (itd_items upd_same hr') h4
    · exact ⟨(un O').1, L.nx _ _ _ _ (un O').2 h'⟩
    · have hz := lb _ _ upd_same
      have hh := st.bs.zh _ _ hz
      exact ⟨hh, L.rt _ _ v x (O.freeE hd st hz) (O.freeL hd lb fun b hb => upd_ne hb) (rv.lks (lks_free hz)) h'⟩
    · exact ⟨(un O').1, L.bk _ _ _ _ (un O').2 h'⟩
    · exact ⟨(un O').1, L.ct _ _ _ _ (un O').2 h'⟩
  · refine .inr (h3 Z H _ (.refl Z) O.bs.zh ⟨a, o, xs, rfl, O.bs.zh _ _ hd, ?_⟩)
    exact for_core (k := k.still) (d := d) fg fb O.still (L.still O.unstill) (itd_items hd hr) h4
end
end Dl
set_option Elab.async false
set_option linter.all false
set_option maxRecDepth 100000
set_option maxHeartbeats 2000000
namespace Dl
open PySem PySem.Spec PyProof.Rows L2
/-! ### comprehensions with two for -/
section
variable {c : Wc} {k : Cc} {r : Rt} {Z H Z' H' Z1 H1 Z2 H2 Z3 H3 : Hp} {σ σ' : L2.St} {ρ ρ' : En} {D : Addr}
/-- a step that may change the object at D -/
structure StD (s D : Addr) (Z H Z' H' : Hp) : Prop where
  zz : Same Z Z'
  nw : ∀ a o, Z' a = some o → Z a = some o ∨ H a = none
  hh : ∀ a o, H a = some o → a ≠ s → a ≠ D → H' a = some o
  kp : ∀ a o, H a = some o → ∃ o', H' a = some o'
theorem StD.refl {s : Addr} : StD s D Z H Z H := ⟨Same.refl _, fun _ _ e => .inl e, fun _ _ e _ _ => e, fun _ o e => ⟨o, e⟩⟩
theorem StD.of {s : Addr} (h : Stp s Z H Z' H') : StD s D Z H Z' H' := ⟨h.zz, h.nw, fun a o e n _ => h.hh a o e n, fun a o e => by
  by_cases z : a = s
  · subst z
    obtain ⟨i, j, h1, _⟩ := h.bs.st
    exact ⟨_, h1⟩
  · exact ⟨o, h.hh a o e z⟩⟩
theorem StD.trans {s : Addr} (h : StD s D Z1 H1 Z2 H2) (h2 : StD s D Z2 H2 Z3 H3) : StD s D Z1 H1 Z3 H3 := by
  refine ⟨h.zz.trans h2.zz, fun a o e => ?_, fun a o e n nD => h2.hh a o (h.hh a o e n nD) n nD, fun a o e => ?_⟩
  · rcases h2.nw a o e with e | e
    · exact h.nw a o e
    · right
      cases q : H1 a with
      | none => rfl
      | some o' =>
        obtain ⟨o2, z⟩ := h.kp a o' q
        rw [e] at z
        cases z
  · obtain ⟨o', z⟩ := h.kp a o e
    exact h2.kp a o' z
theorem StD.put {s : Addr} {o : HO} (h : StD s D Z H Z' H') : StD s D Z H Z' (upd H' D o) :=
  ⟨h.zz, h.nw, fun a u e n nD => by rw [upd_ne nD]; exact h.hh a u e n nD, fun a u e => by
    by_cases z : a = D
    · exact ⟨o, by rw [z, upd_same]⟩
    · obtain ⟨o', q⟩ := h.kp a u e
      exact ⟨o', by rw [upd_ne z]; exact q⟩⟩
def Rt.rd (r : Rt) (D : Addr) (avs : List V) : Rt := ⟨r.Z0, upd r.H0 D (.lst avs), r.Zl⟩
theorem en_rd {s : Addr} {avs : List V} (e : Stp s r.Z0 r.H0 Z H) (hd : H D = some (.lst avs)) (zd : Z D = none) : Stp s (r.rd D avs).Z0 (r.rd D avs).H0 Z H :=
  ⟨e.zz, e.bs, fun a o q => by
    rcases e.nw a o q with z | z
    · exact .inl z
    · right
      show upd r.H0 D _ a = none
      rw [upd_ne (fun y => by rw [y, zd] at q; cases q)]
      exact z, fun a o q n => by
    by_cases y : a = D
    · subst y
      rw [show (r.rd a avs).H0 a = some (.lst avs) from upd_same] at q
      cases q
      exact hd
    · rw [show (r.rd D avs).H0 a = r.H0 a from upd_ne y] at q
      exact e.hh a o q n⟩
theorem s0_rd {s : Addr} {avs : List V} (h : StOk s r.H0) (n : s ≠ D) : StOk s (r.rd D avs).H0 := by
  obtain ⟨i, j, h1, h2, h3⟩ := h
  exact ⟨i, j, (upd_ne n).trans h1, h2, h3⟩
/-- ahead of D: as it stands behind, D no own object -/
theorem Ok.rd {avs : List V} (O : Ok c k r Z1 H1 σ ρ) (hD : H1 D = none) (st : Stp c.s Z1 H1 Z H) (hd : H D = some (.lst avs)) (zd : Z D = none) : Ok c k.still (r.rd D avs) Z H σ ρ := by
  have O2 := O.stp st
  refine ⟨en_rd O2.en hd zd, s0_rd O.s0 (O.bs.st.ne hD), O2.lb, O2.sl, fun i t a ht ho ha => ?_, O2.ds, fun _ _ _ _ _ _ _ z => z.elim⟩
  obtain ⟨q1, q2, q3⟩ := O2.ow i t a ht ho ha
  refine ⟨q1, ?_, q3⟩
  have ne : a ≠ D := fun y => by
    subst y
    obtain ⟨o, e1, e2⟩ := O.sl i t ht
    obtain ⟨b, u, e3, e4⟩ := e2.own ho
    rw [e1, e3] at ha
    cases ha
    rw [hD] at e4
    cases e4
  exact (upd_ne ne).trans q2
/-- later, D changed -/
theorem Ok.late {avs avs' : List V} (O4 : Ok c k.still (r.rd D avs) Z H σ' ρ') (s0 : StOk c.s r.H0) (en : Stp c.s r.Z0 r.H0 Z' H') (nD : c.s ≠ D) (hd : H' D = some (.lst avs')) (zd : Z' D = none) (sd : StD c.s D Z H Z' H') : Ok c k.still (r.rd D avs') Z' H' σ' ρ' := by
  have neD : ∀ (i : Nat) (t : Sl) (a : Addr), ρ'[i]? = some t → t.own = true → σ'[i]? = some (some (.ref a)) → a ≠ D := fun i t a ht ho ha y => by
    have q := (O4.ow i t a ht ho ha).2.1
    subst y
    rw [show (r.rd a avs).H0 a = some (.lst avs) from upd_same] at q
    cases q
  refine ⟨en_rd en hd zd, s0_rd s0 nD, O4.lb.trans sd.zz, fun i t ht => ?_, fun i t a ht ho ha => ?_, O4.ds, fun _ _ _ _ _ _ _ z => z.elim⟩
  · obtain ⟨o, h1, h2⟩ := O4.sl i t ht
    refine ⟨o, h1, ?_⟩
    cases t with
    | un => trivial
    | val d =>
      obtain ⟨v, e1, e2⟩ := h2
      exact ⟨v, e1, e2.mono sd.zz⟩
    | ol ds =>
      obtain ⟨b, vs, e1, e2, e3⟩ := h2
      have hb : σ'[i]? = some (some (.ref b)) := by rw [h1, e1]
      exact ⟨b, vs, e1, sd.hh _ _ e2 (O4.ow i _ b ht rfl hb).2.2 (neD i _ b ht rfl hb), e3.mono sd.zz⟩
    | od ds =>
      obtain ⟨b, vs, e1, e2, e3⟩ := h2
      have hb : σ'[i]? = some (some (.ref b)) := by rw [h1, e1]
      exact ⟨b, vs, e1, sd.hh _ _ e2 (O4.ow i _ b ht rfl hb).2.2 (neD i _ b ht rfl hb), e3.mono sd.zz⟩
  · obtain ⟨q1, q2, q3⟩ := O4.ow i t a ht ho ha
    have ne := neD i t a ht ho ha
    obtain ⟨o, e1, e2⟩ := O4.sl i t ht
    obtain ⟨b, u, e3, e4⟩ := e2.own ho
    rw [e1, e3] at ha
    cases ha
    refine ⟨?_, (upd_ne ne).trans ((upd_ne ne).symm.trans q2), q3⟩
    cases z : Z' a with
    | none => rfl
    | some w =>
      rcases sd.nw _ _ z with z1 | z1
      · rw [q1] at z1
        cases z1
      · rw [e4] at z1
        cases z1
end
section
variable {X : Cx} {k : Cc} {a b e c : Expr} {w : WE} {pos : Pos}
def wLcB (g : WG) (wt : WT) (we : WE) (ρ : En) : List D → List D → (List D → Prop) → Prop
  | [], acc, Q => Q acc
  | x :: xs, acc, Q => g x ρ fun ρ1 => wt ρ1 fun b => if b = true then we ρ1 fun y => acc.length ≤ 1000000 ∧ wLcB g wt we ρ xs (acc ++ [y]) Q else wLcB g wt we ρ xs acc Q
def wLcL2 (g : WG) (wt : WT) (wi1 : WA) (g1 : WG) (wt1 : WT) (we : WE) (vs1 : List Nat) (ρ : En) : List D → List D → (List D → Prop) → Prop
  | [], acc, Q => Q acc
  | x :: xs, acc, Q => g x ρ fun ρ1 => wt ρ1 fun b => if b = true then wi1 ρ1 fun ds1 => wLcB g1 wt1 we (wipeD ρ1 vs1) ds1 acc fun acc' => wLcL2 g wt wi1 g1 wt1 we vs1 ρ xs acc' Q else wLcL2 g wt wi1 g1 wt1 we vs1 ρ xs acc Q
def wLc2 (wi : WA) (g : WG) (wt : WT) (wi1 : WA) (g1 : WG) (wt1 : WT) (we : WE) (vs vs1 : List Nat) : WE := fun ρ Q => wi ρ fun ds => wLcL2 g wt wi1 g1 wt1 we vs1 (wipeD ρ vs) ds [] fun ys => Q (.lst ys)
def tIc (c : Wc) (k : Cc) (w : WA) : TI := fun σ H R => ∃ r Z ρ Qd, Ok c k r Z H σ ρ ∧ w ρ Qd ∧ ∀ ds Z' H' J, Stp c.s Z H Z' H' → ItD c Z' J ds → Qd ds → R J H'
theorem DI.pi {tg it : Expr} {w : WA} (h : DI X k tg it w) : PI X tg it (tIc (wc X k.s) k w) := by
  obtain ⟨t, p, f⟩ := h
  exact ⟨fun pins s σ H R I ⟨r, Z, ρ, Qd, O, h, q⟩ => p.run pins s σ H R I (f r Z H σ ρ Qd R O h q)⟩
theorem drop_at {ds : List D} {i : Nat} {d : D} (hlt : i < ds.length) (e1 : ds[i]? = some d) : ds.drop i = d :: ds.drop (i + 1) := by
  rw [List.drop_eq_getElem_cons hlt]
  rw [List.getElem?_eq_getElem hlt] at e1
  rw [Option.some.inj e1]
theorem zd_stp {s D : Addr} {Za Ha Zb Hb : Hp} {o : HO} (st : Stp s Za Ha Zb Hb) (za : Za D = none) (ha : Ha D = some o) : Zb D = none := by
  cases z : Zb D with
  | none => rfl
  | some o =>
    rcases st.nw D o z with z1 | z1
    · rw [za] at z1
      cases z1
    · rw [ha] at z1
      cases z1
theorem lc2_core {wi wi1 : WA} {g g1 : WG} {wt wt1 : WT} {vs vs1 us us1 : List Nat} {ti : TI} (hus : ∀ i ∈ us, i ∈ vs) (hus1 : ∀ i ∈ us1, i ∈ vs1)
    (fi : ∀ (r : Rt) (Z H : Hp) (σ : L2.St) (ρ : En) (Qd : List D → Prop) (R : It → Hp → Prop), Ok (wc X k.s) k r Z H σ ρ → wi ρ Qd → (∀ ds Z' H' J, Stp k.s Z H Z' H' → ItD (wc X k.s) Z' J ds → Qd ds → R J H') → ti σ H R) :
    ∀ (r : Rt) (Z H : Hp) (σ : L2.St) (ρ : En) (Qd : D → Prop) (Q : VK), Ok (wc X k.s) k r Z H σ ρ → wLc2 wi g wt wi1 g1 wt1 w vs vs1 ρ Qd → (∀ d v Z' H', Stp k.s Z H Z' H' → Rp (wc X k.s) Z' v d → Qd d → Q v H') →
      tLc2 ti (tGc (wc X k.s) k.still us g) (tTc (wc X k.s) k.still wt) (tIc (wc X k.s) k.still wi1) (tGc (wc X k.s) k.still us1 g1) (tTc (wc X k.s) k.still wt1) (tEc (wc X k.s) k.still w) vs vs1 σ H Q := by
  intro r Z H σ ρ Qd Q O h q
  refine fi r Z H σ ρ _ _ O h fun ds Z1 H1 J s1 it h1 => ?_
  intro D hD
  have O1 := O.stp s1
  have b1 : StOk k.s H1 := O1.bs.st
  have nD : k.s ≠ D := b1.ne hD
  refine ⟨fun i m H' => ∃ Z' acc avs, Stp k.s Z1 H1 Z' H' ∧ H' D = some (.lst avs) ∧ RpA (wc X k.s) Z' avs acc ∧ Z' D = none ∧ wLcL2 g wt wi1 g1 wt1 w vs1 (wipeD ρ vs) (ds.drop i) acc (fun ys => Qd (.lst ys)) ∧ i ≤ ds.length ∧ m = ds.length - i,
    ⟨_, Z1, [], [], (Stp.refl O1.bs).mut b1 hD (O1.bs.zh.free hD), upd_same, .nil, O1.bs.zh.free hD, h1, Nat.zero_le _, rfl⟩, ?_⟩
  rintro i m H' ⟨Z', acc, avs, st, hd, ra, zd, h', hi, rfl⟩
  obtain ⟨go, stop, yld⟩ := it Z' H' st.zz st.bs
  by_cases hlt : i < ds.length
  · refine .inr ⟨go i hlt, fun H2 => ∃ Z2 acc2 avs2, Stp k.s Z1 H1 Z2 H2 ∧ H2 D = some (.lst avs2) ∧ RpA (wc X k.s) Z2 avs2 acc2 ∧ Z2 D = none ∧ wLcL2 g wt wi1 g1 wt1 w vs1 (wipeD ρ vs) (ds.drop (i + 1)) acc2 (fun ys => Qd (.lst ys)), ?_, ?_⟩
    · rintro H2 ⟨Z2, acc2, avs2, st2, hd2, ra2, zd2, h2⟩
      exact ⟨_, by omega, Z2, acc2, avs2, st2, hd2, ra2, zd2, h2, hlt, rfl⟩
    · intro x H2 y
      obtain ⟨dx, Z3, e1, s3, r3⟩ := yld i x H2 y hlt
      rw [drop_at hlt e1] at h'
      have st3 := st.trans s3 b1
      have hd3 := s3.hh D _ hd (Ne.symm nD)
      have zd3 := zd_stp s3 zd hd
      have O3 := (O1.rd hD st3 hd3 zd3).wipe vs
      refine ⟨r.rd D avs, Z3, wipeD ρ vs, dx, _, O3, r3, h', fun σ4 ρ4 O4 w4 h4 => ?_⟩
      refine ⟨by rw [w4 vs hus, wipe_idem], r.rd D avs, Z3, ρ4, _, O4, h4, fun bb Z5 H5 s5 h5 => ?_⟩
      have st5 := st3.trans s5 b1
      have hd5 := s5.hh D _ hd3 (Ne.symm nD)
      have zd5 := zd_stp s5 zd3 hd3
      cases bb with
      | true =>
        refine iteT ⟨r.rd D avs, Z5, ρ4, _, O4.stp s5, (by simpa using h5), fun ds1 Z6 H6 J1 s6 it1 h6 => ?_⟩
        have O6 := (O4.stp s5).stp s6
        have st6 := st5.trans s6 b1
        have hd6 := s6.hh D _ hd5 (Ne.symm nD)
        have zd6 := zd_stp s6 zd5 hd5
        refine ⟨fun j kk H7 => ∃ Z7 acc7 avs7, Stp k.s Z1 H1 Z7 H7 ∧ StD k.s D Z6 H6 Z7 H7 ∧ H7 D = some (.lst avs7) ∧ RpA (wc X k.s) Z7 avs7 acc7 ∧ Z7 D = none ∧ wLcB g1 wt1 w (wipeD ρ4 vs1) (ds1.drop j) acc7 (fun acc' => wLcL2 g wt wi1 g1 wt1 w vs1 (wipeD ρ vs) (ds.drop (i + 1)) acc' (fun ys => Qd (.lst ys))) ∧ j ≤ ds1.length ∧ kk = ds1.length - j,
          ⟨_, Z6, acc, avs, st6, .refl, hd6, ra.mono ((s3.zz.trans s5.zz).trans s6.zz), zd6, h6, Nat.zero_le _, rfl⟩, ?_⟩
        rintro j kk H7 ⟨Z7, acc7, avs7, st7, sd7, hd7, ra7, zd7, h7, hj, rfl⟩
        obtain ⟨go1, stop1, yld1⟩ := it1 Z7 H7 sd7.zz st7.bs
        by_cases hlt1 : j < ds1.length
        · refine .inr ⟨go1 j hlt1, fun H8 => ∃ Z8 acc8 avs8, Stp k.s Z1 H1 Z8 H8 ∧ StD k.s D Z6 H6 Z8 H8 ∧ H8 D = some (.lst avs8) ∧ RpA (wc X k.s) Z8 avs8 acc8 ∧ Z8 D = none ∧ wLcB g1 wt1 w (wipeD ρ4 vs1) (ds1.drop (j + 1)) acc8 (fun acc' => wLcL2 g wt wi1 g1 wt1 w vs1 (wipeD ρ vs) (ds.drop (i + 1)) acc' (fun ys => Qd (.lst ys))), ?_, ?_⟩
          · rintro H8 ⟨Z8, acc8, avs8, q1, q2, q3, q4, q5, q6⟩
            exact ⟨_, by omega, Z8, acc8, avs8, q1, q2, q3, q4, q5, q6, hlt1, rfl⟩
          · intro x1 H8 y1
            obtain ⟨dx1, Z8, e8, s8, r8⟩ := yld1 j x1 H8 y1 hlt1
            rw [drop_at hlt1 e8] at h7
            have st8 := st7.trans s8 b1
            have sd8 := sd7.trans (.of s8)
            have hd8 := s8.hh D _ hd7 (Ne.symm nD)
            have zd8 := zd_stp s8 zd7 hd7
            have O8 := (O6.late O1.s0 (O1.en.trans st8 O1.s0) nD hd8 zd8 sd8).wipe vs1
            refine ⟨r.rd D avs7, Z8, wipeD ρ4 vs1, dx1, _, O8, r8, h7, fun σ9 ρ9 O9 w9 h9 => ?_⟩
            refine ⟨by rw [w9 vs1 hus1, wipe_idem], r.rd D avs7, Z8, ρ9, _, O9, h9, fun b2 Z10 H10 s10 h10 => ?_⟩
            have st10 := st8.trans s10 b1
            have sd10 := sd8.trans (.of s10)
            have hd10 := s10.hh D _ hd8 (Ne.symm nD)
            have zd10 := zd_stp s10 zd8 hd8
            cases b2 with
            | true =>
              refine iteT ⟨r.rd D avs7, Z10, ρ9, _, O9.stp s10, (by simpa using h10), fun d v Z11 H11 s11 r11 h11 => ?_⟩
              have st11 := st10.trans s11 b1
              have hd11 := s11.hh D _ hd10 (Ne.symm nD)
              have zd11 := zd_stp s11 zd10 hd10
              refine ⟨avs7, hd11, ?_, Z11, acc7 ++ [d], avs7 ++ [v], st11.mut b1 hD zd11, (sd10.trans (.of s11)).put, upd_same, (ra7.mono ((s8.zz.trans s10.zz).trans s11.zz)).append (.cons r11 .nil), zd11, h11.2⟩
              have e5 := ra7.length
              have e6 : sizeLine = 16777216 := by decide
              have e7 := h11.1
              omega
            | false => exact iteF ⟨Z10, acc7, avs7, st10, sd10, hd10, ra7.mono (s8.zz.trans s10.zz), zd10, by simpa using h10⟩
        · have e : j = ds1.length := by omega
          subst e
          refine .inl ⟨stop1 _ (Nat.le_refl _), Z7, acc7, avs7, st7, hd7, ra7, zd7, ?_⟩
          rw [List.drop_length] at h7
          exact h7
      | false => exact iteF ⟨Z5, acc, avs, st5, hd5, ra.mono (s3.zz.trans s5.zz), zd5, by simpa using h5⟩
  · have e : i = ds.length := by omega
    subst e
    refine .inl ⟨stop _ (Nat.le_refl _), ?_⟩
    rw [List.drop_length] at h'
    exact q (.lst acc) (.ref D) (upd Z' D (.lst avs)) H' (s1.trans (st.frz b1 hD zd hd) O.bs.st) (.lst upd_same (ra.mono fun a u e => by rw [upd_ne (ne_of_none e zd)]; exact e)) h'
theorem de_lc2 {elt tg it tg1 it1 : Expr} {ifs ifs1 : List Expr} {scope : Scope} {own : List (Str × Nat)} {wi wi1 : WA} {g g1 : WG} {wt wt1 : WT} {us us1 vs1 : List Nat} (hN : X.N.Nodup) (hi : DI X k tg it wi) (ok : BlkOk X.N X.env.scope scope own)
    (hg : ∀ (s : Shared) (H : Hp) (C : Addr) (cl : List (Str × Addr)) (fp : List Addr), DG (X.blk s H scope (compEnvC scope cl C X.env) fp) k.still tg us g)
    (ht : ∀ (s : Shared) (H : Hp) (C : Addr) (cl : List (Str × Addr)) (fp : List Addr), DTs (X.blk s H scope (compEnvC scope cl C X.env) fp) k.still ifs wt)
    (hi1 : ∀ (s : Shared) (H : Hp) (C : Addr) (cl : List (Str × Addr)) (fp : List Addr), DI (X.blk s H scope (compEnvC scope cl C X.env) fp) k.still tg1 it1 wi1)
    (hg1 : ∀ (s : Shared) (H : Hp) (C : Addr) (cl : List (Str × Addr)) (fp : List Addr), DG (X.blk s H scope (compEnvC scope cl C X.env) fp) k.still tg1 us1 g1)
    (ht1 : ∀ (s : Shared) (H : Hp) (C : Addr) (cl : List (Str × Addr)) (fp : List Addr), DTs (X.blk s H scope (compEnvC scope cl C X.env) fp) k.still ifs1 wt1)
    (he : ∀ (s : Shared) (H : Hp) (C : Addr) (cl : List (Str × Addr)) (fp : List Addr), DE (X.blk s H scope (compEnvC scope cl C X.env) fp) k.still elt w)
    (hus : ∀ i ∈ us, i ∈ own.map (·.2) := by decide) (hus1 : ∀ i ∈ us1, i ∈ vs1 := by decide) (hv : ∀ i ∈ vs1, i ∈ own.map (·.2) := by decide) (hc : X.calm = true := by rfl) (hs : ∀ x, foldedSetIterable it X.env x = pure x := by intro _; rfl) (hs1 : ∀ env x, foldedSetIterable it1 env x = pure x := by intro _ _; rfl) :
    DE X k (.ListComp elt [⟨tg, it, ifs, 0⟩, ⟨tg1, it1, ifs1, 0⟩] scope pos) (wLc2 wi g wt wi1 g1 wt1 w (own.map (·.2)) vs1) := by
  obtain ⟨ti, pi, fi⟩ := hi
  exact ⟨_, pe_lc2 (g := tGc (wc X k.s) k.still us g) (tt := tTc (wc X k.s) k.still wt) (wi1 := tIc (wc X k.s) k.still wi1) (g1 := tGc (wc X k.s) k.still us1 g1) (tt1 := tTc (wc X k.s) k.still wt1) (te := tEc (wc X k.s) k.still w) hc hN pi ok hv (fun s H C cl fp => (hg s H C cl fp).pg) (fun s H C cl fp => (ht s H C cl fp).pt) (fun s H C cl fp => (hi1 s H C cl fp).pi) (fun s H C cl fp => (hg1 s H C cl fp).pg) (fun s H C cl fp => (ht1 s H C cl fp).pt) (fun s H C cl fp => (he s H C cl fp).pe) hs hs1, lc2_core hus hus1 fi⟩
end
end Dl
set_option Elab.async false
set_option linter.all false
set_option maxRecDepth 100000
set_option maxHeartbeats 2000000
namespace Dl
open PySem PySem.Spec PyProof.Rows L2
section
variable {X : Cx} {k : Cc} {a b e c : Expr} {w wk wv : WE} {pos : Pos}
/-! ### dict comprehensions -/
def wDcL (g : WG) (wt : WT) (wk wv : WE) (ρ : En) : List D → List (Key × D) → (List (Key × D) → Prop) → Prop
  | [], acc, Q => Q acc
  | x :: xs, acc, Q => g x ρ fun ρ1 => wt ρ1 fun b => if b = true then wk ρ1 fun kd => wv ρ1 fun y => ∃ key, kd.key = some key ∧ acc.length ≤ 1000000 ∧ wDcL g wt wk wv ρ xs (putT acc key y) Q else wDcL g wt wk wv ρ xs acc Q
def wDc (wi : WA) (g : WG) (wt : WT) (wk wv : WE) (vs : List Nat) : WE := fun ρ Q => wi ρ fun ds => wDcL g wt wk wv (wipeD ρ vs) ds [] fun ys => Q (.dic ys)
theorem dc_core {wi : WA} {g : WG} {wt : WT} {vs us : List Nat} {ti : TI} (hus : ∀ i ∈ us, i ∈ vs)
    (fi : ∀ (r : Rt) (Z H : Hp) (σ : L2.St) (ρ : En) (Qd : List D → Prop) (R : It → Hp → Prop), Ok (wc X k.s) k r Z H σ ρ → wi ρ Qd → (∀ ds Z' H' J, Stp k.s Z H Z' H' → ItD (wc X k.s) Z' J ds → Qd ds → R J H') → ti σ H R) :
    ∀ (r : Rt) (Z H : Hp) (σ : L2.St) (ρ : En) (Qd : D → Prop) (Q : VK), Ok (wc X k.s) k r Z H σ ρ → wDc wi g wt wk wv vs ρ Qd → (∀ d v Z' H', Stp k.s Z H Z' H' → Rp (wc X k.s) Z' v d → Qd d → Q v H') →
      tDc ti (tGc (wc X k.s) k.still us g) (tTc (wc X k.s) k.still wt) (tEc (wc X k.s) k.still wk) (tEc (wc X k.s) k.still wv) vs σ H Q := by
  intro r Z H σ ρ Qd Q O h q
  refine fi r Z H σ ρ _ _ O h fun ds Z1 H1 J s1 it h1 => ?_
  intro D hD
  have O1 := O.stp s1
  have b1 : StOk k.s H1 := O1.bs.st
  have nD : k.s ≠ D := b1.ne hD
  refine ⟨fun i m H' => ∃ Z' acc avs, Stp k.s Z1 H1 Z' H' ∧ H' D = some (.dK avs) ∧ RpK (wc X k.s) Z' avs acc ∧ Z' D = none ∧ wDcL g wt wk wv (wipeD ρ vs) (ds.drop i) acc (fun ys => Qd (.dic ys)) ∧ i ≤ ds.length ∧ m = ds.length - i,
    ⟨_, Z1, [], [], (Stp.refl O1.bs).mut b1 hD (O1.bs.zh.free hD), upd_same, .nil, O1.bs.zh.free hD, h1, Nat.zero_le _, rfl⟩, ?_⟩
  rintro i m H' ⟨Z', acc, avs, st, hd, ra, zd, h', hi, rfl⟩
  obtain ⟨go, stop, yld⟩ := it Z' H' st.zz st.bs
  by_cases hlt : i < ds.length
  · refine .inr ⟨go i hlt, fun H2 => ∃ Z2 acc2 avs2, Stp k.s Z1 H1 Z2 H2 ∧ H2 D = some (.dK avs2) ∧ RpK (wc X k.s) Z2 avs2 acc2 ∧ Z2 D = none ∧ wDcL g wt wk wv (wipeD ρ vs) (ds.drop (i + 1)) acc2 (fun ys => Qd (.dic ys)), ?_, ?_⟩
    · rintro H2 ⟨Z2, acc2, avs2, st2, hd2, ra2, zd2, h2⟩
      exact ⟨_, by omega, Z2, acc2, avs2, st2, hd2, ra2, zd2, h2, hlt, rfl⟩
    · intro x H2 y
      obtain ⟨dx, Z3, e1, s3, r3⟩ := yld i x H2 y hlt
      rw [drop_at hlt e1] at h'
      have st3 := st.trans s3 b1
      have O3 := ((O1.stp st3).wipe vs).still
      have hd3 := s3.hh D _ hd (Ne.symm nD)
      have zd3 := zd_stp s3 zd hd
      refine ⟨r, Z3, wipeD ρ vs, dx, _, O3, r3, h', fun σ4 ρ4 O4 w4 h4 => ?_⟩
      refine ⟨by rw [w4 vs hus, wipe_idem], r, Z3, ρ4, _, O4, h4, fun bb Z5 H5 s5 h5 => ?_⟩
      have hd5 := s5.hh D _ hd3 (Ne.symm nD)
      have zd5 := zd_stp s5 zd3 hd3
      cases bb with
      | true =>
        refine iteT ⟨r, Z5, ρ4, _, O4.stp s5, (by simpa using h5), fun kd u Z6 H6 s6 r6 h6 => ?_⟩
        have hd6 := s6.hh D _ hd5 (Ne.symm nD)
        have zd6 := zd_stp s6 zd5 hd5
        refine ⟨r, Z6, ρ4, _, (O4.stp s5).stp s6, h6, fun d v Z7 H7 s7 r7 h7 => ?_⟩
        obtain ⟨key, ek, hl, h7⟩ := h7
        have hd7 := s7.hh D _ hd6 (Ne.symm nD)
        have zd7 := zd_stp s7 zd6 hd6
        have st7 := ((st3.trans s5 b1).trans s6 b1).trans s7 b1
        refine ⟨avs, key, key_v r6 ek, hd7, ?_, Z7, putT acc key d, putK avs key v, st7.mut b1 hD zd7, upd_same, rpk_put (ra.mono (((s3.zz.trans s5.zz).trans s6.zz).trans s7.zz)) r7, zd7, h7⟩
        rw [rpk_len ra]
        exact Nat.lt_of_le_of_lt hl (by decide)
      | false =>
        exact iteF ⟨Z5, acc, avs, st3.trans s5 b1, hd5, ra.mono (s3.zz.trans s5.zz), zd5, by simpa using h5⟩
  · have e : i = ds.length := by omega
    subst e
    refine .inl ⟨stop _ (Nat.le_refl _), ?_⟩
    rw [List.drop_length] at h'
    exact q (.dic acc) (.ref D) (upd Z' D (.dK avs)) H' (s1.trans (st.frz b1 hD zd hd) O.bs.st) (.dic (.inl upd_same) (ra.mono fun a u e => by rw [upd_ne (ne_of_none e zd)]; exact e)) h'
theorem de_dc {kx vx tg it : Expr} {ifs : List Expr} {scope : Scope} {own : List (Str × Nat)} {wi : WA} {g : WG} {wt : WT} {us : List Nat} (hN : X.N.Nodup) (hi : DI X k tg it wi) (ok : BlkOk X.N X.env.scope scope own)
    (hg : ∀ (s : Shared) (H : Hp) (C : Addr) (cl : List (Str × Addr)) (fp : List Addr), DG (X.blk s H scope (compEnvC scope cl C X.env) fp) k.still tg us g)
    (ht : ∀ (s : Shared) (H : Hp) (C : Addr) (cl : List (Str × Addr)) (fp : List Addr), DTs (X.blk s H scope (compEnvC scope cl C X.env) fp) k.still ifs wt)
    (hk : ∀ (s : Shared) (H : Hp) (C : Addr) (cl : List (Str × Addr)) (fp : List Addr), DE (X.blk s H scope (compEnvC scope cl C X.env) fp) k.still kx wk)
    (he : ∀ (s : Shared) (H : Hp) (C : Addr) (cl : List (Str × Addr)) (fp : List Addr), DE (X.blk s H scope (compEnvC scope cl C X.env) fp) k.still vx wv)
    (hus : ∀ i ∈ us, i ∈ own.map (·.2) := by decide) (hc : X.calm = true := by rfl) (hs : ∀ x, foldedSetIterable it X.env x = pure x := by intro _; rfl) : DE X k (.DictComp kx vx [⟨tg, it, ifs, 0⟩] scope pos) (wDc wi g wt wk wv (own.map (·.2))) := by
  obtain ⟨ti, pi, fi⟩ := hi
  exact ⟨_, pe_dc (g := tGc (wc X k.s) k.still us g) (tt := tTc (wc X k.s) k.still wt) (tk := tEc (wc X k.s) k.still wk) (tv := tEc (wc X k.s) k.still wv) hc hN pi ok (fun s H C cl fp => (hg s H C cl fp).pg) (fun s H C cl fp => (ht s H C cl fp).pt) (fun s H C cl fp => (hk s H C cl fp).pe) (fun s H C cl fp => (he s H C cl fp).pe) hs, dc_core hus fi⟩
/-! ### slices of tuples -/
def rdSlT : RSD := fun a i j Q => a.T fun xs => Q (.tup (cutD xs i j))
theorem os_slT : OpS X k (rSlA X.K) rdSlT := by
  intro Z H x d i j Qd Q B ra h q
  obtain ⟨ds, e1, h1⟩ := D.T_ex h
  clear h
  have h := h1
  clear h1
  subst e1
  cases ra with
  | tup hs hr =>
    refine ⟨_, _, rfl, same_t B.zh hs, fun hf => ?_, fun _ p hp => q _ _ _ _ (.add B hp) (rp_tup (rpa_cut hr) B hp) h⟩
    have e : cutD ds i j = ds := by
      unfold cutD
      rw [hr.length] at hf
      rw [hf.1, hf.2]
      simp
    rw [e] at h
    exact q _ _ Z H (.refl B) (.tup hs hr) h
theorem de_slcT {lo hi : Option Expr} {l u : WO} {p2 : Pos} (h : DE X k e w) (hl : DO X k lo l) (hu : DO X k hi u) : DE X k (.Subscript e (.Slice lo hi none p2) pos) (wSl rdSlT w l u) :=
  de_slice sl_tupA os_slT h hl hu
end
end Dl
set_option Elab.async false
set_option linter.all false
set_option maxRecDepth 100000
set_option maxHeartbeats 2000000
namespace Dl
open PySem PySem.Spec PyProof.Rows L2
/-! ### errors whose context is told: suites that call defs -/
section
variable {X : Cx} {k : Cc} {a b e c : Expr} {es : List Expr} {wa wb w : WE} {pos p p1 p2 pos2 : Pos} {rest : List Stmt}
theorem pmk_sup {x : Str} {ta : TA} {C fI : Addr} {n : Nat} {fd : FuncData} {ps : List Str} {sp : Sp} (T : OexC X.K C) (iC : PySem.W.findIn X.K (.ref C) "__init__" = some (some (.ref fI))) (tI : PySem.W.typeIn X.K (.ref fI) = some (.type "function"))
    (F1 : FnOk X.prog X.w X.K X.mg X.base CX0 n fI fd ps sp) (hr : Room (n + 1) X.A) (hb : Binds X.K fd ps []) (hg : Gl X x) (hm : X.mg x = some (.ref C)) (ha : PA X [e] ta) (hdb : (x == ("__debug__" : Str)) = false := by decide)
    (he : starEach [e] X.env = (false, eval e X.env) :: starEach [] X.env := by rfl) : L2N.PMk X (.Call (.Name x p) [e] [] pos) (tMkO C sp [] ta) := by
  intro pl st0 sg HH QQ II hh
  obtain ⟨_, _, _, _, bm, _, _, _, _, _, _, _, _, _, _, hC, hbm⟩ := T.cls
  refine wpAny_Call_Name_kw (ld_glob II hg hm (PySem.W.callWith_K (h₀ := X.base) II.ok.mod.kin T.kC (thn (ha.run pos pl st0 sg HH _ II hh) fun us s1 ⟨vs, Ha, Ia, ra, hz, qa⟩ => ⟨Ia.kIn, ?_⟩) he rfl) hdb)
  obtain ⟨hp, gg, dd, tt, oo⟩ := s1
  let N : Addr := hp.objs.size + 1
  let h9 : Heap := (hp.push (PySem.W.kdv_tup us)).push (PySem.HandSPX.excO C hp.objs.size)
  have up : ∀ b o, hp.get? b = some o → h9.get? b = some o := fun b o z => Heap.get?_push_of_some _ (Heap.get?_push_of_some _ z)
  have at9 : ((hp.push (PySem.W.kdv_tup us)).push (PySem.HandSPX.excO C hp.objs.size)).get? (hp.objs.size + 1) = some (PySem.HandSPX.excO C hp.objs.size) := by heap_get
  have le : hp.objs.size ≤ N := Nat.le_succ _
  have q9 := qa N (Ia.hok.fresh le)
  have I9 : L2.Inv X pl sg (upd Ha N (exo N C none)) ⟨h9, gg, dd, tt, oo⟩ := Ia.laid (t' := tt) (a := N) (o := exo N C none) (h' := h9) up le (exo_ok at9)
  rw [List.append_nil] at q9
  have rv : Vals (V.ref N :: vs) (Value.ref N :: us) := .cons rfl ra
  have hps : vs.length + 1 = ps.length := F1.len _ _ _ _ q9
  have hus : us.length = vs.length := (Paired.length ra).symm
  have bd := hb _ (Value.ref N :: us) I9.kIn (by rw [List.append_nil, List.length_cons, hus, hps])
  rw [List.append_nil] at bd
  refine wpAny_call (PySem.HandSPX.call_own F.excBase_ValueError (fun Y => PySem.HandSPX.refsVE_contains Y bm hbm) (Ia.kIn _ _ hC) (PySem.W.looks_findIn Ia.kIn iC) (fun self => PySem.W.bind_fn Ia.kIn self tI) (show us.length ≤ sizeLine by rw [hus]; exact Nat.le_trans hz (by decide)) (codeAny_mono (F1.run _ X.stack _ _ ⟨Value.ref N :: us, []⟩ (Value.ref N :: us) _ _ (fun _ _ _ => False) (hr.make C us []) (I9.env0.make C us []) bd rv q9) fun r s9 hq => ?_))
  cases r with
  | error er => exact hq.elim
  | ok fl => cases fl with
    | ret u =>
      obtain ⟨v, Hb, e1, e2, e3, e4, e5, e6, d, fs, ea, ed, hd1, qq⟩ := hq
      subst e6
      obtain ⟨hb9, g9, d9, t9, o9⟩ := s9
      obtain ⟨t0, G, J, kG, ge, hoe, na⟩ := mk_end0 (d2 := d9) (t2 := t9) Ia le up e3 e4 e1 e2 ea ed hd1
      exact ⟨e5, N, _, _, ⟨G, g9, d9, t9, o9⟩, _, .ref C, some d, rfl, J, kG, ge, hoe, ⟨rfl, rfl, fun vs hv => by cases hv; rfl⟩, rfl, rfl, na, rfl, e2, raises_own T.exC T.tyC, qq⟩
    | next => exact False.elim hq
    | brk => exact False.elim hq
    | cont => exact False.elim hq
theorem takesN0 {X : Cx} : L2N.Takes X (fun _ _ _ _ => False) := fun _ _ ⟨_, _, _, _, _, _, _, _, _, _, _, _, _, _, _, _, z⟩ => z.elim
theorem ds_raiseFN {x fld : Str} {C fI : Addr} {good : V → Prop} {n : Nat} {fd : FuncData} {ps : List Str} (T : ExcF X.K X.mg x C fI) (F1 : FnOk X.prog X.w X.K X.mg X.base CX0 n fI fd ps (spSup C fld good)) (hr : Room (n + 1) X.A) (hb : Binds X.K fd ps []) (tk : L2N.Takes X (fun cls d _ H => k.xk cls d H)) (h : DE X k e w) (hc : X.calm = true := by rfl) (hg : Gl X x := by rfl) (hs : starEach [e] X.env = (false, eval e X.env) :: starEach [] X.env := by rfl) (hdb : (x == ("__debug__" : Str)) = false := by decide) :
    DS X k (.Raise (some (.Call (.Name x p) [e] [] pos)) none pos2) (wRaiseF x fld good k.xd w) := by
  obtain ⟨t, pe, f⟩ := h
  refine ⟨_, L2N.ps_raise hc tk (pmk_sup T.T T.iC T.tI F1 hr hb hg T.g (pa_cons pe pa_nil hs) hdb hs), fun r Z H σ ρ d E O L h => ?_⟩
  refine f r Z H σ ρ _ _ O h fun y v Z1 H1 s1 r1 h1 => ?_
  refine ⟨Nat.le_add_left 1 999, fun a ha => ⟨a, v, rfl, h1.1 _ _ _ r1, upd_same, fun dx hd hne => ⟨rfl, dx, [(fld, v)], upd_same, ?_, ?_, ?_⟩⟩⟩
  · rw [upd_ne hne, upd_same]
  · rw [upd_ne hne] at hd
    exact hd
  · rw [upd_ne hne] at hd
    have eH : upd (del (upd (upd (upd H1 a (exo a C none)) dx (exd dx [(fld, v)])) a (exo a C (some dx))) a) dx (.xd [(fld, v)]) = upd H1 dx (.xd [(fld, v)]) := by
      funext b
      by_cases h1 : b = dx
      · rw [h1, upd_same, upd_same]
      · rw [upd_ne h1, upd_ne h1]
        by_cases h2 : b = a
        · rw [h2, del_same, ha]
        · rw [del_ne h2, upd_ne h2, upd_ne h1, upd_ne h2]
    rw [eH]
    have sA := Stp.add (o := .xd [(fld, v)]) s1.bs hd
    exact O.lk _ _ ⟨x, some [(fld, y)]⟩ _ _ ((O.en.trans s1 O.s0).trans sA O.s0) ⟨C, T.g, rfl, dx, _, rfl, upd_same, .cons (r1.mono sA.zz) .nil⟩ h1.2
def DXEN (X : Cx) (k : Cc) (e : Expr) (w : WXE) : Prop := ∀ W, L2N.Takes X W → ∃ t, PE X e t ∧ ∀ (r : Rt) (Z H : Hp) (σ : L2.St) (ρ : En) (Qd : D → Prop) (Ed : Exn → Prop) (Q : VK), Ok (wc X k.s) k.still r Z H σ ρ → w ρ Qd Ed →
  (∀ d v Z' H', Stp k.s Z H Z' H' → Rp (wc X k.s) Z' v d → Qd d → Q v H') → (∀ ex cls od Z' H', Stp k.s Z H Z' H' → ExR (wc X k.s) Z' H' ex cls od → Ed ex → W cls od σ H') → t σ H Q
theorem dxen_call {f : Str} {fa : Addr} {fd : FuncData} {ps : List Str} {spec : SpecD} {u : WA} {j : Nat}
    (F : FnOk X.prog X.w X.K X.mg X.base (L2N.CX X.prog X.w) j fa fd ps (spD X.K X.mg spec)) (hr : Room j X.A) (hm : X.mg f = some (.ref fa)) (hk : PySem.W.keepIn X.K (.ref fa) = true) (hb : Binds X.K fd ps [])
    (ha : DA X k.still (e :: es) u) (hg : Gl X f := by rfl) (hdb : (f == ("__debug__" : Str)) = false := by decide) (he : starEach (e :: es) X.env = (false, eval e X.env) :: starEach es X.env := by rfl) (hpl : (backTo pos (starEach es X.env)).any (·.1) = false := by rfl) :
    DXEN X k (.Call (.Name f p) (e :: es) [] pos) (wXCall spec u) := by
  intro W tk
  obtain ⟨t, pa, g⟩ := ha
  refine ⟨_, pe_callS F hr hg hm hk hb (fun σ => L2N.passAt tk σ) pa hdb he hpl, fun r Z H σ ρ Qd Ed Q O h q qe => ?_⟩
  refine g r Z H σ ρ _ _ O h fun ds vs Z1 H1 s1 r1 h1 => ?_
  exact ⟨k.s, Z1, ds, Qd, Ed, s1.bs, r1, h1, fun d v Z' H' st rv hd => q d v Z' H' (s1.trans st O.bs.st) rv hd, fun ex cls od Z' H' st er hd => qe ex cls od Z' H' (s1.trans st O.bs.st) er hd⟩
theorem dxen_tup2 {wb : WXE} {x1 : Nat} (ha : DE X k.still a wa) (hb : DXEN X k b wb) (h1 : starEach [a, b] X.env = (false, eval a X.env) :: starEach [b] X.env := by rfl) (h2 : starEach [b] X.env = (false, eval b X.env) :: starEach [] X.env := by rfl) : DXEN X k (.Tuple [a, b] x1 pos) (wXTup2 wa wb) := by
  intro W tk
  obtain ⟨t, pa, g⟩ := ha
  obtain ⟨t2, pb, g2⟩ := hb W tk
  refine ⟨_, pe_tup (pa_cons pa (pa_cons pb pa_nil h2) h1), fun r Z H σ ρ Qd Ed Q O h q qe => ?_⟩
  refine g r Z H σ ρ _ _ O h fun x v Z1 H1 s1 r1 h1 => ?_
  refine g2 r Z1 H1 σ ρ _ _ _ (O.stp s1) h1 (fun y u Z2 H2 s2 r2 h2 => ?_) fun ex cls od Z' H' st er hd => qe ex cls od Z' H' (s1.trans st O.bs.st) er hd
  refine ⟨Nat.le_trans (show 2 ≤ 100000 by decide) (by decide), fun p hp => ?_⟩
  exact q _ _ _ _ ((s1.trans s2 O.bs.st).trans (.add s2.bs hp) O.bs.st) (rp_tup (.cons (r1.mono s2.zz) (.cons r2 .nil)) s2.bs hp) h2
def DXBN (X : Cx) (k : Cc) (sts : List Stmt) (w : DEnds → (Exn → Prop) → En → Prop) : Prop := ∀ W, L2N.Takes X W → ∃ t, PSs X sts t ∧ ∀ (r : Rt) (Z H : Hp) (σ : L2.St) (ρ : En) (d : DEnds) (Ed : Exn → Prop) (E : Ends), Ok (wc X k.s) k.still r Z H σ ρ → Lk (wc X k.s) k.still r d E →
  (∀ ex cls od Z' H', Stp k.s Z H Z' H' → ExR (wc X k.s) Z' H' ex cls od → Ed ex → W cls od σ H') → w d Ed ρ → t E σ H
theorem dxbn_ret {w : WXE} (h : DXEN X k e w) : DXBN X k [.Return (some e) pos] (wXRet w) := by
  intro W tk
  obtain ⟨t, p, f⟩ := h W tk
  refine ⟨_, pss_one (ps_ret p), fun r Z H σ ρ d Ed E O L qe h => ?_⟩
  exact f r Z H σ ρ _ _ _ O h (fun x v Z1 H1 s1 r1 h1 => L.rt Z1 H1 v x (O.en.trans s1 O.s0) (O.lb.trans s1.zz) r1 h1) qe
theorem dxbn_set {i : Nat} {x : Str} {pos' : Pos} {w : WXE} {v : WS} (hN : X.N.Nodup) (h : DXEN X k e w) (h2 : DB X k.still rest v) (hi : X.N[i]? = some x := by rfl) (hx : Loc X.env.scope x := by first | exact Or.inl rfl | exact Or.inr rfl) (hs : swapsWith e (some (.Name x pos')) pos.line X.env = pure false := by rfl)
    (hf : X.fn x = true ∨ X.env.scope.names.lookup x = some .local := by first | exact .inl rfl | exact .inr rfl | assumption) : DXBN X k (.Assign [.Name x pos'] e pos :: rest) (wXSet i w v) := by
  intro W tk
  obtain ⟨t, p, f⟩ := h W tk
  obtain ⟨t2, p2, f2⟩ := h2
  refine ⟨_, pss_cons (ps_set hN hi hx p hs hf) p2, fun r Z H σ ρ d Ed E O L qe h => ?_⟩
  exact f r Z H σ ρ _ _ _ O h (fun x v Z1 H1 s1 r1 h1 => f2 r Z1 H1 _ _ d E ((O.stp s1).set r1) L h1) qe
theorem dxbn_expr {w : WXE} {v : WS} (h : DXEN X k e w) (h2 : DB X k.still rest v) (hs : swapsWith e none pos.line X.env = pure false := by rfl) : DXBN X k (.Expr e pos :: rest) (wXDrop w v) := by
  intro W tk
  obtain ⟨t, p, f⟩ := h W tk
  obtain ⟨t2, p2, f2⟩ := h2
  refine ⟨_, pss_cons (ps_expr p hs) p2, fun r Z H σ ρ d Ed E O L qe h => ?_⟩
  exact f r Z H σ ρ _ _ _ O h (fun x v Z1 H1 s1 r1 h1 => f2 r Z1 H1 _ _ d E (O.stp s1) L h1) qe
theorem DXBN.ps {sts : List Stmt} {w : WXB} {W : WX} (h : DXBN X k sts w) (tk : L2N.Takes X W) : PSs X sts (tXB (wc X k.s) k w W) := by
  refine ⟨fun pins s σ H E I ⟨r, Z, ρ, d, Ed, O, L, qe, hu⟩ => ?_⟩
  obtain ⟨t, p, f⟩ := h W tk
  exact p.run pins s σ H E I (f r Z H σ ρ d Ed E O L qe hu)
theorem ds_tryN {i : Nat} {x n : Str} {C : Addr} {wb : WXB} {sw : Addr → Option Addr → WS} {b₀ : Stmt} {body suite : List Stmt} {np pos' tpos : Pos}
    (hN : X.N.Nodup) (hm0 : X.mg x = some (.ref C)) (hex : PySem.W.exmOne X.K (.ref C) (.ref C) = some true)
    (hbd : ∀ (pn : List (Addr × Obj)) (xe : Value → Shared → Prop), DXBN (X.tr pn xe) k body wb)
    (hsu : ∀ (a : Addr) (od : Option Addr) (oe : Obj) (pn : List (Addr × Obj)), L2N.Zn (.ref C) od oe → (∃ vs, oe.data = .fields vs) → DB (X.suite a ((a, oe) :: pn)) k.still (b₀ :: suite) (sw a od))
    (hs : X.stack = X.env :: X.outer := by rfl) (hf : X.env.frame = some X.env.locals := by rfl) (hi : X.N[i]? = some n := by rfl) (hln : X.env.kindOf n = some .local := by rfl) (hc : Gl X x := by rfl) (hxd : (x == ("__debug__" : Str)) = false := by decide) :
    DS X k (.Try body [.ExceptHandler (some (.Name x np)) (some n) (b₀ :: suite) pos'] [] [] tpos) (wTry x i wb sw) := by
  refine ⟨_, L2N.ps_try_as (c := .ref C) (tb := fun W => tXB (wc X k.s) k wb W) (ts := fun a cl d => tSc (wc X k.s) k.still cl C (sw a d)) (Wout := fun _ _ _ _ => False) hs hf hN hi hln ⟨hc, hxd, .inl hm0⟩ takesN0 (fun W pn xe tk _ => (hbd pn xe).ps (X := X.tr pn xe) tk) (fun a oe cls d pn hz hv => ?_), fun r Z H σ ρ d E O L h => ?_⟩
  · refine ⟨fun pins s σ H E I ⟨ec, r, Z, ρ, dd, O, L, hu⟩ => ?_⟩
    subst ec
    obtain ⟨t, p, f⟩ := hsu a d oe pn hz hv
    exact p.run pins s σ H E I (f r Z H σ ρ dd E O L hu)
  · refine ⟨r, Z, ρ, d, _, O.still, L.still O.unstill, fun ex cls od Z' H' st er hd => ?_, h⟩
    obtain ⟨e1, hsw⟩ := hd
    have er0 := er
    obtain ⟨C', hC, rfl, hfs⟩ := er
    rw [e1] at hC
    have eC : C' = C := by
      have hC2 : X.mg x = some (.ref C') := hC
      rw [hm0] at hC2
      cases hC2 <;> rfl
    subst eC
    have hsome : ex.fs.isSome = od.isSome := by
      cases q : ex.fs with
      | none =>
        rw [q] at hfs
        rw [show od = none from hfs]
        rfl
      | some ds =>
        rw [q] at hfs
        obtain ⟨d, _, rfl, _⟩ := hfs
        rfl
    have O2 := (O.stp st).still
    refine ⟨true, hex, fun _ a ha => ⟨rfl, r, Z', ρ.set i (.val (ex.slot a od)), _, O2.set (Exn.rp er0), ⟨?_, ?_, ?_, ?_⟩, hsw a od hsome⟩, fun z => by cases z⟩
    · exact fun Z3 H3 σ3 ρ3 O3 h3 => L.nx Z3 H3 _ _ (O.back O3) h3
    · exact L.rt
    · exact fun Z3 H3 σ3 ρ3 O3 h3 => L.bk Z3 H3 _ _ (O.back O3) h3
    · exact fun Z3 H3 σ3 ρ3 O3 h3 => L.ct Z3 H3 _ _ (O.back O3) h3
/-- a def called while an error is handled -/
theorem fn_dH {P : Program} {w : World} {K : PySem.W.Frag} {mg : Str → Option Value} {base : Heap} {x qual : Str} {st : Stmt} {f : Addr} {fd : FuncData} {N ps : List Str} {n : Nat} {spec : SpecD} (F : Fun K x qual st f fd) (S : FnScope N ps (defScope st)) (hl : ∀ ds Q E, spec ds Q E → ds.length = ps.length) (hn : ps.length ≤ N.length) (W : WS)
    (hb : ∀ (cdv : Value) (A : Around) (outer : List Env) (s : Shared) (H : Hp) (E : XK) (p : Addr × Obj) (k : Cc), L2H.Hot1 A p → L2H.RoomH n (A.deeper (envOfC qual (defScope st) s.heap.objs.size f cdv)) → DB (L2H.cxH CX0 P w K mg base N qual (defScope st) f cdv A outer s H E p) k (defBody st) W)
    (hW : ∀ ds Q E, spec ds Q E → W { nx := fun _ => Q .non, rt := Q } (ρ0 N.length ds)) : L2H.FnH P w K mg base CX0 (n + 1) f fd ps (spD K mg spec) := by
  obtain ⟨oc, od, kV, doc, pm, an, cdv, ct, osl, rfl, lk, hcd⟩ := F.ex
  refine L2H.fn_ofH lk hcd S (fun vs H Q E h => ?_) (fun A outer s H vs Q E p hot hr h => ?_)
  · obtain ⟨s, Z, ds, Qd, Ed, _, h1, h2, _⟩ := h
    rw [h1.length]
    exact hl _ _ _ h2
  · obtain ⟨s', Z, ds, Qd, Ed, b, h1, h2, h3, _⟩ := h
    obtain ⟨t, pt, q⟩ := hb cdv A outer s H E p ⟨s', fun _ => False, fun _ _ _ => False⟩ hot hr
    refine ⟨t, pt, q ⟨Z, H, Z⟩ Z H (L2.start N vs) (ρ0 N.length ds) _ _ (start_ok (c := ⟨K, mg, s'⟩) b h1 (by rw [hl _ _ _ h2]; exact hn) (fun _ _ _ _ _ _ _ z => z.elim)) ⟨?_, ?_, ?_, ?_⟩ (hW ds Qd Ed h2)⟩
    · exact fun Z' H' σ ρ O hq => h3 .non .non Z' H' O.en .non hq
    · exact fun Z' H' v x st _ rx hq => h3 x v Z' H' st rx hq
    · exact fun _ _ _ _ _ z => z.elim
    · exact fun _ _ _ _ _ z => z.elim
theorem de_callH {n : Nat} {f : Addr} {fd : FuncData} {ps : List Str} {spec : SpecD} {x : Str} {u : WA} (F : L2H.FnH X.prog X.w X.K X.mg X.base CX0 n f fd ps (spD X.K X.mg spec)) (hr : L2H.RoomH n X.A) (hc : L2H.HotC X) (hm : X.mg x = some (.ref f)) (hk : PySem.W.keepIn X.K (.ref f) = true) (hb : Binds X.K fd ps []) (ha : DA X k (e :: es) u)
    (hg : Gl X x := by rfl) (hdb : (x == ("__debug__" : Str)) = false := by decide) (he : starEach (e :: es) X.env = (false, eval e X.env) :: starEach es X.env := by rfl) (hpl : (backTo pos (starEach es X.env)).any (·.1) = false := by rfl) :
    DE X k (.Call (.Name x p) (e :: es) [] pos) (wCall0 spec u) := by
  obtain ⟨t, pa, g⟩ := ha
  refine ⟨_, L2H.pe_callH (E := fun _ _ _ _ => False) F hr hc hg hm hk hb (fun _ _ _ _ _ _ _ z => z.elim) pa hdb he hpl, fun r Z H σ ρ Qd Q O h q => ?_⟩
  refine g r Z H σ ρ _ _ O h fun ds vs Z1 H1 s1 r1 h1 => ?_
  exact ⟨k.s, Z1, ds, Qd, fun _ => False, s1.bs, r1, h1, fun d v Z' H' st rv qd => q d v Z' H' (s1.trans st O.bs.st) rv qd, fun _ _ _ _ _ _ _ z => z.elim⟩
/-- the suite of ds_tryN bears the handled error -/
theorem hot_suite {a : Addr} {od : Option Addr} {C : Addr} {oe : Obj} {pn : List (Addr × Obj)} (hz : L2N.Zn (.ref C) od oe) (hf : ∃ vs, oe.data = .fields vs) : L2H.HotC (X.suite a ((a, oe) :: pn)) := by
  obtain ⟨vs, hv⟩ := hf
  exact ⟨(a, oe), ⟨rfl, vs, hv, hz.2.2 vs hv⟩, List.mem_cons_self⟩
theorem fn_dxN {P : Program} {w : World} {K : PySem.W.Frag} {mg : Str → Option Value} {base : Heap} {x qual : Str} {st : Stmt} {f : Addr} {fd : FuncData} {N ps : List Str} {n : Nat} {spec : SpecD} (F : Fun K x qual st f fd) (S : FnScope N ps (defScope st))
    (hl : ∀ ds Q E, spec ds Q E → ds.length = ps.length) (hn : ps.length ≤ N.length) (W : (Exn → Prop) → WS)
    (hb : ∀ (cdv : Value) (A : Around) (outer : List Env) (s : Shared) (H : Hp) (k : Cc), Room n (A.deeper (envOfC qual (defScope st) s.heap.objs.size f cdv)) →
      DB (cxOf (L2N.CX P w) P w K mg base N qual (defScope st) f cdv A outer s H k.xk) k (defBody st) (W k.xd))
    (hW : ∀ ds Q E, spec ds Q E → W E { nx := fun _ => Q .non, rt := Q } (ρ0 N.length ds)) : FnOk P w K mg base (L2N.CX P w) (n + 1) f fd ps (spD K mg spec) := by
  obtain ⟨oc, od, kV, doc, pm, an, cdv, ct, osl, rfl, lk, hcd⟩ := F.ex
  refine fn_of lk hcd S (fun vs H Q E h => ?_) (fun A outer s H vs Q E hr h => ?_)
  · obtain ⟨s, Z, ds, Qd, Ed, _, h1, h2, _⟩ := h
    rw [h1.length]
    exact hl _ _ _ h2
  · obtain ⟨s', Z, ds, Qd, Ed, b, h1, h2, h3, h4⟩ := h
    obtain ⟨t, p, q⟩ := hb cdv A outer s H ⟨s', Ed, E⟩ hr
    refine ⟨t, p, q ⟨Z, H, Z⟩ Z H (L2.start N vs) (ρ0 N.length ds) _ _ (start_ok (c := ⟨K, mg, s'⟩) b h1 (by rw [hl _ _ _ h2]; exact hn) (fun Z' H' ex cls od st e z => h4 ex cls od Z' H' st e z)) ⟨?_, ?_, ?_, ?_⟩ (hW ds Qd Ed h2)⟩
    · exact fun Z' H' σ ρ O hq => h3 .non .non Z' H' O.en .non hq
    · exact fun Z' H' v x st _ rx hq => h3 x v Z' H' st rx hq
    · exact fun _ _ _ _ _ z => z.elim
    · exact fun _ _ _ _ _ z => z.elim
end
end Dl
set_option Elab.async false
set_option linter.all false
set_option maxRecDepth 100000
set_option maxHeartbeats 2000000
namespace Dl
open PySem PySem.Spec PyProof.Rows L2
section
variable {X : Cx} {k : Cc} {a b e c : Expr} {es : List Expr} {wa wb w : WE} {pos p p1 p2 pos2 : Pos} {rest : List Stmt}
/-! ### x += n -/
def wAug (i : Nat) (w : WE) : WS := fun d ρ => Sl.V ρ[i]? fun x => x.I fun m => w ρ fun y => y.I fun n => d.nx (ρ.set i (.val (.int (m + n))))
theorem ds_aug {i : Nat} {x : Str} {pos' : Pos} (hN : X.N.Nodup) (h : DE X k e w) (hi : X.N[i]? = some x := by rfl) (hx : Loc X.env.scope x := by first | exact Or.inl rfl | exact Or.inr rfl)
    (hf : X.fn x = true ∨ X.env.scope.names.lookup x = some .local := by first | exact .inl rfl | exact .inr rfl | assumption) : DS X k (.AugAssign (.Name x pos') .Add e pos) (wAug i w) := by
  obtain ⟨t, pe, f⟩ := h
  refine ⟨_, ps_aug hN hi hx pe ip_add hf, fun r Z H σ ρ d E O L h => ?_⟩
  obtain ⟨x0, e1, h⟩ := Sl.V_ex h
  obtain ⟨m, rfl, h⟩ := D.I_ex h
  obtain ⟨o, e2, v, rfl, r0⟩ := O.sl i _ e1
  cases r0
  refine ⟨_, e2, f r Z H σ ρ _ _ O h fun y v Z1 H1 s1 r1 h1 => ?_⟩
  obtain ⟨n, rfl, h1⟩ := D.I_ex h1
  cases r1
  exact ⟨m, n, rfl, rfl, L.nx Z1 H1 _ _ ((O.stp s1).set (.int _)) h1⟩
/-! ### range(a, b) -/
def rngL (lo hi : Int) : List D := (List.range (hi - lo).toNat).map fun i => .int (lo + (i : Nat))
def wiR2 (wa wb : WE) : WA := fun ρ Q => wa ρ fun x => x.I fun i => wb ρ fun y => y.I fun j => (-1000000 ≤ i ∧ i ≤ 1000000 ∧ -1000000 ≤ j ∧ j ≤ 1000000) ∧ Q (rngL i j)
theorem itd_range2 {c : Wc} (Z : Hp) (i j : Int) : ItD c Z (Itr i (j - i).toNat) (rngL i j) := by
  intro Z2 H2 e b
  have hl : (rngL i j).length = (j - i).toNat := by unfold rngL; rw [List.length_map, List.length_range]
  refine ⟨fun n hn => by rw [hl] at hn; exact hn, fun n hn => by rw [hl] at hn; exact hn, fun n x H' y hn => ?_⟩
  obtain ⟨rfl, rfl⟩ := y
  rw [hl] at hn
  refine ⟨.int (i + (n : Nat)), Z2, ?_, .refl b, .int _⟩
  unfold rngL
  rw [List.getElem?_map, List.getElem?_range hn]
  rfl
theorem di_range2 {tg : Expr} (ha : DE X k a wa) (hb : DE X k b wb) (hg : Gl X "range") (hm : X.mg "range" = none) (hs : starEach [a, b] X.env = [(false, eval a X.env), (false, eval b X.env)] := by rfl) (hs2 : starEach [b] X.env = [(false, eval b X.env)] := by rfl) : DI X k tg (.Call (.Name "range" p) [a, b] [] pos) (wiR2 wa wb) := by
  obtain ⟨t, pa, f⟩ := ha
  obtain ⟨t2, pb, f2⟩ := hb
  refine ⟨_, pi_range2 hg hm (pa_cons pa (pa_cons pb pa_nil hs2) (by rw [hs, hs2])) hs hs2, fun r Z H σ ρ Qd R O h q => ?_⟩
  refine f r Z H σ ρ _ _ O h fun d v Z1 H1 s1 r1 h1 => ?_
  obtain ⟨i, rfl, h1⟩ := D.I_ex h1
  cases r1
  refine f2 r Z1 H1 σ ρ _ _ (O.stp s1) h1 fun d v Z2 H2 s2 r2 h2 => ?_
  obtain ⟨j, rfl, ⟨b1, b2, b3, b4⟩, h3⟩ := D.I_ex h2
  cases r2
  exact ⟨i, j, rfl, by omega, q _ Z2 H2 _ (s1.trans s2 O.bs.st) (itd_range2 _ i j) h3⟩
/-! ### s.startswith(t, i) -/
def wSt3 (w u v : WE) : WE := fun ρ Q => w ρ fun d => d.S fun z => u ρ fun y => y.S fun t => v ρ fun j => j.I fun i => Q (.bl (Txt.startswith3 z t i))
theorem de_st3 {o e f : Expr} {apos : Pos} {u v : WE} (h : DE X k o w) (h2 : DE X k e u) (h3 : DE X k f v) (hbase : attributeBase o "startswith" X.env (eval o X.env) = eval o X.env := by rfl) (hline : (apos.endLine == pos.line) = true := by rfl)
    (s1 : starEach [e, f] X.env = (false, eval e X.env) :: starEach [f] X.env := by rfl) (s2 : starEach [f] X.env = (false, eval f X.env) :: starEach [] X.env := by rfl)
    (pb : ∀ {to : TE} {ta : TA} {r : V → List V → Hp → VK → Prop}, MtR X "str.startswith" r → PE X o to → PA X [e, f] ta → PE X (.Call (.Attribute o "startswith" apos) [e, f] [] pos) (tBM X.K "str" r to ta) := by intro _ _ _ m h1 h2; exact pe_bm PySem.F.plainAttrs_str PySem.F.slot_str_startswith PySem.F.type_str_startswith m h1 h2) :
    DE X k (.Call (.Attribute o "startswith" apos) [e, f] [] pos) (wSt3 w u v) := by
  obtain ⟨t, pa, f1⟩ := h
  obtain ⟨t2, pb2, f2⟩ := h2
  obtain ⟨t3, pc, f3⟩ := h3
  refine ⟨_, pb mt_startswith3 pa (pa_cons pb2 (pa_cons pc pa_nil s2) s1), fun r Z H σ ρ Qd Q O h q => ?_⟩
  refine f1 r Z H σ ρ _ _ O h fun x v Z1 H1 s1 r1 h1 => ?_
  obtain ⟨z, rfl, h1⟩ := D.S_ex h1
  cases r1
  refine ⟨rfl, f2 r Z1 H1 σ ρ _ _ (O.stp s1) h1 fun y u Z2 H2 s2 r2 h2 => ?_⟩
  obtain ⟨y, rfl, h2⟩ := D.S_ex h2
  cases r2
  have s12 := s1.trans s2 O.bs.st
  refine f3 r Z2 H2 σ ρ _ _ (O.stp s12) h2 fun j w Z3 H3 s3 r3 h3 => ?_
  obtain ⟨i, rfl, h3⟩ := D.I_ex h3
  cases r3
  exact ⟨z, y, i, rfl, rfl, q _ _ Z3 H3 (s12.trans s3 O.bs.st) (.bl _) h3⟩
/-! ### int(text) -/
def rdCints : RAD := fun ds Q => match ds with
  | [.str s] => s.length ≤ 640 ∧ ∃ n, PySem.intText? s = some n ∧ Q (.int n)
  | _ => False
theorem de_Cints {u : WA} (hm : X.mg "int" = none) (ha : DA X k [e] u) (hg : Gl X "int" := by rfl) (he : starEach [e] X.env = (false, eval e X.env) :: starEach [] X.env := by rfl) : DE X k (.Call (.Name "int" p) [e] [] pos) (wCB rdCints u) := by
  refine de_ty call_int_str ?_ hm PyProof.Rows.boot_int ha hg (by decide) (by decide) he
  intro Z H xs ds Qd Q B ra h q
  match ds, xs, ra, h with
  | [.str s], [_], .cons (.str _) .nil, h => obtain ⟨hl, n, e, h⟩ := h; exact ⟨s, n, rfl, e, hl, q _ _ Z H (.refl B) (.int _) h⟩
/-! ### text * n -/
def rdRep : R2D := fun a b Q => a.S fun x => b.I fun n => (x.length ≤ 16 ∧ 0 ≤ n ∧ n ≤ 1000) ∧ Q (.str (Txt.mul x n))
theorem op_rep_str : OpR X (binaryOp .Mult) (fun x y H Q => ∃ s n, x = .str s ∧ y = .int n ∧ (s.length ≤ 16 ∧ 0 ≤ n ∧ n ≤ 1000) ∧ Q (.str (Txt.mul s n)) H) := by
  intro pins s σ H x y v u Q I rx ry h
  obtain ⟨i, j, rfl, rfl, ⟨h1, h2, h3⟩, q⟩ := h
  obtain ⟨t, rfl⟩ := rx
  obtain ⟨t', rfl⟩ := ry
  exact PySem.W.KXi.mul rfl h1 (by omega) (by omega) (fun t' tk _ _ => ⟨.str (Txt.mul i j), H, I.tok _, ⟨_, rfl⟩, q⟩)
theorem de_rep (ha : DE X k a wa) (hb : DE X k b wb) : DE X k (.BinOp a .Mult b pos) (wOp rdRep wa wb) := by
  refine de_op op_rep_str ?_ ha hb
  intro Z H x y a b Qd Q B ra rb h q
  obtain ⟨s, rfl, h⟩ := D.S_ex h
  obtain ⟨n, rfl, h1, h2⟩ := D.I_ex h
  cases ra
  cases rb
  exact ⟨s, n, rfl, rfl, h1, q _ _ Z H (.refl B) (.str _) h2⟩
end
/-! ### loops by a measure, the rest of the loop kept shut -/
theorem wh_rule {w : WT} {u : WS} {d : DEnds} (P : Nat → En → Prop)
    (step : ∀ (m : Nat) (ρ : En) (N : En → Prop), P m ρ → (∀ m' ρ', m' < m → P m' ρ' → N ρ') → w ρ fun b => if b = true then u { nx := N, rt := d.rt, bk := d.nx, ct := N } ρ else d.nx ρ) {m : Nat} {ρ : En} (h : P m ρ) : wWhile w u d ρ := by
  have key : ∀ (n m : Nat) (ρ : En), m < n → P m ρ → wWhN w u n d ρ := by
    intro n
    induction n with
    | zero => intro m ρ h; omega
    | succ n ih => exact fun m ρ hm hp => step m ρ (wWhN w u n d) hp fun m' ρ' h1 h2 => ih m' ρ' (by omega) h2
  exact ⟨m + 1, key (m + 1) m ρ (Nat.lt_succ_self m) h⟩
theorem for_rule {g : WG} {u : WS} {d : DEnds} (P : List D → En → Prop)
    (step : ∀ (x : D) (xs : List D) (ρ : En) (N : En → Prop), P (x :: xs) ρ → (∀ ρ', P xs ρ' → N ρ') → g x ρ fun ρ1 => u { nx := N, rt := d.rt, bk := d.nx, ct := N } ρ1) (he : ∀ ρ, P [] ρ → d.nx ρ) : ∀ (xs : List D) (ρ : En), P xs ρ → wForL g u xs d ρ
  | [], ρ, h => he ρ h
  | x :: xs, ρ, h => step x xs ρ (wForL g u xs d) h fun ρ' h' => for_rule P step he xs ρ' h'
end Dl
set_option Elab.async false
set_option linter.all false
set_option maxRecDepth 100000
set_option maxHeartbeats 2000000
namespace K5
open PySem PySem.Spec PyProof.Rows L2 Dl
/-! ### names, numbers, words: the mathematics -/
def mk (l : List Nat) : Str := ⟨l.toArray⟩
def isLet (c : Nat) : Bool := decide (97 ≤ c ∧ c ≤ 122) || decide (65 ≤ c ∧ c ≤ 90)
def isNam (c : Nat) : Bool := isLet c || decide (48 ≤ c ∧ c ≤ 57) || decide (c = 95)
def nameL : List Nat → Bool
  | [] => false
  | c :: r => decide (r.length ≤ 29) && isLet c && (c :: r).all isNam
def nameS (s : Str) : Bool := nameL (cs s)
def plain (c : Nat) : Bool := decide (32 ≤ c ∧ c ≤ 126 ∧ c ≠ 37)
def fitsD (sc : Str) : D → Bool
  | .bl _ => decide (sc = "Truth")
  | .int i => decide (sc = "Int") && decide (-2147483648 ≤ i ∧ i ≤ 2147483647)
  | .str s => decide (sc = "Text") && (cs s).all plain
  | _ => false
def isDig (c : Nat) : Bool := decide (48 ≤ c ∧ c ≤ 57)
def isBlk (c : Nat) : Bool := decide (c ∈ cs " \n,")
def isSg (c : Nat) : Bool := decide (c ∈ cs "{}():=![]@")
def gd (c : Nat) : Bool := plain c || decide (c = 10)
def noQ (c : Nat) : Bool := !decide (c = 34)
def run (p : Nat → Bool) (l : List Nat) : Nat := (l.takeWhile p).length
abbrev WR := Option (Str × D × Nat)
def numV (l : List Nat) : Int := ((NumText.digitsVal l : Nat) : Int)
def nameW (l : List Nat) : WR := if l.takeWhile isNam = cs "_type" ∨ nameL (l.takeWhile isNam) = true then some ("name", .str (mk (l.takeWhile isNam)), run isNam l) else none
def varW (l : List Nat) : WR := if nameL ((l.drop 1).takeWhile isNam) = true then some ("variable", .str (mk ((l.drop 1).takeWhile isNam)), 1 + run isNam (l.drop 1)) else none
def numW (l : List Nat) : WR :=
  if l.head? = some 45 then (if 1 ≤ run isDig (l.drop 1) ∧ run isDig (l.drop 1) ≤ 10 then some ("number", .int (-numV ((l.drop 1).takeWhile isDig)), 1 + run isDig (l.drop 1)) else none)
  else if 1 ≤ run isDig l ∧ run isDig l ≤ 10 then some ("number", .int (numV (l.takeWhile isDig)), run isDig l) else none
def txtW (l : List Nat) : WR := if 34 ∈ l.drop 1 ∧ ((l.drop 1).takeWhile noQ).all plain = true then some ("text", .str (mk ((l.drop 1).takeWhile noQ)), 1 + run noQ (l.drop 1) + 1) else none
def wordL (l : List Nat) : WR := match l with
  | [] => none
  | c :: r =>
    if isSg c = true then some ("sign", .str ⟨#[c]⟩, 1)
    else if (c :: r).take 3 = [46, 46, 46] then some ("sign", .str "...", 3)
    else if c = 34 then txtW (c :: r)
    else if c = 36 then varW (c :: r)
    else if c = 45 ∨ isDig c = true then numW (c :: r)
    else nameW (c :: r)
def splF : Nat → Nat → List Nat → Nat ⊕ List D
  | 0, _, _ => .inr []
  | _ + 1, _, [] => .inr []
  | f + 1, i, c :: r => if isBlk c = true then splF f (i + 1) r else match wordL (c :: r) with
    | none => .inl i
    | some (k, d, n) => match splF f (i + n) ((c :: r).drop n) with
      | .inl j => .inl j
      | .inr ws => .inr (.tup [.int (i : Nat), .str k, d] :: ws)
def spl (i : Nat) (l : List Nat) : Nat ⊕ List D := splF l.length i l
def encS : Nat ⊕ List D → D
  | .inl j => .tup [.str "fault", .int (j : Nat)]
  | .inr ws => .tup [.str "words", .lst ws]
def flt (i : Nat) : Exn := ⟨"InvalidDocument", some [("place", .int (i : Nat))]⟩
def outW (i : Nat) (o : WR) (Q : D → Prop) (E : Exn → Prop) : Prop := match o with
  | some (k, d, n) => Q (.tup [.str k, d, .int ((i + n : Nat) : Int)])
  | none => E (flt i)
def outL (i : Nat) (o : WR) (Q : D → Prop) : Prop := match o with
  | some (k, d, n) => Q (.tup [.str "word", .tup [.str k, d], .int ((i + n : Nat) : Int)])
  | none => Q (.tup [.str "fault", .int (i : Nat)])
/-- what an error keeps as its place -/
def goodF (lit : Str) (v : V) : Prop := ∃ i : Int, v = .int i ∧ i.natAbs.log2 < 1920 ∧ (lit ++ (toString i : Str)).length ≤ 1000000
/-! ### the promises -/
def sp_is_name : SpecD := fun ds Q _ => ∃ t : Str, ds = [.str t] ∧ t.length ≤ 1000 ∧ Q (.bl (nameS t))
def sp_is_plain : SpecD := fun ds Q _ => ∃ i : Int, ds = [.int i] ∧ Q (.bl (decide (32 ≤ i ∧ i ≤ 126 ∧ i ≠ 37)))
def sp_fits : SpecD := fun ds Q _ => ∃ (sc : Str) (v : D), ds = [.str sc, v] ∧ (∃ t, tyN v = some t) ∧ (∀ s, v = .str s → s.length ≤ 1000) ∧ Q (.bl (fitsD sc v))
def sp_may_follow : SpecD := fun ds Q _ => ∃ c : Nat, ds = [.str ⟨#[c]⟩] ∧ Q (.bl (isNam c))
def sp_is_digit : SpecD := fun ds Q _ => ∃ c : Nat, ds = [.str ⟨#[c]⟩] ∧ Q (.bl (isDig c))
def sp_end_of_name : SpecD := fun ds Q _ => ∃ (t : Str) (i : Nat), ds = [.str t, .int (i : Nat)] ∧ i ≤ t.length ∧ t.length ≤ 1000 ∧ Q (.int ((i + run isNam ((cs t).drop i) : Nat) : Int))
def sp_rd (w : List Nat → WR) : SpecD := fun ds Q E => ∃ (t : Str) (i : Nat), ds = [.str t, .int (i : Nat)] ∧ i < t.length ∧ t.length ≤ 1000 ∧ outW i (w ((cs t).drop i)) Q E
def sp_read_name : SpecD := sp_rd nameW
def sp_read_number : SpecD := sp_rd numW
def sp_read_variable : SpecD := sp_rd varW
def sp_read_text : SpecD := sp_rd txtW
def sp_read_word : SpecD := sp_rd wordL
def sp_split_words : SpecD := fun ds Q E => ∃ t : Str, ds = [.str t] ∧ t.length ≤ 1000 ∧ match spl 0 (cs t) with
  | .inl j => E (flt j)
  | .inr ws => Q (.lst ws)
def sp_l_is_integer : SpecD := fun ds Q _ => ∃ v : D, ds = [v] ∧ (∃ t, tyN v = some t) ∧ Q (.bl (match v with
  | .int _ => true
  | _ => false))
def sp_l_refill : SpecD := fun ds Q _ => ∃ (ns : List Int) (k : Int), ds = [.scr ns, .int k] ∧ 0 ≤ k ∧ ∀ v, 0 ≤ v → Q (.int v)
def sp_l_draw : SpecD := fun ds Q _ => ∃ (ns : List Int) (n : Int), ds = [.drw, .scr ns, .int n] ∧ 0 < n ∧ n < 2 ^ 60 ∧ ∀ d, 0 ≤ d → d < n → Q (.int d)
def sp_l_run : SpecD := fun ds Q _ => ∃ (t z : Str) (i : Nat), ds = [.str t, .int (i : Nat), .str z] ∧ i ≤ t.length ∧ t.length ≤ 1000 ∧ Q (.int ((i + run (fun c => decide (c ∈ cs z)) ((cs t).drop i) : Nat) : Int))
def sp_l_named : SpecD := fun ds Q _ => ∃ (t : Str) (i j : Nat), ds = [.str t, .int (i : Nat), .int (j : Nat)] ∧ i ≤ t.length ∧ t.length ≤ 1000 ∧ match nameW ((cs t).drop i) with
  | some (_, d, n) => Q (.tup [.str "word", d, .int ((i + n : Nat) : Int)])
  | none => Q (.tup [.str "fault", .int (j : Nat)])
def sp_l_word_at : SpecD := fun ds Q _ => ∃ (t : Str) (i : Nat), ds = [.str t, .int (i : Nat)] ∧ i < t.length ∧ t.length ≤ 1000 ∧ (∀ c ∈ cs t, gd c = true) ∧ outL i (wordL ((cs t).drop i)) Q
def sp_l_split : SpecD := fun ds Q _ => ∃ t : Str, ds = [.str t] ∧ t.length ≤ 1000 ∧ (∀ c ∈ cs t, gd c = true) ∧ Q (encS (spl 0 (cs t)))
def sp_l_told : SpecD := fun ds Q _ => ∃ t : Str, ds = [.str t] ∧ t.length ≤ 1000 ∧ Q (encS (spl 0 (cs t)))
def sp_l_piece : SpecD := fun ds Q _ => ∃ ns : List Int, ds = [.drw, .scr ns] ∧ ∀ s : Str, s.length ≤ 31 → (∀ c ∈ cs s, gd c = true) → Q (.str s)
/-! ### the words of a text -/
theorem takeWhile_all (p : Nat → Bool) : ∀ l : List Nat, ∀ c ∈ l.takeWhile p, p c = true
  | [], c, h => by cases h
  | a :: r, c, h => by
    rw [List.takeWhile_cons] at h
    split at h
    · rename_i ha
      rcases List.mem_cons.mp h with rfl | h
      · exact ha
      · exact takeWhile_all p r c h
    · cases h
theorem run_le (p : Nat → Bool) : ∀ l : List Nat, run p l ≤ l.length
  | [] => Nat.le_refl _
  | a :: r => by
    unfold run
    rw [List.takeWhile_cons]
    split
    · have := run_le p r
      unfold run at this
      simp only [List.length_cons]
      omega
    · exact Nat.zero_le _
theorem run_cons_t {p : Nat → Bool} {c : Nat} {r : List Nat} (h : p c = true) : run p (c :: r) = run p r + 1 := by
  unfold run
  rw [List.takeWhile_cons, if_pos h, List.length_cons]
theorem run_cons_f {p : Nat → Bool} {c : Nat} {r : List Nat} (h : p c = false) : run p (c :: r) = 0 := by
  unfold run
  rw [List.takeWhile_cons, if_neg (by rw [h]; exact Bool.false_ne_true)]
  rfl
theorem run_congr {p q : Nat → Bool} (h : ∀ c, p c = q c) (l : List Nat) : run p l = run q l := by
  have : p = q := funext h
  rw [this]
theorem take_run (p : Nat → Bool) : ∀ l : List Nat, l.take (run p l) = l.takeWhile p
  | [] => rfl
  | a :: r => by
    cases h : p a with
    | true => rw [run_cons_t h, List.takeWhile_cons, if_pos h, List.take_succ_cons, take_run p r]
    | false => rw [run_cons_f h, List.takeWhile_cons, if_neg (by rw [h]; exact Bool.false_ne_true)]; rfl
theorem mem_tw {p : Nat → Bool} {l : List Nat} {c : Nat} (h : c ∈ l.takeWhile p) : c ∈ l := (List.takeWhile_sublist p).mem h
/-- what is known of a word -/
theorem wordL_ok {l : List Nat} {k : Str} {d : D} {n : Nat} (h : wordL l = some (k, d, n)) : 1 ≤ n ∧ n ≤ l.length ∧ ((k = "number" ∧ ∃ i, d = .int i) ∨ (k ≠ "number" ∧ ∃ s, d = .str s ∧ ∀ c ∈ cs s, c ∈ l ∨ c = 46)) ∧ (k = "sign" ∨ k = "text" ∨ k = "variable" ∨ k = "number" ∨ k = "name") := by
  cases l with
  | nil => cases h
  | cons c r =>
    unfold wordL at h
    simp only at h
    split at h
    · simp only [Option.some.injEq, Prod.mk.injEq] at h
      obtain ⟨rfl, rfl, rfl⟩ := h
      refine ⟨by omega, by simp, .inr ⟨by decide, _, rfl, fun x hx => .inl ?_⟩, by simp⟩
      have : x ∈ [c] := hx
      rw [List.mem_singleton] at this
      rw [this]
      exact List.mem_cons_self
    · split at h
      · rename_i h3
        simp only [Option.some.injEq, Prod.mk.injEq] at h
        obtain ⟨rfl, rfl, rfl⟩ := h
        have hl : ((c :: r).take 3).length = 3 := by rw [h3]; rfl
        rw [List.length_take] at hl
        refine ⟨by omega, by omega, .inr ⟨by decide, _, rfl, fun x hx => .inr ?_⟩, by simp⟩
        have : ∀ x ∈ cs "...", x = 46 := by decide
        exact this x hx
      · split at h
        · unfold txtW at h
          split at h
          · rename_i hq
            simp only [Option.some.injEq, Prod.mk.injEq] at h
            obtain ⟨rfl, rfl, rfl⟩ := h
            have hl := run_le noQ r
            have hlt : run noQ r < r.length := by
              refine Nat.lt_of_le_of_ne hl fun e => ?_
              have e2 := take_run noQ r
              rw [e, List.take_length] at e2
              have hm : 34 ∈ r := hq.1
              rw [e2] at hm
              have := takeWhile_all noQ _ _ hm
              exact absurd this (by decide)
            simp only [List.drop_succ_cons, List.drop_zero, List.length_cons]
            exact ⟨by omega, by omega, .inr ⟨by decide, _, rfl, fun x hx => .inl (List.mem_cons_of_mem _ (mem_tw hx))⟩, by simp⟩
          · cases h
        · split at h
          · unfold varW at h
            split at h
            · simp only [Option.some.injEq, Prod.mk.injEq] at h
              obtain ⟨rfl, rfl, rfl⟩ := h
              have hl := run_le isNam r
              simp only [List.drop_succ_cons, List.drop_zero, List.length_cons]
              exact ⟨by omega, by omega, .inr ⟨by decide, _, rfl, fun x hx => .inl (List.mem_cons_of_mem _ (mem_tw hx))⟩, by simp⟩
            · cases h
          · split at h
            · unfold numW at h
              have hl := run_le isDig r
              have hl2 := run_le isDig (c :: r)
              split at h
              · split at h
                · simp only [Option.some.injEq, Prod.mk.injEq] at h
                  obtain ⟨rfl, rfl, rfl⟩ := h
                  simp only [List.drop_succ_cons, List.drop_zero, List.length_cons]
                  exact ⟨by omega, by omega, .inl ⟨trivial, _, rfl⟩, by simp⟩
                · cases h
              · split at h
                · simp only [Option.some.injEq, Prod.mk.injEq] at h
                  obtain ⟨rfl, rfl, rfl⟩ := h
                  exact ⟨by omega, hl2, .inl ⟨rfl, _, rfl⟩, by simp⟩
                · cases h
            · unfold nameW at h
              split at h
              · rename_i hn
                simp only [Option.some.injEq, Prod.mk.injEq] at h
                obtain ⟨rfl, rfl, rfl⟩ := h
                refine ⟨?_, run_le _ _, .inr ⟨by decide, _, rfl, fun x hx => .inl (mem_tw hx)⟩, by simp⟩
                unfold run
                rcases hn with hn | hn
                · rw [hn]; decide
                · cases e : (c :: r).takeWhile isNam with
                  | nil => rw [e] at hn; cases hn
                  | cons a b => simp
              · cases h
theorem splF_eq : ∀ (f g : Nat) (i : Nat) (l : List Nat), l.length ≤ f → l.length ≤ g → splF f i l = splF g i l
  | 0, 0, i, l, _, _ => rfl
  | 0, g + 1, i, [], _, _ => rfl
  | f + 1, 0, i, [], _, _ => rfl
  | f + 1, g + 1, i, [], _, _ => rfl
  | f + 1, g + 1, i, c :: r, h1, h2 => by
    simp only [List.length_cons] at h1 h2
    unfold splF
    split
    · exact splF_eq f g _ r (by omega) (by omega)
    · cases hw : wordL (c :: r) with
      | none => rfl
      | some x =>
        obtain ⟨k, d, n⟩ := x
        have hn := wordL_ok hw
        simp only [List.length_cons] at hn
        simp only
        rw [splF_eq f g (i + n) ((c :: r).drop n) (by rw [List.length_drop, List.length_cons]; omega) (by rw [List.length_drop, List.length_cons]; omega)]
theorem spl_nil (i : Nat) : spl i [] = .inr [] := rfl
theorem spl_blk {i c : Nat} {r : List Nat} (h : isBlk c = true) : spl i (c :: r) = spl (i + 1) r := by
  unfold spl
  rw [List.length_cons]
  show (if isBlk c = true then splF r.length (i + 1) r else _) = _
  rw [if_pos h]
theorem spl_word {i c : Nat} {r : List Nat} (h : isBlk c = false) : spl i (c :: r) = match wordL (c :: r) with
    | none => .inl i
    | some (k, d, n) => match spl (i + n) ((c :: r).drop n) with
      | .inl j => .inl j
      | .inr ws => .inr (.tup [.int (i : Nat), .str k, d] :: ws) := by
  unfold spl
  rw [List.length_cons]
  show (if isBlk c = true then splF r.length (i + 1) r else _) = _
  rw [if_neg (by rw [h]; exact Bool.false_ne_true)]
  cases hw : wordL (c :: r) with
  | none => rfl
  | some x =>
    obtain ⟨k, d, n⟩ := x
    have hn := wordL_ok hw
    simp only [List.length_cons] at hn
    simp only
    rw [splF_eq r.length ((c :: r).drop n).length (i + n) ((c :: r).drop n) (by rw [List.length_drop, List.length_cons]; omega) (Nat.le_refl _)]
theorem spl_skip : ∀ (l : List Nat) (i : Nat), spl i l = spl (i + run isBlk l) (l.drop (run isBlk l))
  | [], i => rfl
  | c :: r, i => by
    cases h : isBlk c with
    | true =>
      rw [spl_blk h, run_cons_t h, spl_skip r (i + 1), List.drop_succ_cons]
      congr 1
      omega
    | false => rw [run_cons_f h]; rfl
theorem run_rest (p : Nat → Bool) : ∀ l : List Nat, ∀ c r, l.drop (run p l) = c :: r → p c = false
  | [], c, r, h => by cases h
  | a :: l, c, r, h => by
    cases ha : p a with
    | true => rw [run_cons_t ha, List.drop_succ_cons] at h; exact run_rest p l c r h
    | false =>
      rw [run_cons_f ha] at h
      simp only [List.drop_zero, List.cons.injEq] at h
      rw [← h.1]
      exact ha
/-- the words are of the kinds that the law looks at, and can be compared -/
def wOk (d : D) : Prop := ∃ (i : Int) (k : Str) (v : D), d = .tup [.int i, .str k, v] ∧ ((k = "number" ∧ ∃ i, v = .int i) ∨ (k ≠ "number" ∧ ∃ s, v = .str s)) ∧ PyData.strOk k = true ∧ v.fit = true ∧ v.dep = 0
theorem strOk_lt {s : Str} (h : ∀ c ∈ cs s, c < 128) : PyData.strOk s = true := by
  unfold PyData.strOk
  rw [← Array.all_toList, List.all_eq_true]
  intro c hc
  have := h c hc
  exact decide_eq_true (by omega)
theorem gd_lt {c : Nat} (h : gd c = true) : c < 128 := by
  unfold gd plain at h
  simp only [Bool.or_eq_true, decide_eq_true_eq] at h
  omega
theorem spl_ok : ∀ (m : Nat) (l : List Nat) (i : Nat) (ws : List D), l.length ≤ m → (∀ c ∈ l, gd c = true) → spl i l = .inr ws → (∀ d ∈ ws, wOk d) ∧ ws.length ≤ l.length
  | _, [], i, ws, _, _, e => by
    rw [spl_nil] at e
    cases e
    exact ⟨fun d h => (nomatch h), Nat.le_refl _⟩
  | 0, c :: r, i, ws, h, _, _ => by simp at h
  | m + 1, c :: r, i, ws, h, hg, e => by
    simp only [List.length_cons] at h
    cases hb : isBlk c with
    | true =>
      rw [spl_blk hb] at e
      obtain ⟨h1, h2⟩ := spl_ok m r (i + 1) ws (by omega) (fun c h => hg c (List.mem_cons_of_mem _ h)) e
      exact ⟨h1, by simp only [List.length_cons]; omega⟩
    | false =>
      rw [spl_word hb] at e
      cases hw : wordL (c :: r) with
      | none => rw [hw] at e; cases e
      | some x =>
        obtain ⟨k, d, n⟩ := x
        rw [hw] at e
        simp only at e
        obtain ⟨n1, n2, hk, hkk⟩ := wordL_ok hw
        cases hs : spl (i + n) ((c :: r).drop n) with
        | inl j => rw [hs] at e; cases e
        | inr us =>
          rw [hs] at e
          simp only [Sum.inr.injEq] at e
          subst e
          simp only [List.length_cons] at n2
          obtain ⟨h1, h2⟩ := spl_ok m ((c :: r).drop n) (i + n) us (by rw [List.length_drop, List.length_cons]; omega) (fun c h => hg c (List.mem_of_mem_drop h)) hs
          rw [List.length_drop, List.length_cons] at h2
          refine ⟨fun d' hd' => ?_, by simp only [List.length_cons]; omega⟩
          rcases List.mem_cons.mp hd' with rfl | hd'
          · refine ⟨_, _, _, rfl, ?_, ?_, ?_⟩
            · rcases hk with hk | ⟨hk, s, e, _⟩
              · exact .inl hk
              · exact .inr ⟨hk, s, e⟩
            · rcases hkk with rfl | rfl | rfl | rfl | rfl <;> decide +kernel
            · rcases hk with ⟨_, j, rfl⟩ | ⟨_, s, rfl, hs⟩
              · exact ⟨rfl, rfl⟩
              · refine ⟨strOk_lt fun c hc => ?_, rfl⟩
                rcases hs c hc with h | h
                · exact gd_lt (hg c h)
                · omega
          · exact h1 d' hd'
theorem wOk_fit : ∀ ws : List D, (∀ d ∈ ws, wOk d) → D.fitA ws = true ∧ D.depA ws ≤ 1
  | [], _ => ⟨rfl, Nat.zero_le _⟩
  | d :: r, h => by
    obtain ⟨h1, h2⟩ := wOk_fit r fun d hd => h d (List.mem_cons_of_mem _ hd)
    obtain ⟨i, k, v, rfl, _, hk, hv, hd⟩ := h d List.mem_cons_self
    constructor
    · simp only [D.fitA, D.fit, hk, hv, h1, Bool.and_self]
    · simp only [D.depA, D.dep, hd]
      omega
theorem encS_ok {l : List Nat} (h : ∀ c ∈ l, gd c = true) : (encS (spl 0 l)).ok := by
  cases e : spl 0 l with
  | inl j => exact ⟨by simp only [encS, D.fit, D.fitA]; decide +kernel, by simp only [encS, D.dep, D.depA]; omega⟩
  | inr ws =>
    obtain ⟨h1, _⟩ := spl_ok _ l 0 ws (Nat.le_refl _) h e
    obtain ⟨h2, h3⟩ := wOk_fit ws h1
    refine ⟨?_, ?_⟩
    · simp only [encS, D.fit, D.fitA, h2]
      decide +kernel
    · simp only [encS, D.dep, D.depA]
      omega
end K5
set_option Elab.async false
set_option linter.all false
set_option maxRecDepth 100000
set_option maxHeartbeats 2000000
namespace K5
open PySem PySem.Spec PyProof.Rows L2 Dl PySem.Builtin.Str
theorem mk_cs (t : Str) : mk (cs t) = t := by
  apply cs_inj
  rfl
theorem cs_mk (l : List Nat) : cs (mk l) = l := rfl
theorem cut_nat (z : Str) (i j : Nat) : cs (cutS z (some (i : Int)) (some (j : Int))) = ((cs z).drop i).take (j - i) := by
  rw [cs_cut, HT.sIx_nat, HT.sIx_nat, ← cs_len]
  by_cases h : i ≤ (cs z).length
  · rw [Nat.min_eq_left h, List.take_eq_take_iff, List.length_drop]
    omega
  · have e : min i (cs z).length = (cs z).length := by omega
    rw [e, List.drop_eq_nil_of_le (Nat.le_refl _), List.drop_eq_nil_of_le (show (cs z).length ≤ i by omega), List.take_nil, List.take_nil]
theorem cut_run (z : Str) (p : Nat → Bool) (i : Nat) : cutS z (some (i : Int)) (some ((i + run p ((cs z).drop i) : Nat) : Int)) = mk (((cs z).drop i).takeWhile p) := by
  apply cs_inj
  rw [cut_nat, cs_mk, show i + run p ((cs z).drop i) - i = run p ((cs z).drop i) by omega, take_run]
theorem at_drop {t : Str} {i : Nat} (h : i < t.length) : ∃ c r, (cs t).drop i = c :: r ∧ (cs t).drop (i + 1) = r ∧ atI t.cps.toList (i : Int) = some c ∧ c ∈ cs t := by
  have hl : i < (cs t).length := by rw [cs_len]; exact h
  refine ⟨(cs t)[i], (cs t).drop (i + 1), List.drop_eq_getElem_cons hl, rfl, atI_nat (List.getElem?_eq_getElem hl), List.getElem_mem hl⟩
theorem drop_all {t : Str} {i : Nat} (h : t.length ≤ i) : (cs t).drop i = [] := List.drop_eq_nil_of_le (by rw [cs_len]; exact h)
theorem from_nat {n i : Nat} : fromIndex n (i : Int) = i := by
  unfold fromIndex
  rw [if_neg (by omega)]
  omega
theorem occ_full (s sub : Str) (hi : Nat) : ∀ (l : List Nat) (st : Array Nat × Nat), st.fst.size = 1 → (forIn l st (PySem.StrLaws.occBody s sub hi 1)).run.fst = st.fst
  | [], st, h => rfl
  | a :: l, st, h => by
    rw [List.forIn_cons]
    unfold PySem.StrLaws.occBody
    rw [if_neg (fun z => by have := z.1.1.1; omega)]
    exact occ_full s sub hi l _ h
theorem occ_first (t : Str) (c : Nat) : ∀ (n lo free : Nat), free ≤ lo → lo + n = t.length + 1 →
    (forIn (List.range' lo n) ((#[] : Array Nat), free) (PySem.StrLaws.occBody t ⟨#[c]⟩ t.length 1)).run.fst.toList = if c ∈ (cs t).drop lo then [lo + run (fun x => !decide (x = c)) ((cs t).drop lo)] else []
  | 0, lo, free, h1, h2 => by
    rw [drop_all (by omega), if_neg (List.not_mem_nil)]
    rfl
  | n + 1, lo, free, h1, h2 => by
    rw [List.range'_succ, List.forIn_cons]
    unfold PySem.StrLaws.occBody
    have key := PySem.StrLaws.subAt_one t c lo
    by_cases hc : (cs t)[lo]? = some c
    · have hk := key.mpr hc
      rw [if_pos ⟨⟨⟨by simp, h1⟩, hk.1⟩, hk.2⟩]
      have e := occ_full t ⟨#[c]⟩ t.length (List.range' (lo + 1) n) ((#[] : Array Nat).push lo, lo + (⟨#[c]⟩ : Str).length) rfl
      have hlt := (List.getElem?_eq_some_iff.mp hc).1
      have hd : (cs t).drop lo = c :: (cs t).drop (lo + 1) := by
        rw [List.drop_eq_getElem_cons hlt]
        rw [List.getElem?_eq_getElem hlt] at hc
        rw [Option.some.inj hc]
      rw [hd, if_pos List.mem_cons_self, run_cons_f (by simp)]
      exact congrArg Array.toList e
    · rw [if_neg (fun z => hc (key.mp ⟨z.1.2, z.2⟩))]
      have ih := occ_first t c n (lo + 1) free (by omega) (by omega)
      have e3 : (if c ∈ (cs t).drop (lo + 1) then [lo + 1 + run (fun x => !decide (x = c)) ((cs t).drop (lo + 1))] else []) = if c ∈ (cs t).drop lo then [lo + run (fun x => !decide (x = c)) ((cs t).drop lo)] else [] := by
        by_cases hlt : lo < t.length
        · obtain ⟨a, r, e1, e2, _, _⟩ := at_drop hlt
          have ha : a ≠ c := fun z => by
            have : (cs t)[lo]? = ((cs t).drop lo)[0]? := by rw [List.getElem?_drop]; rfl
            rw [e1] at this
            exact hc (by rw [this, z]; rfl)
          rw [e1, e2, run_cons_t (by simpa using ha)]
          by_cases hm : c ∈ r
          · rw [if_pos hm, if_pos (List.mem_cons_of_mem _ hm)]
            congr 1
            omega
          · rw [if_neg hm, if_neg (fun z => by
              rcases List.mem_cons.mp z with z | z
              · exact ha z.symm
              · exact hm z)]
        · rw [drop_all (i := lo + 1) (by omega), drop_all (i := lo) (by omega), if_neg List.not_mem_nil, if_neg List.not_mem_nil]
      rw [← e3]
      exact ih
theorem find3_one {t : Str} {c i : Nat} (h : i ≤ t.length) : Txt.find3 t ⟨#[c]⟩ (i : Int) = if c ∈ (cs t).drop i then ((i + run (fun x => !decide (x = c)) ((cs t).drop i) : Nat) : Int) else -1 := by
  unfold Txt.find3
  rw [from_nat, PySem.StrLaws.occ_eq, occ_first t c _ i i (Nat.le_refl _) (by omega)]
  split
  · rename_i k r e
    split at e
    · rename_i hm
      rw [if_pos hm]
      simp only [List.cons.injEq] at e
      rw [← e.1]
    · cases e
  · rename_i e
    split at e
    · cases e
    · rename_i hm
      rw [if_neg hm]
theorem st3_dots {t : Str} {i : Nat} : Txt.startswith3 t "..." (i : Int) = decide (((cs t).drop i).take 3 = [46, 46, 46]) := by
  unfold Txt.startswith3
  rw [from_nat, PySem.StrLaws.subAt_eq]
  show (decide (i + 3 ≤ t.length) && (((cs t).drop i).take 3 == [46, 46, 46])) = _
  by_cases h : ((cs t).drop i).take 3 = [46, 46, 46]
  · have hl : (((cs t).drop i).take 3).length = 3 := by rw [h]; rfl
    rw [List.length_take, List.length_drop, cs_len] at hl
    rw [decide_eq_true h, decide_eq_true (by omega), beq_iff_eq.mpr h]
    rfl
  · rw [decide_eq_false h, beq_eq_false_iff_ne.mpr h, Bool.and_false]
theorem dig_all {l : List Nat} (h : ∀ c ∈ l, isDig c = true) : NumText.AllDigits l := fun c hc => by
  have := h c hc
  unfold isDig at this
  exact of_decide_eq_true this
theorem int_dig {l : List Nat} (h : ∀ c ∈ l, isDig c = true) (h1 : 1 ≤ l.length) (h2 : l.length ≤ 640) : PySem.intText? (mk l) = some (numV l) :=
  intText_digits (x := mk l) (dig_all h) (fun e => by
    have : l = [] := e
    rw [this] at h1
    simp at h1) (by
    have : (mk l).length = l.length := by rw [← cs_len, cs_mk]
    omega)
theorem int_neg {l : List Nat} (h : ∀ c ∈ l, isDig c = true) (h1 : 1 ≤ l.length) (h2 : l.length ≤ 640) : PySem.intText? (mk (45 :: l)) = some (-numV l) :=
  intText_neg (x := mk (45 :: l)) rfl (dig_all h) (fun e => by
    rw [e] at h1
    simp at h1) (by
    have : (mk (45 :: l)).length = l.length + 1 := by rw [← cs_len, cs_mk]; rfl
    omega)
theorem tw_len (p : Nat → Bool) (l : List Nat) : (l.takeWhile p).length = run p l := rfl
theorem mk_len (l : List Nat) : (mk l).length = l.length := by rw [← cs_len, cs_mk]
/-- a text of one sign against a text -/
theorem one_eq (a b : Nat) : ((⟨#[a]⟩ : Str) = ⟨#[b]⟩) = (a = b) := by
  apply propext
  constructor
  · intro h
    have := congrArg cs h
    simpa using this
  · intro h
    rw [h]
theorem sg_eq (c : Nat) (s : Str) (b : Nat) (h : s = ⟨#[b]⟩) : decide ((⟨#[c]⟩ : Str) = s) = decide (c = b) := by
  rw [h]
  exact decide_eq_decide.mpr (by rw [one_eq])
theorem goodF_nat {i : Nat} (h : i ≤ 1000) : goodD (goodF "the document does not fit at place ") (.int (i : Nat)) := by
  intro c Z v r
  cases r
  have key : ∀ j ∈ List.range 1001, ((toString ((j : Nat) : Int) : Str)).length ≤ 10 := by decide +kernel
  refine ⟨_, rfl, ?_, ?_⟩
  · refine Nat.lt_of_le_of_lt (Nat.log2_le_self _) ?_
    show (i : Int).natAbs < 1920
    omega
  · have := key i (List.mem_range.mpr (by omega))
    rw [len_app]
    have e : ("the document does not fit at place " : Str).length = 35 := by decide
    omega
end K5
set_option Elab.async false
set_option linter.all false
set_option maxRecDepth 100000
set_option maxHeartbeats 4000000
namespace K5
open PySem PySem.Spec PyProof.Rows L2 Dl
def W_is_name : WS :=
  (wSeq (wIf (wNotT (wB (wSB Txt.isascii (wVar 0)))) (wRet (wC (.bl false))) wNext)
  (wSeq (wIf (wNotT (wB (wChain rdLe rdLe (wC (.int 1)) (wCB rdLen (wCons (wVar 0) wNil)) (wC (.int (30)))))) (wRet (wC (.bl false))) wNext)
  (wRet (wNameEnd 0))))
def W_is_plain : WS :=
  (wRet (wAndV (wChain rdLe rdLe (wC (.int (32))) (wVar 0) (wC (.int (126)))) (wOp rdNe (wVar 0) (wC (.int (37))))))
def W_fits : WS :=
  (wSeq (wIf (wB (wCB rdIsi (wCons (wVar 1) (wCons (wC (.ty "bool")) wNil)))) (wRet (wOp rdEq (wVar 0) (wC (.str "Truth")))) wNext)
  (wSeq (wIf (wB (wCB rdIsi (wCons (wVar 1) (wCons (wC (.ty "int")) wNil)))) (wRet (wAndV (wOp rdEq (wVar 0) (wC (.str "Int"))) (wChain rdLe rdLe (wC (.int (-2147483648))) (wVar 1) (wC (.int (2147483647)))))) wNext)
  (wSeq (wIf (wB (wCB rdIsi (wCons (wVar 1) (wCons (wC (.ty "str")) wNil)))) (wRet (wAndV (wOp rdEq (wVar 0) (wC (.str "Text"))) (wCB rdAll (wCons (wLc (wiS (wVar 1)) (wgName 2) wYes (wCall0 sp_is_plain (wCons (wCB rdOrd (wCons (wVar 2) wNil)) wNil)) [2]) wNil)))) wNext)
  (wRet (wC (.bl false))))))
def W_may_follow : WS :=
  (wRet (wOrV (wOp rdEq (wVar 0) (wC (.str "_"))) (wAndV (wSB Txt.isascii (wVar 0)) (wSB Txt.isalnum (wVar 0)))))
def W_is_digit : WS :=
  (wRet (wAndV (wSB Txt.isascii (wVar 0)) (wSB Txt.isdigit (wVar 0))))
def W_end_of_name : WS :=
  (wSeq (wSet 2 (wVar 1))
  (wSeq (wWhile (wAndT (wB (wOp rdLt (wVar 2) (wCB rdLen (wCons (wVar 0) wNil)))) (wB (wCall0 sp_may_follow (wCons (wOp rdIx (wVar 0) (wVar 2)) wNil))))
  (wAug 2 (wC (.int 1))))
  (wRet (wVar 2))))
def W_read_name (xd : Exn → Prop) : WS :=
  (wSeq (wSet 2 (wCall0 sp_end_of_name (wCons (wVar 0) (wCons (wVar 1) wNil))))
  (wSeq (wSet 3 (wSl rdSl (wVar 0) (wPart (wVar 1)) (wPart (wVar 2))))
  (wSeq (wIf (wAndT (wB (wOp rdNe (wVar 3) (wC (.str "_type")))) (wNotT (wB (wCall0 sp_is_name (wCons (wVar 3) wNil))))) (wRaiseF "InvalidDocument" "place" (goodF "the document does not fit at place ") xd (wVar 1)) wNext)
  (wRet (wTup (wCons (wC (.str "name")) (wCons (wVar 3) (wCons (wVar 2) wNil))))))))
def W_read_number (xd : Exn → Prop) : WS :=
  (wSeq (wSet 2 (wIfE (wB (wOp rdEq (wOp rdIx (wVar 0) (wVar 1)) (wC (.str "-")))) (wOp rdAdd (wVar 1) (wC (.int 1))) (wVar 1)))
  (wSeq (wSet 3 (wVar 2))
  (wSeq (wWhile (wAndT (wB (wOp rdLt (wVar 3) (wCB rdLen (wCons (wVar 0) wNil)))) (wB (wCall0 sp_is_digit (wCons (wOp rdIx (wVar 0) (wVar 3)) wNil))))
  (wAug 3 (wC (.int 1))))
  (wSeq (wIf (wNotT (wB (wChain rdLe rdLe (wC (.int 1)) (wOp (rdI0 fun i j => .int (i - j)) (wVar 3) (wVar 2)) (wC (.int (10)))))) (wRaiseF "InvalidDocument" "place" (goodF "the document does not fit at place ") xd (wVar 1)) wNext)
  (wRet (wTup (wCons (wC (.str "number")) (wCons (wCB rdCints (wCons (wSl rdSl (wVar 0) (wPart (wVar 1)) (wPart (wVar 3))) wNil)) (wCons (wVar 3) wNil)))))))))
def W_read_variable (xd : Exn → Prop) : WS :=
  (wSeq (wSet 2 (wCall0 sp_end_of_name (wCons (wVar 0) (wCons (wOp rdAdd (wVar 1) (wC (.int 1))) wNil))))
  (wSeq (wSet 3 (wSl rdSl (wVar 0) (wPart (wOp rdAdd (wVar 1) (wC (.int 1)))) (wPart (wVar 2))))
  (wSeq (wIf (wNotT (wB (wCall0 sp_is_name (wCons (wVar 3) wNil)))) (wRaiseF "InvalidDocument" "place" (goodF "the document does not fit at place ") xd (wVar 1)) wNext)
  (wRet (wTup (wCons (wC (.str "variable")) (wCons (wVar 3) (wCons (wVar 2) wNil))))))))
def W_read_text (xd : Exn → Prop) : WS :=
  (wSeq (wSet 2 (wFind (wVar 0) (wC (.str "\"")) (wOp rdAdd (wVar 1) (wC (.int 1)))))
  (wSeq (wSet 3 (wSl rdSl (wVar 0) (wPart (wOp rdAdd (wVar 1) (wC (.int 1)))) (wPart (wVar 2))))
  (wSeq (wIf (wOrT (wB (wOp rdLt (wVar 2) (wC (.int 0)))) (wNotT (wB (wCall0 sp_fits (wCons (wC (.str "Text")) (wCons (wVar 3) wNil)))))) (wRaiseF "InvalidDocument" "place" (goodF "the document does not fit at place ") xd (wVar 1)) wNext)
  (wRet (wTup (wCons (wC (.str "text")) (wCons (wVar 3) (wCons (wOp rdAdd (wVar 2) (wC (.int 1))) wNil))))))))
def W_read_word (xd : Exn → Prop) : WS :=
  (wSeq (wSet 2 (wOp rdIx (wVar 0) (wVar 1)))
  (wSeq (wIf (wB (wOp (rdInS false) (wVar 2) (wC (.str "{}():=![]@")))) (wRet (wTup (wCons (wC (.str "sign")) (wCons (wVar 2) (wCons (wOp rdAdd (wVar 1) (wC (.int 1))) wNil))))) wNext)
  (wSeq (wIf (wB (wSt3 (wVar 0) (wC (.str "...")) (wVar 1))) (wRet (wTup (wCons (wC (.str "sign")) (wCons (wC (.str "...")) (wCons (wOp rdAdd (wVar 1) (wCB rdLen (wCons (wC (.str "...")) wNil))) wNil))))) wNext)
  (wSeq (wIf (wB (wOp rdEq (wVar 2) (wC (.str "\"")))) (wRet (wCall sp_read_text xd (wCons (wVar 0) (wCons (wVar 1) wNil)))) wNext)
  (wSeq (wIf (wB (wOp rdEq (wVar 2) (wC (.str "$")))) (wRet (wCall sp_read_variable xd (wCons (wVar 0) (wCons (wVar 1) wNil)))) wNext)
  (wSeq (wIf (wOrT (wB (wOp rdEq (wVar 2) (wC (.str "-")))) (wB (wCall0 sp_is_digit (wCons (wVar 2) wNil)))) (wRet (wCall sp_read_number xd (wCons (wVar 0) (wCons (wVar 1) wNil)))) wNext)
  (wRet (wCall sp_read_name xd (wCons (wVar 0) (wCons (wVar 1) wNil))))))))))
def W_split_words (xd : Exn → Prop) : WS :=
  (wSeq (wNewL 1)
  (wSeq (wSet 2 (wC (.int 0)))
  (wSeq (wWhile (wB (wOp rdLt (wVar 2) (wCB rdLen (wCons (wVar 0) wNil))))
  (wIf (wB (wOp (rdInS false) (wOp rdIx (wVar 0) (wVar 2)) (wC (.str " \n,")))) (wAug 2 (wC (.int 1))) (wSeq (wAsg (wCall sp_read_word xd (wCons (wVar 0) (wCons (wVar 2) wNil))) (wgTup 3 (wgCons (wgName 3) (wgCons (wgName 4) (wgCons (wgName 5) wgNil)))))
  (wSeq (wApp 1 (wTup (wCons (wVar 2) (wCons (wVar 3) (wCons (wVar 4) wNil)))))
  (wSet 2 (wVar 5))))))
  (wFrzL 1 (wRet (wVar 1))))))
def W_l_is_integer : WS :=
  (wRet (wAndV (wCB rdIsi (wCons (wVar 0) (wCons (wC (.ty "int")) wNil))) (wNotV (wCB rdIsi (wCons (wVar 0) (wCons (wC (.ty "bool")) wNil))))))
def W_l_refill : WS :=
  (wSeq (wSet 2 (wC (.int 0)))
  (wSeq (wIf (wTru (wVar 0)) (wSet 2 (wOp rdIx (wVar 0) (wOp (rdI (fun _ j => 0 < j) fun i j => .int (i % j)) (wVar 1) (wCB rdLen (wCons (wVar 0) wNil))))) wNext)
  (wSeq (wIf (wB (wOp rdLt (wVar 2) (wC (.int 0)))) (wSet 2 (wOp (rdI0 fun i j => .int (i - j)) (wC (.int 1)) (wOp (rdI CMul fun i j => .int (i * j)) (wC (.int 2)) (wVar 2)))) wNext)
  (wSeq (wIf (wAndT (wB (wOp rdGe (wVar 2) (wOp (rdI CPow fun i j => .int (i ^ j.toNat)) (wC (.int 10)) (wC (.int 18))))) (wB (wOp rdLt (wVar 1) (wCB rdLen (wCons (wVar 0) wNil))))) (wRet (wVar 2)) wNext)
  (wRet (wOp (rdI (fun _ j => 0 < j) fun i j => .int (i % j)) (wCB rdCint (wCons (wOp rdAdd (wOp (rdI CMul fun i j => .int (i * j)) (wCB rdCint (wCons (wOp rdAdd (wOp rdAdd (wOp (rdI CMul fun i j => .int (i * j)) (wVar 2) (wC (.int 48271))) (wOp (rdI CMul fun i j => .int (i * j)) (wVar 1) (wC (.int 69621)))) (wC (.int 12345))) wNil)) (wC (.int 40692))) (wC (.int 7))) wNil)) (wC (.int 2147483399))))))))
def W_l_draw : WS :=
  (wSeq (wIf (wB (wOp rdEq (wOp rdIx (wVar 0) (wC (.int 1))) (wC (.int 0)))) (wSeq (wStw (wCall0 sp_l_refill (wCons (wVar 1) (wCons (wOp rdIx (wVar 0) (wC (.int 0))) wNil))) (wVar 0) (wC (.int 1)))
  (wStw (wOp rdAdd (wOp rdIx (wVar 0) (wC (.int 0))) (wC (.int 1))) (wVar 0) (wC (.int 0)))) wNext)
  (wSeq (wSet 3 (wOp (rdI (fun _ j => 0 < j) fun i j => .int (i % j)) (wCB rdCint (wCons (wOp rdIx (wVar 0) (wC (.int 1))) wNil)) (wVar 2)))
  (wSeq (wStw (wOp (rdI CDivW fun i j => .int (i / j)) (wOp rdIx (wVar 0) (wC (.int 1))) (wVar 2)) (wVar 0) (wC (.int 1)))
  (wRet (wVar 3)))))
def W_l_run_b1 : WS :=
  (wIf (wAndT (wB (wOp rdEq (wVar 3) (wVar 4))) (wB (wOp (rdInS false) (wOp rdIx (wVar 0) (wVar 4)) (wVar 2)))) (wSet 3 (wOp rdAdd (wVar 4) (wC (.int 1)))) wNext)
def W_l_run : WS :=
  (wSeq (wSet 3 (wVar 1))
  (wSeq (wFor (wiR2 (wVar 1) (wCB rdLen (wCons (wVar 0) wNil))) (wgName 4)
  W_l_run_b1)
  (wRet (wVar 3))))
def W_l_named : WS :=
  (wSeq (wSet 3 (wC (.str "abcdefghijklmnopqrstuvwxyzABCDEFGHIJKLMNOPQRSTUVWXYZ")))
  (wSeq (wSet 4 (wCall0 sp_l_run (wCons (wVar 0) (wCons (wVar 1) (wCons (wOp rdAdd (wVar 3) (wC (.str "0123456789_"))) wNil)))))
  (wSeq (wSet 5 (wSl rdSl (wVar 0) (wPart (wVar 1)) (wPart (wVar 4))))
  (wSeq (wIf (wAndT (wB (wOp rdNe (wVar 5) (wC (.str "_type")))) (wOrT (wB (wOp rdEq (wVar 5) (wC (.str "")))) (wOrT (wB (wOp (rdInS true) (wOp rdIx (wVar 5) (wC (.int 0))) (wVar 3))) (wB (wOp rdGt (wCB rdLen (wCons (wVar 5) wNil)) (wC (.int 30))))))) (wRet (wTup (wCons (wC (.str "fault")) (wCons (wVar 2) wNil)))) wNext)
  (wRet (wTup (wCons (wC (.str "word")) (wCons (wVar 5) (wCons (wVar 4) wNil)))))))))
def W_l_word_at : WS :=
  (wSeq (wSet 2 (wOp rdIx (wVar 0) (wVar 1)))
  (wSeq (wIf (wB (wOp (rdInS false) (wVar 2) (wC (.str "{}():=![]@")))) (wRet (wTup (wCons (wC (.str "word")) (wCons (wTup (wCons (wC (.str "sign")) (wCons (wVar 2) wNil))) (wCons (wOp rdAdd (wVar 1) (wC (.int 1))) wNil))))) wNext)
  (wSeq (wIf (wB (wOp rdEq (wSl rdSl (wVar 0) (wPart (wVar 1)) (wPart (wOp rdAdd (wVar 1) (wC (.int 3))))) (wC (.str "...")))) (wRet (wTup (wCons (wC (.str "word")) (wCons (wTup (wCons (wC (.str "sign")) (wCons (wC (.str "...")) wNil))) (wCons (wOp rdAdd (wVar 1) (wC (.int 3))) wNil))))) wNext)
  (wSeq (wIf (wB (wOp rdEq (wVar 2) (wC (.str "\"")))) (wSeq (wSet 3 (wFind (wVar 0) (wC (.str "\"")) (wOp rdAdd (wVar 1) (wC (.int 1)))))
  (wSeq (wIf (wOrT (wB (wOp rdLt (wVar 3) (wC (.int 0)))) (wB (wOp (rdInS false) (wC (.str "\n")) (wSl rdSl (wVar 0) (wPart (wVar 1)) (wPart (wVar 3)))))) (wRet (wTup (wCons (wC (.str "fault")) (wCons (wVar 1) wNil)))) wNext)
  (wRet (wTup (wCons (wC (.str "word")) (wCons (wTup (wCons (wC (.str "text")) (wCons (wSl rdSl (wVar 0) (wPart (wOp rdAdd (wVar 1) (wC (.int 1)))) (wPart (wVar 3))) wNil))) (wCons (wOp rdAdd (wVar 3) (wC (.int 1))) wNil))))))) wNext)
  (wSeq (wIf (wB (wOp (rdInS false) (wVar 2) (wC (.str "-0123456789")))) (wSeq (wSet 4 (wOp rdAdd (wVar 1) (wCB rdCint (wCons (wOp rdEq (wVar 2) (wC (.str "-"))) wNil))))
  (wSeq (wSet 3 (wCall0 sp_l_run (wCons (wVar 0) (wCons (wVar 4) (wCons (wC (.str "0123456789")) wNil)))))
  (wSeq (wIf (wOrT (wB (wOp rdEq (wVar 3) (wVar 4))) (wB (wOp rdGt (wVar 3) (wOp rdAdd (wVar 4) (wC (.int 10)))))) (wRet (wTup (wCons (wC (.str "fault")) (wCons (wVar 1) wNil)))) wNext)
  (wSeq (wSet 5 (wCB rdCints (wCons (wSl rdSl (wVar 0) (wPart (wVar 4)) (wPart (wVar 3))) wNil)))
  (wRet (wTup (wCons (wC (.str "word")) (wCons (wTup (wCons (wC (.str "number")) (wCons (wOp (rdI0 fun i j => .int (i - j)) (wVar 5) (wOp (rdI CMul fun i j => .int (i * j)) (wOp (rdI CMul fun i j => .int (i * j)) (wC (.int 2)) (wVar 5)) (wCB rdCint (wCons (wOp rdEq (wVar 2) (wC (.str "-"))) wNil)))) wNil))) (wCons (wVar 3) wNil))))))))) wNext)
  (wSeq (wSet 4 (wOp rdAdd (wVar 1) (wCB rdCint (wCons (wOp rdEq (wVar 2) (wC (.str "$"))) wNil))))
  (wSeq (wSet 6 (wCall0 sp_l_named (wCons (wVar 0) (wCons (wVar 4) (wCons (wVar 1) wNil)))))
  (wSeq (wIf (wOrT (wB (wOp rdEq (wOp rdIx (wVar 6) (wC (.int 0))) (wC (.str "fault")))) (wAndT (wB (wOp rdEq (wVar 2) (wC (.str "$")))) (wB (wOp rdEq (wOp rdIx (wVar 6) (wC (.int 1))) (wC (.str "_type")))))) (wRet (wTup (wCons (wC (.str "fault")) (wCons (wVar 1) wNil)))) wNext)
  (wRet (wTup (wCons (wC (.str "word")) (wCons (wTup (wCons (wOp rdIx (wLst (wCons (wC (.str "name")) (wCons (wC (.str "variable")) wNil))) (wCB rdCint (wCons (wOp rdEq (wVar 2) (wC (.str "$"))) wNil))) (wCons (wOp rdIx (wVar 6) (wC (.int 1))) wNil))) (wCons (wOp rdIx (wVar 6) (wC (.int 2))) wNil)))))))))))))
def W_l_split_b1 : WS :=
  (wIf (wB (wOp rdLt (wVar 2) (wCB rdLen (wCons (wVar 0) wNil)))) (wSeq (wSet 4 (wCall0 sp_l_word_at (wCons (wVar 0) (wCons (wVar 2) wNil))))
  (wSeq (wIf (wB (wOp rdEq (wOp rdIx (wVar 4) (wC (.int 0))) (wC (.str "fault")))) (wRet (wTup (wCons (wC (.str "fault")) (wCons (wOp rdIx (wVar 4) (wC (.int 1))) wNil)))) wNext)
  (wSeq (wApp 1 (wOp rdAdd (wTup (wCons (wVar 2) wNil)) (wOp rdIx (wVar 4) (wC (.int 1)))))
  (wSet 2 (wCall0 sp_l_run (wCons (wVar 0) (wCons (wOp rdIx (wVar 4) (wC (.int 2))) (wCons (wC (.str " \n,")) wNil)))))))) wNext)
def W_l_split : WS :=
  (wSeq (wNewL 1)
  (wSeq (wSet 2 (wCall0 sp_l_run (wCons (wVar 0) (wCons (wC (.int 0)) (wCons (wC (.str " \n,")) wNil)))))
  (wSeq (wFor (wiR (wCB rdLen (wCons (wVar 0) wNil))) (wgName 3)
  W_l_split_b1)
  (wFrzL 1 (wRet (wTup (wCons (wC (.str "words")) (wCons (wVar 1) wNil))))))))
def W_l_piece : WS :=
  (wSeq (wSet 2 (wLst (wCons (wC (.str "query")) (wCons (wC (.str "a")) (wCons (wC (.str "A_1")) (wCons (wC (.str "_type")) (wCons (wC (.str "_")) (wCons (wC (.str "_types")) (wCons (wC (.str "...")) (wCons (wC (.str "..")) (wCons (wC (.str ".")) (wCons (wC (.str "$v")) (wCons (wC (.str "$")) (wCons (wC (.str "$_type")) (wCons (wC (.str "$9")) (wCons (wC (.str "{")) (wCons (wC (.str "}")) (wCons (wC (.str "(")) (wCons (wC (.str ")")) (wCons (wC (.str ":")) (wCons (wC (.str "=")) (wCons (wC (.str "!")) (wCons (wC (.str "[")) (wCons (wC (.str "]")) (wCons (wC (.str "@")) (wCons (wC (.str "@if")) (wCons (wC (.str "-")) (wCons (wC (.str "-7")) (wCons (wC (.str "0")) (wCons (wC (.str "007")) (wCons (wC (.str "1234567890")) (wCons (wC (.str "12345678901")) (wCons (wC (.str "-1234567890")) (wCons (wC (.str "9a")) (wCons (wC (.str "\"")) (wCons (wC (.str "\"x y\"")) (wCons (wC (.str "\"\"")) (wCons (wC (.str "\"{,\n\"")) (wCons (wOp rdRep (wC (.str "n")) (wC (.int 30))) (wCons (wOp rdRep (wC (.str "n")) (wC (.int 31))) (wCons (wC (.str "#")) (wCons (wC (.str "&")) (wCons (wC (.str "on")) (wCons (wC (.str "true")) (wCons (wC (.str "null")) (wCons (wC (.str "\"open")) (wCons (wC (.str "~")) wNil)))))))))))))))))))))))))))))))))))))))))))))))
  (wRet (wOp rdIx (wVar 2) (wCall0 sp_l_draw (wCons (wVar 0) (wCons (wVar 1) (wCons (wC (.int 45)) wNil)))))))
def W_law_b1 : WS :=
  (wSet 2 (wOp rdAdd (wOp rdAdd (wVar 2) (wCall0 sp_l_piece (wCons (wVar 1) (wCons (wVar 0) wNil)))) (wOp rdIx (wLst (wCons (wC (.str "")) (wCons (wC (.str " ")) (wCons (wC (.str ",")) (wCons (wC (.str "\n")) (wCons (wC (.str " , ")) (wCons (wC (.str " ")) wNil))))))) (wCall0 sp_l_draw (wCons (wVar 1) (wCons (wVar 0) (wCons (wC (.int 6)) wNil)))))))
def W_law_b2 : WS :=
  (wIf (wOrT (wB (wCB rdIsi (wCons (wVar 7) (wCons (wC (.ty "bool")) wNil)))) (wB (wOp rdNe (wCB rdIsi (wCons (wVar 7) (wCons (wC (.ty "int")) wNil))) (wOp rdEq (wVar 6) (wC (.str "number")))))) (wRet (wC (.bl false))) wNext)
def W_law_s6 : WS :=
  (wRet (wC (.bl true)))
def W_law_s5 : WS :=
  (wSeq (wFor (wiL (wOp rdIx (wVar 4) (wC (.int 1)))) (wgTup 3 (wgCons (wgName 5) (wgCons (wgName 6) (wgCons (wgName 7) wgNil))))
  W_law_b2)
  W_law_s6)
def W_law_s4 : WS :=
  (wSeq (wIf (wB (wOp rdEq (wOp rdIx (wVar 4) (wC (.int 0))) (wC (.str "fault")))) (wRet (wC (.bl true))) wNext)
  W_law_s5)
def W_law_s3 : WS :=
  (wSeq (wIf (wB (wOp rdNe (wVar 4) (wCall0 sp_l_split (wCons (wVar 2) wNil)))) (wRet (wC (.bl false))) wNext)
  W_law_s4)
def W_law_s2 : WS :=
  (wSeq (wSet 4 (wCall0 sp_l_told (wCons (wVar 2) wNil)))
  W_law_s3)
def W_law_s1 : WS :=
  (wSeq (wFor (wiR (wCall0 sp_l_draw (wCons (wVar 1) (wCons (wVar 0) (wCons (wC (.int 15)) wNil))))) (wgName 3)
  W_law_b1)
  W_law_s2)
def W_law : WS :=
  (wSeq (wSet 2 (wC (.str "")))
  W_law_s1)
end K5
set_option Elab.async false
set_option linter.all false
set_option maxRecDepth 100000
set_option maxHeartbeats 4000000
namespace K5
open PySem PySem.Spec PyProof.Rows L2 Dl
theorem uni_tab : ∀ c ∈ List.range 128, Unicode.isAlpha c = isLet c ∧ Unicode.isAlnum c = (isLet c || decide (48 ≤ c ∧ c ≤ 57)) := by decide +kernel
theorem uni_a {c : Nat} (h : c < 128) : Unicode.isAlpha c = isLet c := (uni_tab c (List.mem_range.mpr h)).1
theorem uni_n {c : Nat} (h : c < 128) : Unicode.isAlnum c = (isLet c || decide (48 ≤ c ∧ c ≤ 57)) := (uni_tab c (List.mem_range.mpr h)).2
theorem all_cs (s : Str) (p : Nat → Bool) : s.cps.all p = (cs s).all p := by rw [← Array.all_toList]
theorem repl_us : ∀ l : List Nat, PySem.StrLaws.replL [95] [48] l = l.map fun c => if c = 95 then 48 else c
  | [] => PySem.StrLaws.replL_nil
  | c :: r => by
    by_cases h : c = 95
    · subst h
      rw [PySem.StrLaws.replL_hit (by simp) (by simp)]
      simp [repl_us r]
    · rw [PySem.StrLaws.replL_miss (by simpa using h), repl_us r]
      simp [h]
theorem isLet_lt {c : Nat} (h : isLet c = true) : c < 128 := by
  unfold isLet at h
  simp only [Bool.or_eq_true, decide_eq_true_eq] at h
  omega
theorem isNam_lt {c : Nat} (h : isNam c = true) : c < 128 := by
  unfold isNam isLet at h
  simp only [Bool.or_eq_true, decide_eq_true_eq] at h
  omega
theorem isNam_rep {c : Nat} (h : c < 128) : Unicode.isAlnum (if c = 95 then 48 else c) = isNam c := by
  by_cases e : c = 95
  · subst e
    rw [if_pos rfl]
    decide +kernel
  · rw [if_neg e, uni_n h]
    unfold isNam
    simp [e]
theorem name_ascii {t : Str} (h : Txt.isascii t = false) : nameS t = false := by
  unfold nameS
  cases e : cs t with
  | nil => rfl
  | cons c r =>
    cases q : nameL (c :: r) with
    | false => rfl
    | true =>
      unfold nameL at q
      simp only [Bool.and_eq_true] at q
      have : Txt.isascii t = true := by
        unfold Txt.isascii
        rw [all_cs, e, List.all_eq_true]
        intro x hx
        have := isNam_lt (List.all_eq_true.mp q.2 x hx)
        simpa using this
      rw [this] at h
      cases h
theorem name_len {t : Str} (h : ¬ (1 ≤ t.length ∧ t.length ≤ 30)) : nameS t = false := by
  unfold nameS
  cases e : cs t with
  | nil => rfl
  | cons c r =>
    have hl := cs_len t
    rw [e, List.length_cons] at hl
    show (decide (r.length ≤ 29) && isLet c && (c :: r).all isNam) = false
    have : decide (r.length ≤ 29) = false := decide_eq_false (by omega)
    rw [this]
    rfl
theorem name_end {t : Str} (h : Txt.isascii t = true) (h1 : 1 ≤ t.length) (h2 : t.length ≤ 30) : nameEnd t = some (nameS t) := by
  unfold nameEnd nameS
  have hl := cs_len t
  cases e : cs t with
  | nil =>
    rw [e] at hl
    simp at hl
    omega
  | cons c r =>
    have e' : t.cps.toList = c :: r := e
    rw [e, List.length_cons] at hl
    simp only [e']
    rw [if_pos (by omega)]
    congr 1
    unfold Txt.isascii at h
    rw [all_cs, e, List.all_eq_true] at h
    have hc : c < 128 := by simpa using h c List.mem_cons_self
    have ha : Txt.isalpha ⟨#[c]⟩ = isLet c := by
      unfold Txt.isalpha
      rw [all_cs]
      simp [Str.length, uni_a hc]
    have hr : (cs (Txt.replace t "_" "0")) = (c :: r).map fun c => if c = 95 then 48 else c := by
      have := PySem.StrLaws.replace_list (x := t) (y := "_") (z := "0") (by decide)
      rw [show cs (Txt.replace t "_" "0") = (Txt.replace t "_" "0").cps.toList from rfl, this, e', ← repl_us]
      rfl
    have hn : Txt.isalnum (Txt.replace t "_" "0") = (c :: r).all isNam := by
      unfold Txt.isalnum
      rw [all_cs, hr, List.all_map]
      have hlen : (Txt.replace t "_" "0").length > 0 := by
        rw [← cs_len, hr]
        simp
      rw [decide_eq_true hlen, Bool.true_and]
      have key : ∀ l : List Nat, (∀ x ∈ l, x < 128) → l.all (Unicode.isAlnum ∘ fun c => if c = 95 then 48 else c) = l.all isNam := by
        intro l
        induction l with
        | nil => intro _; rfl
        | cons a l ih =>
          intro hx
          rw [List.all_cons, List.all_cons, ih fun x m => hx x (List.mem_cons_of_mem _ m)]
          congr 1
          exact isNam_rep (hx a List.mem_cons_self)
      exact key _ fun x hx => by simpa using h x hx
    rw [ha, hn]
    show _ = (decide (r.length ≤ 29) && isLet c && (c :: r).all isNam)
    rw [decide_eq_true (show r.length ≤ 29 by omega), Bool.true_and]
end K5
set_option Elab.async false
set_option linter.all false
set_option maxRecDepth 100000
set_option maxHeartbeats 4000000
namespace K5
open PySem L2 Dl
local macro_rules | `(tactic| walk_at "dw") => `(tactic| simp only [wSB, wSB1, wVar, wC, wOp, wB, wNotT, wAndT, wOrT, wAndV, wOrV, wNotV, wIfE, wChain, wNil, wCons, wTup, wLst, wNext, wSeq, wSet, wAsg, wDrop, wRet, wRetN, wBrk, wCont, wIf, wiL, wiT, wiR, wFor, wCall0, wCall, wCB, wM0, wM1, wNo, wPart, wSl, wYes, wLc, wipeD, wNeg, wTru, wFmt, wJoined, wJs, wRaise1, wStw, wiS, wAug, wiR2, wSt3, wFind, wApp, wNewL, wFrzL, Sl.OL, wRaiseF, rdCints, rdRep, wNameEnd, wgName, wgNil, wgCons, wgTup,
  Sl.V, D.I, D.B, D.S, D.L, D.T, D.K, D.len, D.tru, rdI, rdI0, rdLt, rdLe, rdGt, rdGe, rdEq, rdNe, eqS, rdIsN, rdNotN, rdAdd, rdIx, rdSl, rdInS, rdLen, rdOrd, rdAll, rdAny, rdIsi, rdFmt, rdJoin, rdCint, tyN, ρ0, List.map_cons, List.map_nil, List.length_cons, List.length_nil, List.replicate, List.append, List.cons_append, List.nil_append, List.getElem?_cons_zero, List.getElem?_cons_succ, List.set_cons_zero, List.set_cons_succ, Nat.add_sub_cancel, Nat.sub_self, Nat.zero_add, Nat.reduceAdd, Nat.reduceSub, if_true, if_false, true_and, and_true, decide_true, decide_false, true_or, or_true, ia_NoneType_bool, ia_NoneType_int, ia_NoneType_str, ia_NoneType_list, ia_NoneType_tuple, ia_NoneType_dict, ia_bool_bool, ia_bool_int, ia_bool_str, ia_bool_list, ia_bool_tuple, ia_bool_dict, ia_int_bool, ia_int_int, ia_int_str, ia_int_list, ia_int_tuple, ia_int_dict, ia_str_bool, ia_str_int, ia_str_str, ia_str_list, ia_str_tuple, ia_str_dict, ia_list_bool, ia_list_int, ia_list_str, ia_list_list, ia_list_tuple, ia_list_dict, ia_tuple_bool, ia_tuple_int, ia_tuple_str, ia_tuple_list, ia_tuple_tuple, ia_tuple_dict, ia_dict_bool, ia_dict_int, ia_dict_str, ia_dict_list, ia_dict_tuple, ia_dict_dict, inT_bool, inT_int, inT_str, inT_list, inT_tuple, inT_dict, Bool.not_eq_true, Bool.not_true, Bool.not_false, Bool.false_eq_true, ite_false, ite_true, reduceCtorEq])
theorem len_is_name {ds : List D} {Q : D → Prop} {E : Exn → Prop} (h : sp_is_name ds Q E) : ds.length = (["text"] : List Str).length := by
  obtain ⟨t, rfl, _⟩ := h
  rfl
theorem hw_is_name : ∀ ds Q E, sp_is_name ds Q E → W_is_name { nx := fun _ => Q .non, rt := Q } (ρ0 (["text"] : List Str).length ds) := by
  rintro ds Q E ⟨t, rfl, hl, h⟩
  unfold W_is_name
  walk_at "dw"
  cases ha : Txt.isascii t with
  | false =>
    rw [name_ascii ha] at h
    walk_at "dw"
    exact h
  | true =>
    walk_at "dw"
    rw [if_pos (show t.length ≤ 1000000 by omega)]
    walk_at "dw"
    by_cases h1 : (1 : Int) ≤ (t.length : Int)
    · rw [decide_eq_true h1]
      by_cases h2 : (t.length : Int) ≤ 30
      · rw [decide_eq_true h2]
        walk_at "dw"
        rw [name_end ha (by omega) (by omega)]
        exact h
      · rw [decide_eq_false h2]
        walk_at "dw"
        rw [name_len (by omega)] at h
        exact h
    · rw [decide_eq_false h1]
      walk_at "dw"
      rw [name_len (by omega)] at h
      exact h
theorem len_is_plain {ds : List D} {Q : D → Prop} {E : Exn → Prop} (h : sp_is_plain ds Q E) : ds.length = (["code"] : List Str).length := by
  obtain ⟨t, rfl, _⟩ := h
  rfl
theorem hw_is_plain : ∀ ds Q E, sp_is_plain ds Q E → W_is_plain { nx := fun _ => Q .non, rt := Q } (ρ0 (["code"] : List Str).length ds) := by
  rintro ds Q E ⟨i, rfl, h⟩
  unfold W_is_plain
  walk_at "dw"
  by_cases h1 : (32 : Int) ≤ i
  · rw [decide_eq_true h1]
    walk_at "dw"
    have e : decide (32 ≤ i ∧ i ≤ 126 ∧ i ≠ 37) = if decide (i ≤ 126) = true then !decide (i = 37) else false := by
      by_cases h2 : i ≤ 126 <;> by_cases h3 : i = 37 <;> simp [h1, h2, h3]
    rw [e] at h
    split <;> rename_i h2 <;> simp only [h2, if_true, if_false] at h <;> exact h
  · rw [decide_eq_false h1]
    have e : decide (32 ≤ i ∧ i ≤ 126 ∧ i ≠ 37) = false := decide_eq_false fun z => h1 z.1
    rw [e] at h
    walk_at "dw"
    exact h
theorem plain_cast (c : Nat) : decide ((32 : Int) ≤ (c : Int) ∧ (c : Int) ≤ 126 ∧ (c : Int) ≠ 37) = plain c := decide_eq_decide.mpr (by omega)
theorem sgn_map (s : Str) (f : D → D) (g : Nat → Bool) (h : ∀ c, f (.str ⟨#[c]⟩) = .bl (g c)) : (sgnD s).map f = ((cs s).map g).map .bl := by
  unfold sgnD
  rw [List.map_map, List.map_map]
  exact List.map_congr_left fun c _ => h c
theorem sgn_mem {s : Str} {x : D} (h : x ∈ sgnD s) : ∃ c, c ∈ cs s ∧ x = .str ⟨#[c]⟩ := by
  unfold sgnD at h
  obtain ⟨c, h1, h2⟩ := List.mem_map.mp h
  exact ⟨c, h1, h2.symm⟩
theorem sgn_len (s : Str) : (sgnD s).length = s.length := by
  unfold sgnD
  rw [List.length_map]
  exact cs_len s
def plD : D → D
  | .str z => .bl (plain (z.cps.getD 0 0))
  | d => d
theorem all_id (l : List Bool) : l.all id = l.all fun b => b := rfl
theorem len_fits {ds : List D} {Q : D → Prop} {E : Exn → Prop} (h : sp_fits ds Q E) : ds.length = (["scalar", "value"] : List Str).length := by
  obtain ⟨t, v, rfl, _⟩ := h
  rfl
theorem hw_fits : ∀ ds Q E, sp_fits ds Q E → W_fits { nx := fun _ => Q .non, rt := Q } (ρ0 (["scalar", "value", "sign"] : List Str).length ds) := by
  rintro ds Q E ⟨sc, v, rfl, ⟨ty, ht⟩, hs, h⟩
  unfold W_fits
  walk_at "dw"
  cases v with
  | bl b => walk_at "dw"; exact h
  | int i =>
    walk_at "dw"
    simp only [fitsD] at h
    by_cases e : sc = "Int"
    · rw [decide_eq_true e] at h ⊢
      walk_at "dw"
      by_cases h1 : -2147483648 ≤ i
      · rw [decide_eq_true h1]
        walk_at "dw"
        rw [show decide (-2147483648 ≤ i ∧ i ≤ 2147483647) = decide (i ≤ 2147483647) from decide_eq_decide.mpr ⟨fun z => z.2, fun z => ⟨h1, z⟩⟩] at h
        exact h
      · rw [decide_eq_false h1]
        walk_at "dw"
        rw [show decide (-2147483648 ≤ i ∧ i ≤ 2147483647) = false from decide_eq_false fun z => h1 z.1] at h
        exact h
    · rw [decide_eq_false e] at h ⊢
      walk_at "dw"
      exact h
  | str s =>
    have hl := hs s rfl
    walk_at "dw"
    simp only [fitsD] at h
    by_cases e : sc = "Text"
    · rw [decide_eq_true e] at h ⊢
      walk_at "dw"
      refine ⟨by omega, by rw [sgn_len]; omega, ?_⟩
      refine lcl_map plD _ _ _ (fun x hx K hk => ?_) ?_
      · obtain ⟨c, hc, rfl⟩ := sgn_mem hx
        walk_at "dw"
        refine ⟨rfl, (c : Int), rfl, ?_⟩
        rw [plain_cast]
        exact hk
      · rw [List.nil_append, sgn_map s plD plain fun c => rfl, blA_of]
        walk_at "dw"
        have e2 : ((cs s).map plain).all id = (cs s).all plain := by
          rw [List.all_map]
          rfl
        rw [e2]
        exact h
    · rw [decide_eq_false e] at h ⊢
      walk_at "dw"
      exact h
  | non => walk_at "dw"; exact h
  | lst xs => walk_at "dw"; exact h
  | tup xs => walk_at "dw"; exact h
  | dic xs => walk_at "dw"; exact h
  | ins _ _ => cases ht
  | drw => cases ht
  | scr _ => cases ht
  | ty _ => cases ht
  | rf _ => cases ht
  | exc _ _ _ => cases ht
theorem len_l_is_integer {ds : List D} {Q : D → Prop} {E : Exn → Prop} (h : sp_l_is_integer ds Q E) : ds.length = (["actual"] : List Str).length := by
  obtain ⟨v, rfl, _⟩ := h
  rfl
theorem hw_l_is_integer : ∀ ds Q E, sp_l_is_integer ds Q E → W_l_is_integer { nx := fun _ => Q .non, rt := Q } (ρ0 (["actual"] : List Str).length ds) := by
  rintro ds Q E ⟨v, rfl, ⟨ty, ht⟩, h⟩
  unfold W_l_is_integer
  walk_at "dw"
  cases v <;> first
    | (cases ht; done)
    | (walk_at "dw"; exact h)
theorem refill_fin {c k : Int} {l : Nat} {Q : D → Prop} (hc : 0 ≤ c) (h : ∀ v : Int, 0 ≤ v → Q (.int v)) : CPow 10 18 ∧
    if decide ((10 : Int) ^ Int.toNat 18 ≤ c) = true then
      if decide (k < (l : Int)) = true then Q (D.int c) else CMul c 48271 ∧ CMul k 69621 ∧ CMul (c * 48271 + k * 69621 + 12345) 40692 ∧ (0 : Int) < 2147483399 ∧ Q (D.int (((c * 48271 + k * 69621 + 12345) * 40692 + 7) % 2147483399))
    else CMul c 48271 ∧ CMul k 69621 ∧ CMul (c * 48271 + k * 69621 + 12345) 40692 ∧ (0 : Int) < 2147483399 ∧ Q (D.int (((c * 48271 + k * 69621 + 12345) * 40692 + 7) % 2147483399)) := by
  have e : CMul c 48271 ∧ CMul k 69621 ∧ CMul (c * 48271 + k * 69621 + 12345) 40692 ∧ (0 : Int) < 2147483399 ∧ Q (D.int (((c * 48271 + k * 69621 + 12345) * 40692 + 7) % 2147483399)) :=
    ⟨.inr ⟨by decide, by decide⟩, .inr ⟨by decide, by decide⟩, .inr ⟨by decide, by decide⟩, by decide, h _ (Int.emod_nonneg _ (by decide))⟩
  refine ⟨⟨by decide, by decide, by decide⟩, ?_⟩
  split
  · split
    · exact h c hc
    · exact e
  · exact e
theorem len_l_refill {ds : List D} {Q : D → Prop} {E : Exn → Prop} (h : sp_l_refill ds Q E) : ds.length = (["script", "k"] : List Str).length := by
  obtain ⟨t, v, rfl, _⟩ := h
  rfl
theorem hw_l_refill : ∀ ds Q E, sp_l_refill ds Q E → W_l_refill { nx := fun _ => Q .non, rt := Q } (ρ0 (["script", "k", "cell"] : List Str).length ds) := by
  rintro ds Q E ⟨ns, k, rfl, hk, h⟩
  unfold W_l_refill
  walk_at "dw"
  cases hn : ns with
  | nil => exact refill_fin (l := 0) (Int.le_refl _) h
  | cons n0 r =>
    rw [← hn]
    have hpos : 0 < ns.length := by rw [hn]; simp
    have he : ns.isEmpty = false := by rw [hn]; rfl
    rw [he]
    walk_at "dw"
    refine ⟨by omega, ?_⟩
    have h1 := Int.emod_nonneg k (show (ns.length : Int) ≠ 0 by omega)
    have h2 := Int.emod_lt_of_pos k (show (0 : Int) < ns.length by omega)
    obtain ⟨j, hj⟩ : ∃ j : Nat, k % (ns.length : Int) = (j : Int) := ⟨(k % (ns.length : Int)).toNat, by omega⟩
    have hlt : j < ns.length := by omega
    rw [hj, atI_nat (List.getElem?_eq_getElem hlt)]
    simp only
    generalize ns[j] = c
    by_cases hc : c < 0
    · rw [decide_eq_true hc]
      walk_at "dw"
      exact ⟨.inl ⟨by decide, by decide⟩, refill_fin (by omega) h⟩
    · rw [decide_eq_false hc]
      walk_at "dw"
      exact refill_fin (by omega) h
theorem divw {a n : Int} (h0 : 0 < n) (h1 : n < 2 ^ 60) : CDivW a n := wide_div h0 (b := 60) (by omega) (by decide) (by decide)
theorem len_l_draw {ds : List D} {Q : D → Prop} {E : Exn → Prop} (h : sp_l_draw ds Q E) : ds.length = (["state", "script", "size"] : List Str).length := by
  obtain ⟨t, v, rfl, _⟩ := h
  rfl
theorem hw_l_draw : ∀ ds Q E, sp_l_draw ds Q E → W_l_draw { nx := fun _ => Q .non, rt := Q } (ρ0 (["state", "script", "size", "digit"] : List Str).length ds) := by
  rintro ds Q E ⟨ns, n, rfl, h0, h1, h⟩
  unfold W_l_draw
  walk_at "dw"
  intro a ha
  have fin : ∀ x : Int, Q (D.int (x % n)) := fun x => h _ (Int.emod_nonneg _ (by omega)) (Int.emod_lt_of_pos _ h0)
  by_cases e : a = 0
  · rw [decide_eq_true e]
    walk_at "dw"
    intro b hb
    refine ⟨ns, b, rfl, hb, fun v hv => ?_⟩
    walk_at "dw"
    refine ⟨hv, fun c hc => ⟨by omega, fun d hd => ⟨h0, fun e he => ⟨divw h0 h1, Int.ediv_nonneg he (by omega), fin _⟩⟩⟩⟩
  · rw [decide_eq_false e]
    walk_at "dw"
    exact fun b hb => ⟨h0, fun c hc => ⟨divw h0 h1, Int.ediv_nonneg hc (by omega), fin _⟩⟩
theorem let_all : ∀ c ∈ cs "abcdefghijklmnopqrstuvwxyzABCDEFGHIJKLMNOPQRSTUVWXYZ", isLet c = true := by decide
theorem nam_all : ∀ c ∈ cs "0123456789_", isNam c = true := by decide
theorem let_nam {c : Nat} (h : isLet c = true) : isNam c = true := by
  unfold isNam
  rw [h]
  rfl
theorem let_mem (c : Nat) : decide (c ∈ cs "abcdefghijklmnopqrstuvwxyzABCDEFGHIJKLMNOPQRSTUVWXYZ") = isLet c := by
  by_cases h : c < 128
  · have key : ∀ c ∈ List.range 128, decide (c ∈ cs "abcdefghijklmnopqrstuvwxyzABCDEFGHIJKLMNOPQRSTUVWXYZ") = isLet c := by decide +kernel
    exact key c (List.mem_range.mpr h)
  · have h1 : isLet c = false := by
      cases q : isLet c with
      | false => rfl
      | true => exact absurd (isLet_lt q) h
    rw [h1]
    exact decide_eq_false fun z => h (isLet_lt (let_all c z))
theorem nam_mem (c : Nat) : decide (c ∈ cs ("abcdefghijklmnopqrstuvwxyzABCDEFGHIJKLMNOPQRSTUVWXYZ" ++ "0123456789_")) = isNam c := by
  by_cases h : c < 128
  · have key : ∀ c ∈ List.range 128, decide (c ∈ cs "abcdefghijklmnopqrstuvwxyzABCDEFGHIJKLMNOPQRSTUVWXYZ" ∨ c ∈ cs "0123456789_") = isNam c := by decide +kernel
    rw [← key c (List.mem_range.mpr h)]
    exact decide_eq_decide.mpr (by rw [cs_app, List.mem_append])
  · have h1 : isNam c = false := by
      cases q : isNam c with
      | false => rfl
      | true => exact absurd (isNam_lt q) h
    rw [h1]
    refine decide_eq_false fun z => h ?_
    rw [cs_app] at z
    rcases List.mem_append.mp z with z | z
    · exact isLet_lt (let_all c z)
    · exact isNam_lt (nam_all c z)
end K5
set_option Elab.async false
set_option linter.all false
set_option maxRecDepth 100000
set_option maxHeartbeats 4000000
namespace K5
open PySem L2 Dl
local macro_rules | `(tactic| walk_at "dw") => `(tactic| simp only [wSB, wSB1, wVar, wC, wOp, wB, wNotT, wAndT, wOrT, wAndV, wOrV, wNotV, wIfE, wChain, wNil, wCons, wTup, wLst, wNext, wSeq, wSet, wAsg, wDrop, wRet, wRetN, wBrk, wCont, wIf, wiL, wiT, wiR, wFor, wCall0, wCall, wCB, wM0, wM1, wNo, wPart, wSl, wYes, wLc, wipeD, wNeg, wTru, wFmt, wJoined, wJs, wRaise1, wStw, wiS, wAug, wiR2, wSt3, wFind, wApp, wNewL, wFrzL, Sl.OL, wRaiseF, rdCints, rdRep, wNameEnd, wgName, wgNil, wgCons, wgTup,
  Sl.V, D.I, D.B, D.S, D.L, D.T, D.K, D.len, D.tru, rdI, rdI0, rdLt, rdLe, rdGt, rdGe, rdEq, rdNe, eqS, rdIsN, rdNotN, rdAdd, rdIx, rdSl, rdInS, rdLen, rdOrd, rdAll, rdAny, rdIsi, rdFmt, rdJoin, rdCint, tyN, ρ0, List.map_cons, List.map_nil, List.length_cons, List.length_nil, List.replicate, List.append, List.cons_append, List.nil_append, List.getElem?_cons_zero, List.getElem?_cons_succ, List.set_cons_zero, List.set_cons_succ, Nat.add_sub_cancel, Nat.sub_self, Nat.zero_add, Nat.reduceAdd, Nat.reduceSub, if_true, if_false, true_and, and_true, decide_true, decide_false, true_or, or_true, ia_NoneType_bool, ia_NoneType_int, ia_NoneType_str, ia_NoneType_list, ia_NoneType_tuple, ia_NoneType_dict, ia_bool_bool, ia_bool_int, ia_bool_str, ia_bool_list, ia_bool_tuple, ia_bool_dict, ia_int_bool, ia_int_int, ia_int_str, ia_int_list, ia_int_tuple, ia_int_dict, ia_str_bool, ia_str_int, ia_str_str, ia_str_list, ia_str_tuple, ia_str_dict, ia_list_bool, ia_list_int, ia_list_str, ia_list_list, ia_list_tuple, ia_list_dict, ia_tuple_bool, ia_tuple_int, ia_tuple_str, ia_tuple_list, ia_tuple_tuple, ia_tuple_dict, ia_dict_bool, ia_dict_int, ia_dict_str, ia_dict_list, ia_dict_tuple, ia_dict_dict, inT_bool, inT_int, inT_str, inT_list, inT_tuple, inT_dict, Bool.not_eq_true, Bool.not_true, Bool.not_false, Bool.false_eq_true, ite_false, ite_true, reduceCtorEq])
theorem ascii_one (c : Nat) : Txt.isascii ⟨#[c]⟩ = decide (c < 128) := by
  unfold Txt.isascii
  rw [all_cs]
  simp
theorem alnum_one {c : Nat} (h : c < 128) : Txt.isalnum ⟨#[c]⟩ = (isLet c || decide (48 ≤ c ∧ c ≤ 57)) := by
  unfold Txt.isalnum
  rw [all_cs]
  simp [Str.length, uni_n h]
theorem uni_dtab : ∀ c ∈ List.range 128, Unicode.isDigit c = isDig c := by decide +kernel
theorem digit_one {c : Nat} (h : c < 128) : Txt.isdigit ⟨#[c]⟩ = isDig c := by
  unfold Txt.isdigit
  rw [all_cs]
  simp [Str.length, uni_dtab c (List.mem_range.mpr h)]
theorem isDig_lt {c : Nat} (h : isDig c = true) : c < 128 := by
  unfold isDig at h
  simp only [decide_eq_true_eq] at h
  omega
theorem len_may_follow {ds : List D} {Q : D → Prop} {E : Exn → Prop} (h : sp_may_follow ds Q E) : ds.length = (["sign"] : List Str).length := by
  obtain ⟨t, rfl, _⟩ := h
  rfl
theorem hw_may_follow : ∀ ds Q E, sp_may_follow ds Q E → W_may_follow { nx := fun _ => Q .non, rt := Q } (ρ0 (["sign"] : List Str).length ds) := by
  rintro ds Q E ⟨c, rfl, h⟩
  unfold W_may_follow
  walk_at "dw"
  rw [sg_eq c "_" 95 rfl, ascii_one]
  unfold isNam at h
  by_cases h1 : c = 95
  · rw [decide_eq_true h1] at h ⊢
    rw [Bool.or_true] at h
    exact h
  · rw [decide_eq_false h1] at h ⊢
    walk_at "dw"
    rw [Bool.or_false] at h
    by_cases h2 : c < 128
    · rw [decide_eq_true h2]
      walk_at "dw"
      rw [alnum_one h2]
      exact h
    · rw [decide_eq_false h2]
      walk_at "dw"
      have e : (isLet c || decide (48 ≤ c ∧ c ≤ 57)) = false := by
        unfold isLet
        rw [decide_eq_false (by omega), decide_eq_false (by omega), decide_eq_false (by omega)]
        rfl
      rw [e] at h
      exact h
theorem len_is_digit {ds : List D} {Q : D → Prop} {E : Exn → Prop} (h : sp_is_digit ds Q E) : ds.length = (["sign"] : List Str).length := by
  obtain ⟨t, rfl, _⟩ := h
  rfl
theorem hw_is_digit : ∀ ds Q E, sp_is_digit ds Q E → W_is_digit { nx := fun _ => Q .non, rt := Q } (ρ0 (["sign"] : List Str).length ds) := by
  rintro ds Q E ⟨c, rfl, h⟩
  unfold W_is_digit
  walk_at "dw"
  rw [ascii_one]
  by_cases h2 : c < 128
  · rw [decide_eq_true h2]
    walk_at "dw"
    rw [digit_one h2]
    exact h
  · rw [decide_eq_false h2]
    walk_at "dw"
    have e : isDig c = false := by
      cases q : isDig c with
      | false => rfl
      | true => exact absurd (isDig_lt q) h2
    rw [e] at h
    exact h
theorem len_end_of_name {ds : List D} {Q : D → Prop} {E : Exn → Prop} (h : sp_end_of_name ds Q E) : ds.length = (["text", "place"] : List Str).length := by
  obtain ⟨t, i, rfl, _⟩ := h
  rfl
/-- a place that is moved on while a sign holds -/
theorem run_step {t : Str} {p : Nat → Bool} {i c : Nat} {r : List Nat} (e1 : (cs t).drop i = c :: r) (e2 : (cs t).drop (i + 1) = r) (h : p c = true) : i + run p ((cs t).drop i) = (i + 1) + run p ((cs t).drop (i + 1)) := by
  rw [e1, e2, run_cons_t h]
  omega
theorem hw_end_of_name : ∀ ds Q E, sp_end_of_name ds Q E → W_end_of_name { nx := fun _ => Q .non, rt := Q } (ρ0 (["text", "place", "end"] : List Str).length ds) := by
  rintro ds Q E ⟨t, i0, rfl, hi0, hl, h⟩
  unfold W_end_of_name
  walk_at "dw"
  have key : ∀ (m i : Nat) (d : DEnds), t.length - i ≤ m → i ≤ t.length → d.nx [.val (.str t), .val (.int (i0 : Nat)), .val (.int ((i + run isNam ((cs t).drop i) : Nat) : Int))] →
      wWhN (wAndT (wB (wOp rdLt (wVar 2) (wCB rdLen (wCons (wVar 0) wNil)))) (wB (wCall0 sp_may_follow (wCons (wOp rdIx (wVar 0) (wVar 2)) wNil)))) (wAug 2 (wC (.int 1))) (m + 1) d [.val (.str t), .val (.int (i0 : Nat)), .val (.int (i : Nat))] := by
    intro m
    induction m with
    | zero =>
      intro i d h1 h2 hk
      unfold wWhN
      walk_at "dw"
      rw [if_pos (show t.length ≤ 1000000 by omega)]
      walk_at "dw"
      rw [decide_eq_false (by omega)]
      walk_at "dw"
      rw [drop_all (by omega)] at hk
      exact hk
    | succ m ih =>
      intro i d h1 h2 hk
      unfold wWhN
      walk_at "dw"
      rw [if_pos (show t.length ≤ 1000000 by omega)]
      walk_at "dw"
      by_cases hlt : i < t.length
      · rw [decide_eq_true (by omega)]
        walk_at "dw"
        obtain ⟨c, r, e1, e2, e3, _⟩ := at_drop hlt
        rw [e3]
        walk_at "dw"
        refine ⟨by omega, c, rfl, ?_⟩
        walk_at "dw"
        cases hc : isNam c with
        | true =>
          walk_at "dw"
          rw [run_step e1 e2 hc] at hk
          exact ih (i + 1) _ (by omega) (by omega) hk
        | false =>
          walk_at "dw"
          rw [e1, run_cons_f hc] at hk
          exact hk
      · rw [decide_eq_false (by omega)]
        walk_at "dw"
        rw [drop_all (by omega)] at hk
        exact hk
  exact ⟨_, key (t.length - i0) i0 _ (Nat.le_refl _) hi0 h⟩
end K5
set_option Elab.async false
set_option linter.all false
set_option maxRecDepth 100000
set_option maxHeartbeats 4000000
namespace K5
open PySem L2 Dl
local macro_rules | `(tactic| walk_at "dw") => `(tactic| simp only [wSB, wSB1, wVar, wC, wOp, wB, wNotT, wAndT, wOrT, wAndV, wOrV, wNotV, wIfE, wChain, wNil, wCons, wTup, wLst, wNext, wSeq, wSet, wAsg, wDrop, wRet, wRetN, wBrk, wCont, wIf, wiL, wiT, wiR, wFor, wCall0, wCall, wCB, wM0, wM1, wNo, wPart, wSl, wYes, wLc, wipeD, wNeg, wTru, wFmt, wJoined, wJs, wRaise1, wStw, wiS, wAug, wiR2, wSt3, wFind, wApp, wNewL, wFrzL, Sl.OL, wRaiseF, rdCints, rdRep, wNameEnd, wgName, wgNil, wgCons, wgTup,
  Sl.V, D.I, D.B, D.S, D.L, D.T, D.K, D.len, D.tru, rdI, rdI0, rdLt, rdLe, rdGt, rdGe, rdEq, rdNe, eqS, rdIsN, rdNotN, rdAdd, rdIx, rdSl, rdInS, rdLen, rdOrd, rdAll, rdAny, rdIsi, rdFmt, rdJoin, rdCint, tyN, ρ0, List.map_cons, List.map_nil, List.length_cons, List.length_nil, List.replicate, List.append, List.cons_append, List.nil_append, List.getElem?_cons_zero, List.getElem?_cons_succ, List.set_cons_zero, List.set_cons_succ, Nat.add_sub_cancel, Nat.sub_self, Nat.zero_add, Nat.reduceAdd, Nat.reduceSub, if_true, if_false, true_and, and_true, decide_true, decide_false, true_or, or_true, ia_NoneType_bool, ia_NoneType_int, ia_NoneType_str, ia_NoneType_list, ia_NoneType_tuple, ia_NoneType_dict, ia_bool_bool, ia_bool_int, ia_bool_str, ia_bool_list, ia_bool_tuple, ia_bool_dict, ia_int_bool, ia_int_int, ia_int_str, ia_int_list, ia_int_tuple, ia_int_dict, ia_str_bool, ia_str_int, ia_str_str, ia_str_list, ia_str_tuple, ia_str_dict, ia_list_bool, ia_list_int, ia_list_str, ia_list_list, ia_list_tuple, ia_list_dict, ia_tuple_bool, ia_tuple_int, ia_tuple_str, ia_tuple_list, ia_tuple_tuple, ia_tuple_dict, ia_dict_bool, ia_dict_int, ia_dict_str, ia_dict_list, ia_dict_tuple, ia_dict_dict, inT_bool, inT_int, inT_str, inT_list, inT_tuple, inT_dict, Bool.not_eq_true, Bool.not_true, Bool.not_false, Bool.false_eq_true, ite_false, ite_true, reduceCtorEq])
theorem sp_rd_len {w : List Nat → WR} {ds : List D} {Q : D → Prop} {E : Exn → Prop} (h : sp_rd w ds Q E) : ds.length = (["text", "place"] : List Str).length := by
  obtain ⟨t, i, rfl, _⟩ := h
  rfl
theorem len_read_name {ds : List D} {Q : D → Prop} {E : Exn → Prop} (h : sp_read_name ds Q E) : ds.length = (["text", "place"] : List Str).length := sp_rd_len h
theorem len_read_number {ds : List D} {Q : D → Prop} {E : Exn → Prop} (h : sp_read_number ds Q E) : ds.length = (["text", "place"] : List Str).length := sp_rd_len h
theorem len_read_variable {ds : List D} {Q : D → Prop} {E : Exn → Prop} (h : sp_read_variable ds Q E) : ds.length = (["text", "place"] : List Str).length := sp_rd_len h
theorem len_read_text {ds : List D} {Q : D → Prop} {E : Exn → Prop} (h : sp_read_text ds Q E) : ds.length = (["text", "place"] : List Str).length := sp_rd_len h
theorem len_read_word {ds : List D} {Q : D → Prop} {E : Exn → Prop} (h : sp_read_word ds Q E) : ds.length = (["text", "place"] : List Str).length := sp_rd_len h
theorem mk_eq (l : List Nat) (s : Str) : decide (mk l = s) = decide (l = cs s) := decide_eq_decide.mpr ⟨fun h => by rw [← h, cs_mk], fun h => by rw [h, mk_cs]⟩
theorem nameS_mk (l : List Nat) : nameS (mk l) = nameL l := rfl
theorem run_len (p : Nat → Bool) (t : Str) (i : Nat) : run p ((cs t).drop i) ≤ t.length - i := by
  have := run_le p ((cs t).drop i)
  rw [List.length_drop, cs_len] at this
  exact this
theorem hw_read_name : ∀ ds Q E, sp_read_name ds Q E → W_read_name E { nx := fun _ => Q .non, rt := Q } (ρ0 (["text", "place", "end", "word"] : List Str).length ds) := by
  rintro ds Q E ⟨t, i, rfl, hi, hl, h⟩
  have hr := run_len isNam t i
  unfold W_read_name
  walk_at "dw"
  refine ⟨t, i, rfl, by omega, hl, ?_⟩
  walk_at "dw"
  rw [cut_run]
  refine ⟨by omega, ?_⟩
  rw [mk_eq]
  unfold outW nameW at h
  by_cases h1 : ((cs t).drop i).takeWhile isNam = cs "_type"
  · rw [if_pos (.inl h1)] at h
    rw [decide_eq_true h1]
    walk_at "dw"
    exact ⟨by decide, h⟩
  · rw [decide_eq_false h1]
    walk_at "dw"
    refine ⟨_, rfl, by rw [mk_len, tw_len]; omega, ?_⟩
    rw [nameS_mk]
    cases h2 : nameL (((cs t).drop i).takeWhile isNam) with
    | true =>
      rw [if_pos (.inr h2)] at h
      walk_at "dw"
      exact ⟨by decide, h⟩
    | false =>
      rw [if_neg (fun z => by rcases z with z | z; exact h1 z; rw [h2] at z; exact Bool.false_ne_true z)] at h
      walk_at "dw"
      exact ⟨goodF_nat (by omega), h⟩
theorem hw_read_variable : ∀ ds Q E, sp_read_variable ds Q E → W_read_variable E { nx := fun _ => Q .non, rt := Q } (ρ0 (["text", "place", "end", "word"] : List Str).length ds) := by
  rintro ds Q E ⟨t, i, rfl, hi, hl, h⟩
  have hr := run_len isNam t (i + 1)
  have e1 : ((i : Int) + 1) = ((i + 1 : Nat) : Int) := by omega
  unfold W_read_variable
  walk_at "dw"
  rw [e1]
  refine ⟨t, i + 1, rfl, by omega, hl, ?_⟩
  walk_at "dw"
  rw [cut_run]
  refine ⟨by omega, ?_⟩
  refine ⟨_, rfl, by rw [mk_len, tw_len]; omega, ?_⟩
  rw [nameS_mk]
  unfold outW varW at h
  rw [List.drop_drop] at h
  cases h2 : nameL (((cs t).drop (i + 1)).takeWhile isNam) with
  | true =>
    rw [if_pos h2] at h
    walk_at "dw"
    refine ⟨by decide, ?_⟩
    rw [show i + 1 + run isNam ((cs t).drop (i + 1)) = i + (1 + run isNam ((cs t).drop (i + 1))) by omega]
    exact h
  | false =>
    rw [if_neg (by rw [h2]; exact Bool.false_ne_true)] at h
    walk_at "dw"
    exact ⟨goodF_nat (by omega), h⟩
theorem noQ_eq : (fun x => !decide (x = 34)) = noQ := rfl
theorem hw_read_text : ∀ ds Q E, sp_read_text ds Q E → W_read_text E { nx := fun _ => Q .non, rt := Q } (ρ0 (["text", "place", "end", "word"] : List Str).length ds) := by
  rintro ds Q E ⟨t, i, rfl, hi, hl, h⟩
  have hr := run_len noQ t (i + 1)
  have e1 : ((i : Int) + 1) = ((i + 1 : Nat) : Int) := by omega
  unfold W_read_text
  walk_at "dw"
  rw [e1, show Txt.find3 t "\"" ((i + 1 : Nat) : Int) = _ from find3_one (t := t) (c := 34) (i := i + 1) (by omega), noQ_eq]
  unfold outW txtW at h
  rw [List.drop_drop] at h
  by_cases hq : 34 ∈ (cs t).drop (i + 1)
  · rw [if_pos hq, cut_run]
    refine ⟨by omega, ?_⟩
    rw [decide_eq_false (by omega)]
    walk_at "dw"
    refine ⟨"Text", _, rfl, ⟨_, rfl⟩, fun s e => by injection e with e; subst e; rw [mk_len, tw_len]; omega, ?_⟩
    have e2 : fitsD "Text" (.str (mk (((cs t).drop (i + 1)).takeWhile noQ))) = (((cs t).drop (i + 1)).takeWhile noQ).all plain := by
      show (decide (("Text" : Str) = "Text") && (((cs t).drop (i + 1)).takeWhile noQ).all plain) = _
      rw [decide_eq_true rfl, Bool.true_and]
    rw [e2]
    cases h2 : (((cs t).drop (i + 1)).takeWhile noQ).all plain with
    | true =>
      rw [if_pos ⟨hq, h2⟩] at h
      walk_at "dw"
      refine ⟨by decide, ?_⟩
      rw [show ((i + 1 + run noQ ((cs t).drop (i + 1)) : Nat) : Int) + 1 = ((i + (1 + run noQ ((cs t).drop (i + 1)) + 1) : Nat) : Int) by omega]
      exact h
    | false =>
      rw [if_neg (fun z => by rw [h2] at z; exact Bool.false_ne_true z.2)] at h
      walk_at "dw"
      exact ⟨goodF_nat (by omega), h⟩
  · rw [if_neg hq]
    rw [if_neg (fun z => hq z.1)] at h
    refine ⟨by omega, ?_⟩
    rw [decide_eq_true (by decide)]
    walk_at "dw"
    exact ⟨goodF_nat (by omega), h⟩
theorem num_loop {t : Str} {a b : Sl} (hl : t.length ≤ 1000) : ∀ (m i : Nat) (d : DEnds), t.length - i ≤ m → i ≤ t.length → d.nx [.val (.str t), a, b, .val (.int ((i + run isDig ((cs t).drop i) : Nat) : Int))] →
    wWhN (wAndT (wB (wOp rdLt (wVar 3) (wCB rdLen (wCons (wVar 0) wNil)))) (wB (wCall0 sp_is_digit (wCons (wOp rdIx (wVar 0) (wVar 3)) wNil)))) (wAug 3 (wC (.int 1))) (m + 1) d [.val (.str t), a, b, .val (.int (i : Nat))] := by
  intro m
  induction m with
  | zero =>
    intro i d h1 h2 hk
    unfold wWhN
    walk_at "dw"
    rw [if_pos (show t.length ≤ 1000000 by omega)]
    walk_at "dw"
    rw [decide_eq_false (by omega)]
    walk_at "dw"
    rw [drop_all (by omega)] at hk
    exact hk
  | succ m ih =>
    intro i d h1 h2 hk
    unfold wWhN
    walk_at "dw"
    rw [if_pos (show t.length ≤ 1000000 by omega)]
    walk_at "dw"
    by_cases hlt : i < t.length
    · rw [decide_eq_true (by omega)]
      walk_at "dw"
      obtain ⟨c, r, e1, e2, e3, _⟩ := at_drop hlt
      rw [e3]
      walk_at "dw"
      refine ⟨by omega, c, rfl, ?_⟩
      walk_at "dw"
      cases hc : isDig c with
      | true =>
        walk_at "dw"
        rw [run_step e1 e2 hc] at hk
        exact ih (i + 1) _ (by omega) (by omega) hk
      | false =>
        walk_at "dw"
        rw [e1, run_cons_f hc] at hk
        exact hk
    · rw [decide_eq_false (by omega)]
      walk_at "dw"
      rw [drop_all (by omega)] at hk
      exact hk
theorem hw_read_number : ∀ ds Q E, sp_read_number ds Q E → W_read_number E { nx := fun _ => Q .non, rt := Q } (ρ0 (["text", "place", "start", "end"] : List Str).length ds) := by
  rintro ds Q E ⟨t, i, rfl, hi, hl, h⟩
  obtain ⟨c, r, e1, e2, e3, _⟩ := at_drop hi
  have ei : ((i : Int) + 1) = ((i + 1 : Nat) : Int) := by omega
  unfold W_read_number
  walk_at "dw"
  rw [e3]
  walk_at "dw"
  rw [sg_eq c "-" 45 rfl]
  unfold outW numW at h
  rw [e1] at h
  by_cases hc : c = 45
  · rw [if_pos (by rw [hc]; rfl), List.drop_succ_cons, List.drop_zero, ← e2] at h
    have hr := run_len isDig t (i + 1)
    rw [decide_eq_true hc]
    walk_at "dw"
    rw [ei]
    refine ⟨by omega, _, num_loop hl (t.length - (i + 1)) (i + 1) _ (Nat.le_refl _) (by omega) ?_⟩
    walk_at "dw"
    rw [show ((i + 1 + run isDig ((cs t).drop (i + 1)) : Nat) : Int) - ((i + 1 : Nat) : Int) = (run isDig ((cs t).drop (i + 1)) : Nat) by omega]
    by_cases h1 : 1 ≤ run isDig ((cs t).drop (i + 1)) ∧ run isDig ((cs t).drop (i + 1)) ≤ 10
    · rw [if_pos h1] at h
      rw [decide_eq_true (by omega)]
      walk_at "dw"
      rw [decide_eq_true (by omega)]
      walk_at "dw"
      have ec : cutS t (some (i : Int)) (some ((i + 1 + run isDig ((cs t).drop (i + 1)) : Nat) : Int)) = mk (45 :: ((cs t).drop (i + 1)).takeWhile isDig) := by
        apply cs_inj
        rw [cut_nat, cs_mk, e1, show i + 1 + run isDig ((cs t).drop (i + 1)) - i = run isDig ((cs t).drop (i + 1)) + 1 by omega, List.take_succ_cons, hc, ← e2, take_run]
      rw [ec]
      refine ⟨by omega, by rw [mk_len, List.length_cons, tw_len]; omega, _, int_neg (takeWhile_all isDig _) (by rw [tw_len]; omega) (by rw [tw_len]; omega), by decide, ?_⟩
      rw [show i + 1 + run isDig ((cs t).drop (i + 1)) = i + (1 + run isDig ((cs t).drop (i + 1))) by omega]
      exact h
    · rw [if_neg h1] at h
      by_cases h2 : 1 ≤ run isDig ((cs t).drop (i + 1))
      · rw [decide_eq_true (by omega)]
        walk_at "dw"
        rw [decide_eq_false (by omega)]
        walk_at "dw"
        exact ⟨goodF_nat (by omega), h⟩
      · rw [decide_eq_false (by omega)]
        walk_at "dw"
        exact ⟨goodF_nat (by omega), h⟩
  · rw [if_neg (by intro z; exact hc (Option.some.inj z)), ← e1] at h
    have hr := run_len isDig t i
    rw [decide_eq_false hc]
    walk_at "dw"
    refine ⟨by omega, _, num_loop hl (t.length - i) i _ (Nat.le_refl _) (by omega) ?_⟩
    walk_at "dw"
    rw [show ((i + run isDig ((cs t).drop i) : Nat) : Int) - ((i : Nat) : Int) = (run isDig ((cs t).drop i) : Nat) by omega]
    by_cases h1 : 1 ≤ run isDig ((cs t).drop i) ∧ run isDig ((cs t).drop i) ≤ 10
    · rw [if_pos h1] at h
      rw [decide_eq_true (by omega)]
      walk_at "dw"
      rw [decide_eq_true (by omega)]
      walk_at "dw"
      rw [cut_run]
      refine ⟨by omega, by rw [mk_len, tw_len]; omega, _, int_dig (takeWhile_all isDig _) (by rw [tw_len]; omega) (by rw [tw_len]; omega), by decide, ?_⟩
      exact h
    · rw [if_neg h1] at h
      by_cases h2 : 1 ≤ run isDig ((cs t).drop i)
      · rw [decide_eq_true (by omega)]
        walk_at "dw"
        rw [decide_eq_false (by omega)]
        walk_at "dw"
        exact ⟨goodF_nat (by omega), h⟩
      · rw [decide_eq_false (by omega)]
        walk_at "dw"
        exact ⟨goodF_nat (by omega), h⟩
end K5
set_option Elab.async false
set_option linter.all false
set_option maxRecDepth 100000
set_option maxHeartbeats 4000000
namespace K5
open PySem L2 Dl
local macro_rules | `(tactic| walk_at "dw") => `(tactic| simp only [wSB, wSB1, wVar, wC, wOp, wB, wNotT, wAndT, wOrT, wAndV, wOrV, wNotV, wIfE, wChain, wNil, wCons, wTup, wLst, wNext, wSeq, wSet, wAsg, wDrop, wRet, wRetN, wBrk, wCont, wIf, wiL, wiT, wiR, wFor, wCall0, wCall, wCB, wM0, wM1, wNo, wPart, wSl, wYes, wLc, wipeD, wNeg, wTru, wFmt, wJoined, wJs, wRaise1, wStw, wiS, wAug, wiR2, wSt3, wFind, wApp, wNewL, wFrzL, Sl.OL, wRaiseF, rdCints, rdRep, wNameEnd, wgName, wgNil, wgCons, wgTup,
  Sl.V, D.I, D.B, D.S, D.L, D.T, D.K, D.len, D.tru, rdI, rdI0, rdLt, rdLe, rdGt, rdGe, rdEq, rdNe, eqS, rdIsN, rdNotN, rdAdd, rdIx, rdSl, rdInS, rdLen, rdOrd, rdAll, rdAny, rdIsi, rdFmt, rdJoin, rdCint, tyN, ρ0, List.map_cons, List.map_nil, List.length_cons, List.length_nil, List.replicate, List.append, List.cons_append, List.nil_append, List.getElem?_cons_zero, List.getElem?_cons_succ, List.set_cons_zero, List.set_cons_succ, Nat.add_sub_cancel, Nat.sub_self, Nat.zero_add, Nat.reduceAdd, Nat.reduceSub, if_true, if_false, true_and, and_true, decide_true, decide_false, true_or, or_true, ia_NoneType_bool, ia_NoneType_int, ia_NoneType_str, ia_NoneType_list, ia_NoneType_tuple, ia_NoneType_dict, ia_bool_bool, ia_bool_int, ia_bool_str, ia_bool_list, ia_bool_tuple, ia_bool_dict, ia_int_bool, ia_int_int, ia_int_str, ia_int_list, ia_int_tuple, ia_int_dict, ia_str_bool, ia_str_int, ia_str_str, ia_str_list, ia_str_tuple, ia_str_dict, ia_list_bool, ia_list_int, ia_list_str, ia_list_list, ia_list_tuple, ia_list_dict, ia_tuple_bool, ia_tuple_int, ia_tuple_str, ia_tuple_list, ia_tuple_tuple, ia_tuple_dict, ia_dict_bool, ia_dict_int, ia_dict_str, ia_dict_list, ia_dict_tuple, ia_dict_dict, inT_bool, inT_int, inT_str, inT_list, inT_tuple, inT_dict, Bool.false_xor, Bool.true_xor, Bool.not_eq_true, Bool.not_true, Bool.not_false, Bool.false_eq_true, ite_false, ite_true, reduceCtorEq])
theorem sg_is (c : Nat) : decide ((⟨#[c]⟩ : Str).cps.getD 0 0 ∈ ("{}():=![]@" : Str).cps.toList) = isSg c := rfl
theorem len_one (c : Nat) : (⟨#[c]⟩ : Str).length = 1 := rfl
theorem hw_read_word : ∀ ds Q E, sp_read_word ds Q E → W_read_word E { nx := fun _ => Q .non, rt := Q } (ρ0 (["text", "place", "sign"] : List Str).length ds) := by
  rintro ds Q E ⟨t, i, rfl, hi, hl, h⟩
  obtain ⟨c, r, e1, e2, e3, _⟩ := at_drop hi
  unfold W_read_word
  walk_at "dw"
  rw [e3]
  walk_at "dw"
  rw [sg_is]
  refine ⟨by omega, len_one c, ?_⟩
  have hw := e1 ▸ h
  unfold wordL at hw
  simp only at hw
  cases h1 : isSg c with
  | true =>
    rw [if_pos h1] at hw
    walk_at "dw"
    exact ⟨by decide, hw⟩
  | false =>
    rw [if_neg (by rw [h1]; exact Bool.false_ne_true)] at hw
    walk_at "dw"
    rw [st3_dots, e1]
    by_cases h2 : (c :: r).take 3 = [46, 46, 46]
    · rw [if_pos h2] at hw
      rw [decide_eq_true h2]
      walk_at "dw"
      rw [if_pos (by decide)]
      walk_at "dw"
      exact ⟨by decide, hw⟩
    · rw [if_neg h2] at hw
      rw [decide_eq_false h2]
      walk_at "dw"
      rw [sg_eq c "\"" 34 rfl]
      by_cases h3 : c = 34
      · rw [if_pos h3] at hw
        rw [decide_eq_true h3]
        walk_at "dw"
        refine ⟨t, i, rfl, hi, hl, ?_⟩
        rw [e1]
        exact hw
      · rw [if_neg h3] at hw
        rw [decide_eq_false h3]
        walk_at "dw"
        rw [sg_eq c "$" 36 rfl]
        by_cases h4 : c = 36
        · rw [if_pos h4] at hw
          rw [decide_eq_true h4]
          walk_at "dw"
          refine ⟨t, i, rfl, hi, hl, ?_⟩
          rw [e1]
          exact hw
        · rw [if_neg h4] at hw
          rw [decide_eq_false h4]
          walk_at "dw"
          rw [sg_eq c "-" 45 rfl]
          by_cases h5 : c = 45
          · rw [if_pos (.inl h5)] at hw
            rw [decide_eq_true h5]
            walk_at "dw"
            refine ⟨t, i, rfl, hi, hl, ?_⟩
            rw [e1]
            exact hw
          · rw [decide_eq_false h5]
            walk_at "dw"
            refine ⟨c, rfl, ?_⟩
            walk_at "dw"
            cases h6 : isDig c with
            | true =>
              rw [if_pos (.inr h6)] at hw
              walk_at "dw"
              refine ⟨t, i, rfl, hi, hl, ?_⟩
              rw [e1]
              exact hw
            | false =>
              rw [if_neg (fun z => by rcases z with z | z; exact h5 z; rw [h6] at z; exact Bool.false_ne_true z)] at hw
              walk_at "dw"
              refine ⟨t, i, rfl, hi, hl, ?_⟩
              rw [e1]
              exact hw
theorem len_split_words {ds : List D} {Q : D → Prop} {E : Exn → Prop} (h : sp_split_words ds Q E) : ds.length = (["text"] : List Str).length := by
  obtain ⟨t, rfl, _⟩ := h
  rfl
theorem blk_is (c : Nat) : decide ((⟨#[c]⟩ : Str).cps.getD 0 0 ∈ (" \n," : Str).cps.toList) = isBlk c := rfl
theorem hw_split_words : ∀ ds Q E, sp_split_words ds Q E → W_split_words E { nx := fun _ => Q .non, rt := Q } (ρ0 (["text", "words", "place", "kind", "word", "end"] : List Str).length ds) := by
  rintro ds Q E ⟨t, rfl, hl, h⟩
  unfold W_split_words
  walk_at "dw"
  refine wh_rule (fun m ρ => ∃ (i : Nat) (acc : List D) (a b c : Sl), ρ = [.val (.str t), .ol acc, .val (.int (i : Nat)), a, b, c] ∧ m = t.length - i ∧ i ≤ t.length ∧ acc.length ≤ i ∧ (match spl i ((cs t).drop i) with
      | .inl j => E (flt j)
      | .inr ws => Q (.lst (acc ++ ws)))) ?_ (m := t.length) ⟨0, [], _, _, _, rfl, by omega, by omega, Nat.le_refl _, by rw [List.drop_zero]; exact h⟩
  rintro m ρ N ⟨i, acc, a, b, c', rfl, rfl, h2, h3, hk⟩ ih
  walk_at "dw"
  rw [if_pos (show t.length ≤ 1000000 by omega)]
  walk_at "dw"
  by_cases hlt : i < t.length
  · rw [decide_eq_true (by omega)]
    walk_at "dw"
    obtain ⟨c, r, e1, e2, e3, _⟩ := at_drop hlt
    rw [e3]
    walk_at "dw"
    rw [blk_is]
    refine ⟨by omega, len_one c, ?_⟩
    cases hb : isBlk c with
    | true =>
      walk_at "dw"
      rw [e1, spl_blk hb, ← e2] at hk
      exact ih _ _ (by omega) ⟨i + 1, acc, a, b, c', rfl, rfl, by omega, by omega, hk⟩
    | false =>
      walk_at "dw"
      refine ⟨t, i, rfl, hlt, hl, ?_⟩
      rw [e1, spl_word hb] at hk
      rw [e1]
      unfold outW
      cases hw : wordL (c :: r) with
      | none =>
        rw [hw] at hk
        exact hk
      | some x =>
        obtain ⟨kk, d, n⟩ := x
        rw [hw] at hk
        obtain ⟨n1, n2, _⟩ := wordL_ok hw
        have hlen : (c :: r).length = t.length - i := by rw [← e1, List.length_drop, cs_len]
        simp only at hk
        rw [← e1, List.drop_drop] at hk
        walk_at "dw"
        refine ⟨by decide, by omega, ?_⟩
        refine ih (t.length - (i + n)) _ (by omega) ⟨i + n, acc ++ [.tup [.int (i : Nat), .str kk, d]], _, _, _, rfl, rfl, by omega, by rw [List.length_append]; simp only [List.length_cons, List.length_nil]; omega, ?_⟩
        cases hs : spl (i + n) ((cs t).drop (i + n)) with
        | inl j =>
          rw [hs] at hk
          exact hk
        | inr ws =>
          rw [hs] at hk
          simp only at hk ⊢
          rw [List.append_assoc]
          exact hk
  · rw [decide_eq_false (by omega)]
    walk_at "dw"
    rw [drop_all (by omega), spl_nil] at hk
    simp only [List.append_nil] at hk
    exact hk
end K5
set_option Elab.async false
set_option linter.all false
set_option maxRecDepth 100000
set_option maxHeartbeats 4000000
namespace K5
open PySem L2 Dl
local macro_rules | `(tactic| walk_at "dw") => `(tactic| simp only [wSB, wSB1, wVar, wC, wOp, wB, wNotT, wAndT, wOrT, wAndV, wOrV, wNotV, wIfE, wChain, wNil, wCons, wTup, wLst, wNext, wSeq, wSet, wAsg, wDrop, wRet, wRetN, wBrk, wCont, wIf, wiL, wiT, wiR, wFor, wCall0, wCall, wCB, wM0, wM1, wNo, wPart, wSl, wYes, wLc, wipeD, wNeg, wTru, wFmt, wJoined, wJs, wRaise1, wStw, wiS, wAug, wiR2, wSt3, wFind, wApp, wNewL, wFrzL, Sl.OL, wRaiseF, rdCints, rdRep, wNameEnd, wgName, wgNil, wgCons, wgTup,
  Sl.V, D.I, D.B, D.S, D.L, D.T, D.K, D.len, D.tru, rdI, rdI0, rdLt, rdLe, rdGt, rdGe, rdEq, rdNe, eqS, rdIsN, rdNotN, rdAdd, rdIx, rdSl, rdInS, rdLen, rdOrd, rdAll, rdAny, rdIsi, rdFmt, rdJoin, rdCint, tyN, ρ0, List.map_cons, List.map_nil, List.length_cons, List.length_nil, List.replicate, List.append, List.cons_append, List.nil_append, List.getElem?_cons_zero, List.getElem?_cons_succ, List.set_cons_zero, List.set_cons_succ, Nat.add_sub_cancel, Nat.sub_self, Nat.zero_add, Nat.reduceAdd, Nat.reduceSub, if_true, if_false, true_and, and_true, decide_true, decide_false, true_or, or_true, ia_NoneType_bool, ia_NoneType_int, ia_NoneType_str, ia_NoneType_list, ia_NoneType_tuple, ia_NoneType_dict, ia_bool_bool, ia_bool_int, ia_bool_str, ia_bool_list, ia_bool_tuple, ia_bool_dict, ia_int_bool, ia_int_int, ia_int_str, ia_int_list, ia_int_tuple, ia_int_dict, ia_str_bool, ia_str_int, ia_str_str, ia_str_list, ia_str_tuple, ia_str_dict, ia_list_bool, ia_list_int, ia_list_str, ia_list_list, ia_list_tuple, ia_list_dict, ia_tuple_bool, ia_tuple_int, ia_tuple_str, ia_tuple_list, ia_tuple_tuple, ia_tuple_dict, ia_dict_bool, ia_dict_int, ia_dict_str, ia_dict_list, ia_dict_tuple, ia_dict_dict, inT_bool, inT_int, inT_str, inT_list, inT_tuple, inT_dict, Bool.false_xor, Bool.true_xor, Bool.not_eq_true, Bool.not_true, Bool.not_false, Bool.false_eq_true, ite_false, ite_true, reduceCtorEq])
theorem len_l_run {ds : List D} {Q : D → Prop} {E : Exn → Prop} (h : sp_l_run ds Q E) : ds.length = (["text", "at", "signs"] : List Str).length := by
  obtain ⟨t, z, i, rfl, _⟩ := h
  rfl
theorem rng_nat (i n : Nat) (h : i ≤ n) : rngL (i : Nat) (n : Nat) = (List.range' i (n - i)).map fun j => .int (j : Nat) := by
  unfold rngL
  rw [show ((n : Int) - (i : Int)).toNat = n - i by omega, List.range'_eq_map_range, List.map_map]
  refine List.map_congr_left fun a _ => ?_
  show D.int ((i : Int) + (a : Int)) = D.int ((i + a : Nat) : Int)
  congr 1
theorem hw_l_run : ∀ ds Q E, sp_l_run ds Q E → W_l_run { nx := fun _ => Q .non, rt := Q } (ρ0 (["text", "at", "signs", "end", "k"] : List Str).length ds) := by
  rintro ds Q E ⟨t, z, i, rfl, hi, hl, h⟩
  unfold W_l_run
  walk_at "dw"
  rw [if_pos (show t.length ≤ 1000000 by omega)]
  walk_at "dw"
  refine ⟨by omega, ?_⟩
  rw [rng_nat i t.length hi]
  generalize hp : (fun c => decide (c ∈ cs z)) = p at h
  refine for_rule (fun xs ρ => ∃ (k e : Nat) (a : Sl), xs = ((List.range' k (t.length - k)).map fun j => D.int (j : Nat)) ∧ k ≤ t.length ∧ ρ = [.val (.str t), .val (.int (i : Nat)), .val (.str z), .val (.int (e : Nat)), a] ∧ e ≤ k ∧ (e = k → k + run p ((cs t).drop k) = i + run p ((cs t).drop i)) ∧ (e < k → e = i + run p ((cs t).drop i))) ?_ ?_ _ _ ⟨i, i, _, rfl, hi, rfl, Nat.le_refl _, fun _ => rfl, fun z => by omega⟩
  · rintro x xs ρ N ⟨k, e, a, hx, hk, rfl, h1, h2, h3⟩ ih
    have hlt : k < t.length := by
      have := congrArg List.length hx
      simp only [List.length_cons, List.length_map, List.length_range'] at this
      omega
    rw [show t.length - k = (t.length - (k + 1)) + 1 by omega, List.range'_succ, List.map_cons, List.cons.injEq] at hx
    obtain ⟨rfl, rfl⟩ := hx
    obtain ⟨c, r, e1, e2, e3, _⟩ := at_drop hlt
    unfold W_l_run_b1
    walk_at "dw"
    by_cases he : e = k
    · rw [decide_eq_true (by omega)]
      walk_at "dw"
      rw [e3]
      walk_at "dw"
      have ep : decide ((⟨#[c]⟩ : Str).cps.getD 0 0 ∈ z.cps.toList) = p c := by rw [← hp]; rfl
      rw [ep]
      refine ⟨by omega, rfl, ?_⟩
      have hR := h2 he
      cases hc : p c with
      | true =>
        walk_at "dw"
        rw [run_step e1 e2 hc] at hR
        exact ih _ ⟨k + 1, k + 1, _, rfl, by omega, rfl, Nat.le_refl _, fun _ => hR, fun z => by omega⟩
      | false =>
        walk_at "dw"
        rw [e1, run_cons_f hc] at hR
        exact ih _ ⟨k + 1, e, _, rfl, by omega, rfl, by omega, fun z => by omega, fun _ => by omega⟩
    · rw [decide_eq_false (by omega)]
      walk_at "dw"
      exact ih _ ⟨k + 1, e, _, rfl, by omega, rfl, by omega, fun z => by omega, fun _ => h3 (by omega)⟩
  · rintro ρ ⟨k, e, a, hx, hk, rfl, h1, h2, h3⟩
    have hlt : k = t.length := by
      have := congrArg List.length hx
      simp only [List.length_nil, List.length_map, List.length_range'] at this
      omega
    walk_at "dw"
    have : e = i + run p ((cs t).drop i) := by
      by_cases he : e = k
      · have := h2 he
        rw [hlt, drop_all (Nat.le_refl _)] at this
        have e0 : run p [] = 0 := rfl
        omega
      · exact h3 (by omega)
    rw [this]
    exact h
theorem len_l_named {ds : List D} {Q : D → Prop} {E : Exn → Prop} (h : sp_l_named ds Q E) : ds.length = (["text", "at", "place"] : List Str).length := by
  obtain ⟨t, i, j, rfl, _⟩ := h
  rfl
theorem ty_no : nameL (cs "_type") = false := by decide
theorem hw_l_named : ∀ ds Q E, sp_l_named ds Q E → W_l_named { nx := fun _ => Q .non, rt := Q } (ρ0 (["text", "at", "place", "letters", "end", "name"] : List Str).length ds) := by
  rintro ds Q E ⟨t, i, j, rfl, hi, hl, h⟩
  have hr := run_len isNam t i
  unfold W_l_named
  walk_at "dw"
  refine ⟨by decide, t, _, i, rfl, hi, hl, ?_⟩
  rw [run_congr nam_mem]
  walk_at "dw"
  rw [cut_run, mk_eq, mk_eq]
  refine ⟨by omega, ?_⟩
  unfold nameW at h
  have hall := takeWhile_all isNam ((cs t).drop i)
  have hlw : (((cs t).drop i).takeWhile isNam).length = run isNam ((cs t).drop i) := rfl
  generalize hw : ((cs t).drop i).takeWhile isNam = w at *
  by_cases h1 : w = cs "_type"
  · rw [if_pos (.inl h1)] at h
    rw [decide_eq_true h1]
    walk_at "dw"
    exact ⟨by decide, h⟩
  · rw [decide_eq_false h1]
    walk_at "dw"
    cases w with
    | nil =>
      rw [if_neg (fun z => by rcases z with z | z; exact h1 z; cases z)] at h
      rw [decide_eq_true (show ([] : List Nat) = cs "" from rfl)]
      walk_at "dw"
      exact ⟨by decide, h⟩
    | cons c r =>
      rw [decide_eq_false (by intro z; cases z)]
      walk_at "dw"
      have e3 : atI (mk (c :: r)).cps.toList 0 = some c := atI_nat (j := 0) rfl
      rw [e3]
      walk_at "dw"
      have em : decide ((⟨#[c]⟩ : Str).cps.getD 0 0 ∈ ("abcdefghijklmnopqrstuvwxyzABCDEFGHIJKLMNOPQRSTUVWXYZ" : Str).cps.toList) = isLet c := let_mem c
      rw [em, mk_len]
      simp only [List.length_cons] at hlw ⊢
      refine ⟨by omega, rfl, ?_⟩
      have en : nameL (c :: r) = (decide (r.length ≤ 29) && isLet c) := by
        show (decide (r.length ≤ 29) && isLet c && (c :: r).all isNam) = _
        rw [List.all_eq_true.mpr hall, Bool.and_true]
      cases hlc : isLet c with
      | false =>
        rw [if_neg (fun z => by rcases z with z | z; exact h1 z; rw [en, hlc, Bool.and_false] at z; cases z)] at h
        walk_at "dw"
        exact ⟨by decide, h⟩
      | true =>
        walk_at "dw"
        rw [if_pos (show r.length + 1 ≤ 1000000 by omega)]
        walk_at "dw"
        by_cases h30 : r.length ≤ 29
        · rw [if_pos (.inr (by rw [en, hlc, decide_eq_true h30]; rfl))] at h
          rw [decide_eq_false (by omega)]
          walk_at "dw"
          exact ⟨by decide, h⟩
        · rw [if_neg (fun z => by rcases z with z | z; exact h1 z; rw [en, decide_eq_false h30, Bool.false_and] at z; cases z)] at h
          rw [decide_eq_true (by omega)]
          walk_at "dw"
          exact ⟨by decide, h⟩
end K5
set_option Elab.async false
set_option linter.all false
set_option maxRecDepth 100000
set_option maxHeartbeats 4000000
namespace K5
open PySem L2 Dl
local macro_rules | `(tactic| walk_at "dw") => `(tactic| simp only [wSB, wSB1, wVar, wC, wOp, wB, wNotT, wAndT, wOrT, wAndV, wOrV, wNotV, wIfE, wChain, wNil, wCons, wTup, wLst, wNext, wSeq, wSet, wAsg, wDrop, wRet, wRetN, wBrk, wCont, wIf, wiL, wiT, wiR, wFor, wCall0, wCall, wCB, wM0, wM1, wNo, wPart, wSl, wYes, wLc, wipeD, wNeg, wTru, wFmt, wJoined, wJs, wRaise1, wStw, wiS, wAug, wiR2, wSt3, wFind, wApp, wNewL, wFrzL, Sl.OL, wRaiseF, rdCints, rdRep, wNameEnd, wgName, wgNil, wgCons, wgTup,
  Sl.V, D.I, D.B, D.S, D.L, D.T, D.K, D.len, D.tru, rdI, rdI0, rdLt, rdLe, rdGt, rdGe, rdEq, rdNe, eqS, rdIsN, rdNotN, rdAdd, rdIx, rdSl, rdInS, rdLen, rdOrd, rdAll, rdAny, rdIsi, rdFmt, rdJoin, rdCint, tyN, ρ0, List.map_cons, List.map_nil, List.length_cons, List.length_nil, List.replicate, List.append, List.cons_append, List.nil_append, List.getElem?_cons_zero, List.getElem?_cons_succ, List.set_cons_zero, List.set_cons_succ, Nat.add_sub_cancel, Nat.sub_self, Nat.zero_add, Nat.reduceAdd, Nat.reduceSub, if_true, if_false, true_and, and_true, decide_true, decide_false, true_or, or_true, ia_NoneType_bool, ia_NoneType_int, ia_NoneType_str, ia_NoneType_list, ia_NoneType_tuple, ia_NoneType_dict, ia_bool_bool, ia_bool_int, ia_bool_str, ia_bool_list, ia_bool_tuple, ia_bool_dict, ia_int_bool, ia_int_int, ia_int_str, ia_int_list, ia_int_tuple, ia_int_dict, ia_str_bool, ia_str_int, ia_str_str, ia_str_list, ia_str_tuple, ia_str_dict, ia_list_bool, ia_list_int, ia_list_str, ia_list_list, ia_list_tuple, ia_list_dict, ia_tuple_bool, ia_tuple_int, ia_tuple_str, ia_tuple_list, ia_tuple_tuple, ia_tuple_dict, ia_dict_bool, ia_dict_int, ia_dict_str, ia_dict_list, ia_dict_tuple, ia_dict_dict, inT_bool, inT_int, inT_str, inT_list, inT_tuple, inT_dict, Bool.false_xor, Bool.true_xor, Bool.not_eq_true, Bool.not_true, Bool.not_false, Bool.false_eq_true, ite_false, ite_true, reduceCtorEq])
theorem len_l_word_at {ds : List D} {Q : D → Prop} {E : Exn → Prop} (h : sp_l_word_at ds Q E) : ds.length = (["text", "at"] : List Str).length := by
  obtain ⟨t, i, rfl, _⟩ := h
  rfl
theorem num_is (c : Nat) : decide ((⟨#[c]⟩ : Str).cps.getD 0 0 ∈ ("-0123456789" : Str).cps.toList) = (decide (c = 45) || isDig c) := by
  show decide (c ∈ cs "-0123456789") = _
  by_cases h : c < 128
  · have key : ∀ c ∈ List.range 128, decide (c ∈ cs "-0123456789") = (decide (c = 45) || isDig c) := by decide +kernel
    exact key c (List.mem_range.mpr h)
  · have h1 : isDig c = false := by
      cases q : isDig c with
      | false => rfl
      | true => exact absurd (isDig_lt q) h
    rw [h1, decide_eq_false (show ¬ c = 45 by omega)]
    have h2 : ∀ x ∈ cs "-0123456789", x < 128 := by decide
    exact decide_eq_false fun z => h (h2 c z)
theorem dig_mem (c : Nat) : decide (c ∈ cs "0123456789") = isDig c := by
  by_cases h : c < 128
  · have key : ∀ c ∈ List.range 128, decide (c ∈ cs "0123456789") = isDig c := by decide +kernel
    exact key c (List.mem_range.mpr h)
  · have h1 : isDig c = false := by
      cases q : isDig c with
      | false => rfl
      | true => exact absurd (isDig_lt q) h
    rw [h1]
    have h2 : ∀ x ∈ cs "0123456789", x < 128 := by decide
    exact decide_eq_false fun z => h (h2 c z)
theorem cut_dots (t : Str) (i : Nat) : decide (cutS t (some (i : Int)) (some ((i : Int) + 3)) = "...") = decide (((cs t).drop i).take 3 = [46, 46, 46]) := by
  refine decide_eq_decide.mpr ?_
  have e : cs (cutS t (some (i : Int)) (some ((i : Int) + 3))) = ((cs t).drop i).take 3 := by
    rw [show ((i : Int) + 3) = ((i + 3 : Nat) : Int) by omega, cut_nat, show i + 3 - i = 3 by omega]
  constructor
  · intro h
    rw [← e, h]
    rfl
  · intro h
    apply cs_inj
    rw [e, h]
    rfl
theorem gd_plain {l : List Nat} (h : ∀ c ∈ l, gd c = true) : l.all plain = !decide (10 ∈ l) := by
  by_cases h1 : 10 ∈ l
  · rw [decide_eq_true h1]
    cases q : l.all plain with
    | false => rfl
    | true => exact absurd (List.all_eq_true.mp q 10 h1) (by decide)
  · rw [decide_eq_false h1]
    refine List.all_eq_true.mpr fun c hc => ?_
    have := h c hc
    unfold gd at this
    rcases Bool.or_eq_true_iff.mp this with q | q
    · exact q
    · exact absurd (of_decide_eq_true q ▸ hc) h1
theorem at3_0 (a b c : D) : atI [a, b, c] 0 = some a := rfl
theorem at3_1 (a b c : D) : atI [a, b, c] 1 = some b := rfl
theorem at3_2 (a b c : D) : atI [a, b, c] 2 = some c := rfl
theorem at2_0 (a b : D) : atI [a, b] 0 = some a := rfl
theorem at2_1 (a b : D) : atI [a, b] 1 = some b := rfl
theorem wd_ft : ¬ ("word" : Str) = "fault" := by decide
theorem nameW_ty {l : List Nat} (h : l.takeWhile isNam = cs "_type") : nameW l = some (("name" : Str), D.str (mk (cs "_type")), run isNam l) := by
  unfold nameW
  rw [if_pos (.inl h), h]
theorem hw_l_word_at : ∀ ds Q E, sp_l_word_at ds Q E → W_l_word_at { nx := fun _ => Q .non, rt := Q } (ρ0 (["text", "at", "sign", "end", "begin", "number", "found"] : List Str).length ds) := by
  rintro ds Q E ⟨t, i, rfl, hi, hl, hg, h⟩
  obtain ⟨c, r, e1, e2, e3, hcm⟩ := at_drop hi
  have ei : ((i : Int) + 1) = ((i + 1 : Nat) : Int) := by omega
  unfold W_l_word_at
  walk_at "dw"
  rw [e3]
  walk_at "dw"
  rw [sg_is]
  refine ⟨by omega, len_one c, ?_⟩
  have hw := e1 ▸ h
  unfold wordL at hw
  simp only at hw
  cases h1 : isSg c with
  | true =>
    rw [if_pos h1] at hw
    walk_at "dw"
    exact ⟨by decide, by decide, hw⟩
  | false =>
    rw [if_neg (by rw [h1]; exact Bool.false_ne_true)] at hw
    walk_at "dw"
    refine ⟨by omega, ?_⟩
    rw [cut_dots, e1]
    by_cases h2 : (c :: r).take 3 = [46, 46, 46]
    · rw [if_pos h2] at hw
      rw [decide_eq_true h2]
      walk_at "dw"
      exact ⟨by decide, by decide, hw⟩
    · rw [if_neg h2] at hw
      rw [decide_eq_false h2]
      walk_at "dw"
      rw [sg_eq c "\"" 34 rfl]
      by_cases h3 : c = 34
      · rw [if_pos h3] at hw
        rw [decide_eq_true h3]
        walk_at "dw"
        have hr := run_len noQ t (i + 1)
        rw [ei, show Txt.find3 t "\"" ((i + 1 : Nat) : Int) = _ from find3_one (t := t) (c := 34) (i := i + 1) (by omega), noQ_eq]
        unfold outL txtW at hw
        rw [List.drop_succ_cons, List.drop_zero, ← e2] at hw
        by_cases hq : 34 ∈ (cs t).drop (i + 1)
        · rw [if_pos hq]
          rw [decide_eq_false (by omega)]
          walk_at "dw"
          have ec : cs (cutS t (some (i : Int)) (some ((i + 1 + run noQ ((cs t).drop (i + 1)) : Nat) : Int))) = 34 :: ((cs t).drop (i + 1)).takeWhile noQ := by
            rw [cut_nat, e1, show i + 1 + run noQ ((cs t).drop (i + 1)) - i = run noQ ((cs t).drop (i + 1)) + 1 by omega, List.take_succ_cons, h3, ← e2, take_run]
          have em : decide (("\n" : Str).cps.getD 0 0 ∈ (cutS t (some (i : Int)) (some ((i + 1 + run noQ ((cs t).drop (i + 1)) : Nat) : Int))).cps.toList) = !(((cs t).drop (i + 1)).takeWhile noQ).all plain := by
            rw [gd_plain fun x hx => hg x (List.mem_of_mem_drop (mem_tw hx)), Bool.not_not]
            refine decide_eq_decide.mpr ?_
            show 10 ∈ cs _ ↔ _
            rw [ec, List.mem_cons]
            constructor
            · intro z
              rcases z with z | z
              · omega
              · exact z
            · exact .inr
          rw [em]
          refine ⟨by omega, by decide, ?_⟩
          cases h4 : (((cs t).drop (i + 1)).takeWhile noQ).all plain with
          | true =>
            rw [if_pos ⟨hq, h4⟩] at hw
            walk_at "dw"
            rw [cut_run]
            refine ⟨by omega, by decide, by decide, ?_⟩
            rw [show ((i + 1 + run noQ ((cs t).drop (i + 1)) : Nat) : Int) + 1 = ((i + (1 + run noQ ((cs t).drop (i + 1)) + 1) : Nat) : Int) by omega]
            exact hw
          | false =>
            rw [if_neg (fun z => by rw [h4] at z; exact Bool.false_ne_true z.2)] at hw
            walk_at "dw"
            exact ⟨by decide, hw⟩
        · rw [if_neg hq]
          rw [if_neg (fun z => hq z.1)] at hw
          rw [decide_eq_true (by decide)]
          walk_at "dw"
          exact ⟨by decide, hw⟩
      · rw [if_neg h3] at hw
        rw [decide_eq_false h3]
        walk_at "dw"
        rw [num_is, sg_eq c "-" 45 rfl, sg_eq c "$" 36 rfl]
        refine ⟨len_one c, ?_⟩
        by_cases h5 : c = 45 ∨ isDig c = true
        · have hc36 : c ≠ 36 := by
            rcases h5 with h5 | h5
            · omega
            · unfold isDig at h5
              have := of_decide_eq_true h5
              omega
          rw [if_neg hc36, if_pos h5] at hw
          have eb : (decide (c = 45) || isDig c) = true := by
            rcases h5 with h5 | h5
            · rw [decide_eq_true h5]; rfl
            · rw [h5, Bool.or_true]
          rw [eb]
          walk_at "dw"
          unfold outL numW at hw
          by_cases h6 : c = 45
          · rw [if_pos (by rw [h6]; rfl), List.drop_succ_cons, List.drop_zero, ← e2] at hw
            have hr := run_len isDig t (i + 1)
            rw [decide_eq_true h6]
            walk_at "dw"
            rw [ei]
            refine ⟨t, _, i + 1, rfl, by omega, hl, ?_⟩
            rw [run_congr dig_mem]
            walk_at "dw"
            by_cases h7 : 1 ≤ run isDig ((cs t).drop (i + 1)) ∧ run isDig ((cs t).drop (i + 1)) ≤ 10
            · rw [if_pos h7] at hw
              rw [decide_eq_false (by omega), decide_eq_false (by omega)]
              walk_at "dw"
              rw [cut_run]
              refine ⟨by omega, by rw [mk_len, tw_len]; omega, _, int_dig (takeWhile_all isDig _) (by rw [tw_len]; omega) (by rw [tw_len]; omega), .inl ⟨by decide, by decide⟩, .inr ⟨by decide, by decide⟩, by decide, by decide, ?_⟩
              rw [show numV (((cs t).drop (i + 1)).takeWhile isDig) - 2 * numV (((cs t).drop (i + 1)).takeWhile isDig) * 1 = - numV (((cs t).drop (i + 1)).takeWhile isDig) by omega, show i + 1 + run isDig ((cs t).drop (i + 1)) = i + (1 + run isDig ((cs t).drop (i + 1))) by omega]
              exact hw
            · rw [if_neg h7] at hw
              by_cases h8 : run isDig ((cs t).drop (i + 1)) = 0
              · rw [decide_eq_true (by omega)]
                walk_at "dw"
                exact ⟨by decide, hw⟩
              · rw [decide_eq_false (by omega), decide_eq_true (by omega)]
                walk_at "dw"
                exact ⟨by decide, hw⟩
          · rw [if_neg (by intro z; exact h6 (Option.some.inj z)), ← e1] at hw
            have hr := run_len isDig t i
            rw [decide_eq_false h6]
            walk_at "dw"
            rw [Int.add_zero]
            refine ⟨t, _, i, rfl, by omega, hl, ?_⟩
            rw [run_congr dig_mem]
            walk_at "dw"
            by_cases h7 : 1 ≤ run isDig ((cs t).drop i) ∧ run isDig ((cs t).drop i) ≤ 10
            · rw [if_pos h7] at hw
              rw [decide_eq_false (by omega), decide_eq_false (by omega)]
              walk_at "dw"
              rw [cut_run]
              refine ⟨by omega, by rw [mk_len, tw_len]; omega, _, int_dig (takeWhile_all isDig _) (by rw [tw_len]; omega) (by rw [tw_len]; omega), .inl ⟨by decide, by decide⟩, .inr ⟨by decide, by decide⟩, by decide, by decide, ?_⟩
              rw [show numV (((cs t).drop i).takeWhile isDig) - 2 * numV (((cs t).drop i).takeWhile isDig) * 0 = numV (((cs t).drop i).takeWhile isDig) by omega]
              exact hw
            · rw [if_neg h7] at hw
              by_cases h8 : run isDig ((cs t).drop i) = 0
              · rw [decide_eq_true (by omega)]
                walk_at "dw"
                exact ⟨by decide, hw⟩
              · rw [decide_eq_false (by omega), decide_eq_true (by omega)]
                walk_at "dw"
                exact ⟨by decide, hw⟩
        · have eb : (decide (c = 45) || isDig c) = false := by
            cases q : (decide (c = 45) || isDig c) with
            | false => rfl
            | true => exact absurd (by rcases Bool.or_eq_true_iff.mp q with q | q; exact .inl (of_decide_eq_true q); exact .inr q) h5
          rw [eb]
          walk_at "dw"
          by_cases h4 : c = 36
          · rw [if_pos h4] at hw
            rw [decide_eq_true h4]
            walk_at "dw"
            rw [ei]
            refine ⟨t, i + 1, i, rfl, by omega, hl, ?_⟩
            unfold outL varW at hw
            rw [List.drop_succ_cons, List.drop_zero, ← e2] at hw
            by_cases h7 : ((cs t).drop (i + 1)).takeWhile isNam = cs "_type"
            · rw [h7, ty_no, if_neg Bool.false_ne_true] at hw
              rw [nameW_ty h7]
              walk_at "dw"
              rw [at3_0, at3_1, mk_cs]
              walk_at "dw"
              rw [decide_eq_false wd_ft]
              walk_at "dw"
              exact ⟨by decide, hw⟩
            · unfold nameW
              cases h8 : nameL (((cs t).drop (i + 1)).takeWhile isNam) with
              | true =>
                rw [if_pos h8] at hw
                rw [if_pos (.inr rfl)]
                walk_at "dw"
                rw [at3_0, at3_1, at3_2]
                walk_at "dw"
                rw [decide_eq_false wd_ft, mk_eq, decide_eq_false h7]
                walk_at "dw"
                rw [at2_1]
                walk_at "dw"
                refine ⟨by decide, by decide, by decide, ?_⟩
                rw [show i + 1 + run isNam ((cs t).drop (i + 1)) = i + (1 + run isNam ((cs t).drop (i + 1))) by omega]
                exact hw
              | false =>
                rw [if_neg (by rw [h8]; exact Bool.false_ne_true)] at hw
                rw [if_neg (fun z => by rcases z with z | z; exact h7 z; cases z)]
                walk_at "dw"
                rw [at2_0]
                walk_at "dw"
                exact ⟨by decide, hw⟩
          · rw [if_neg h4, if_neg h5, ← e1] at hw
            rw [decide_eq_false h4]
            walk_at "dw"
            rw [Int.add_zero]
            refine ⟨t, i, i, rfl, by omega, hl, ?_⟩
            unfold outL at hw
            by_cases h7 : ((cs t).drop i).takeWhile isNam = cs "_type" ∨ nameL (((cs t).drop i).takeWhile isNam) = true
            · unfold nameW at hw ⊢
              rw [if_pos h7] at hw ⊢
              walk_at "dw"
              rw [at3_0, at3_1, at3_2]
              walk_at "dw"
              rw [decide_eq_false wd_ft]
              walk_at "dw"
              rw [at2_0]
              walk_at "dw"
              exact ⟨by decide, by decide, by decide, hw⟩
            · unfold nameW at hw ⊢
              rw [if_neg h7] at hw ⊢
              walk_at "dw"
              rw [at2_0]
              walk_at "dw"
              exact ⟨by decide, hw⟩
end K5
set_option Elab.async false
set_option linter.all false
set_option maxRecDepth 100000
set_option maxHeartbeats 4000000
namespace K5
open PySem L2 Dl
local macro_rules | `(tactic| walk_at "dw") => `(tactic| simp only [wSB, wSB1, wVar, wC, wOp, wB, wNotT, wAndT, wOrT, wAndV, wOrV, wNotV, wIfE, wChain, wNil, wCons, wTup, wLst, wNext, wSeq, wSet, wAsg, wDrop, wRet, wRetN, wBrk, wCont, wIf, wiL, wiT, wiR, wFor, wCall0, wCall, wCB, wM0, wM1, wNo, wPart, wSl, wYes, wLc, wipeD, wNeg, wTru, wFmt, wJoined, wJs, wRaise1, wStw, wiS, wAug, wiR2, wSt3, wFind, wApp, wNewL, wFrzL, Sl.OL, wRaiseF, rdCints, rdRep, wNameEnd, wgName, wgNil, wgCons, wgTup,
  Sl.V, D.I, D.B, D.S, D.L, D.T, D.K, D.len, D.tru, rdI, rdI0, rdLt, rdLe, rdGt, rdGe, rdEq, rdNe, eqS, rdIsN, rdNotN, rdAdd, rdIx, rdSl, rdInS, rdLen, rdOrd, rdAll, rdAny, rdIsi, rdFmt, rdJoin, rdCint, tyN, ρ0, List.map_cons, List.map_nil, List.length_cons, List.length_nil, List.replicate, List.append, List.cons_append, List.nil_append, List.getElem?_cons_zero, List.getElem?_cons_succ, List.set_cons_zero, List.set_cons_succ, Nat.add_sub_cancel, Nat.sub_self, Nat.zero_add, Nat.reduceAdd, Nat.reduceSub, if_true, if_false, true_and, and_true, decide_true, decide_false, true_or, or_true, ia_NoneType_bool, ia_NoneType_int, ia_NoneType_str, ia_NoneType_list, ia_NoneType_tuple, ia_NoneType_dict, ia_bool_bool, ia_bool_int, ia_bool_str, ia_bool_list, ia_bool_tuple, ia_bool_dict, ia_int_bool, ia_int_int, ia_int_str, ia_int_list, ia_int_tuple, ia_int_dict, ia_str_bool, ia_str_int, ia_str_str, ia_str_list, ia_str_tuple, ia_str_dict, ia_list_bool, ia_list_int, ia_list_str, ia_list_list, ia_list_tuple, ia_list_dict, ia_tuple_bool, ia_tuple_int, ia_tuple_str, ia_tuple_list, ia_tuple_tuple, ia_tuple_dict, ia_dict_bool, ia_dict_int, ia_dict_str, ia_dict_list, ia_dict_tuple, ia_dict_dict, inT_bool, inT_int, inT_str, inT_list, inT_tuple, inT_dict, Bool.false_xor, Bool.true_xor, Bool.not_eq_true, Bool.not_true, Bool.not_false, Bool.false_eq_true, ite_false, ite_true, reduceCtorEq])
local macro_rules | `(tactic| walk_at "dv") => `(tactic| simp only [wSB, wSB1, wVar, wC, wOp, wB, wNotT, wAndT, wOrT, wAndV, wOrV, wNotV, wIfE, wChain, wNil, wCons, wTup, wLst, wNext, wSeq, wSet, wAsg, wDrop, wRet, wRetN, wBrk, wCont, wIf, wiL, wiT, wiR, wFor, wCall0, wCall, wCB, wM0, wM1, wNo, wPart, wSl, wYes, wLc, wipeD, wNeg, wTru, wFmt, wJoined, wJs, wRaise1, wStw, wiS, wAug, wiR2, wSt3, wFind, wApp, wNewL, wFrzL, Sl.OL, wRaiseF, rdCints, rdRep, wNameEnd, wgName, wgNil, wgCons, wgTup,
  Sl.V, D.I, D.B, D.S, D.L, D.T, D.K, D.len, D.tru, rdI, rdI0, rdLt, rdLe, rdGt, rdGe, rdIsN, rdNotN, rdAdd, rdIx, rdSl, rdInS, rdLen, rdOrd, rdAll, rdAny, rdIsi, rdFmt, rdJoin, rdCint, tyN, ρ0, List.map_cons, List.map_nil, List.length_cons, List.length_nil, List.replicate, List.append, List.cons_append, List.nil_append, List.getElem?_cons_zero, List.getElem?_cons_succ, List.set_cons_zero, List.set_cons_succ, Nat.add_sub_cancel, Nat.sub_self, Nat.zero_add, Nat.reduceAdd, Nat.reduceSub, if_true, if_false, true_and, and_true, decide_true, decide_false, true_or, or_true, ia_NoneType_bool, ia_NoneType_int, ia_NoneType_str, ia_NoneType_list, ia_NoneType_tuple, ia_NoneType_dict, ia_bool_bool, ia_bool_int, ia_bool_str, ia_bool_list, ia_bool_tuple, ia_bool_dict, ia_int_bool, ia_int_int, ia_int_str, ia_int_list, ia_int_tuple, ia_int_dict, ia_str_bool, ia_str_int, ia_str_str, ia_str_list, ia_str_tuple, ia_str_dict, ia_list_bool, ia_list_int, ia_list_str, ia_list_list, ia_list_tuple, ia_list_dict, ia_tuple_bool, ia_tuple_int, ia_tuple_str, ia_tuple_list, ia_tuple_tuple, ia_tuple_dict, ia_dict_bool, ia_dict_int, ia_dict_str, ia_dict_list, ia_dict_tuple, ia_dict_dict, inT_bool, inT_int, inT_str, inT_list, inT_tuple, inT_dict, Bool.false_xor, Bool.true_xor, Bool.not_eq_true, Bool.not_true, Bool.not_false, Bool.false_eq_true, ite_false, ite_true, reduceCtorEq])
theorem len_l_split {ds : List D} {Q : D → Prop} {E : Exn → Prop} (h : sp_l_split ds Q E) : ds.length = (["text"] : List Str).length := by
  obtain ⟨t, rfl, _⟩ := h
  rfl
theorem blk_run (l : List Nat) : run (fun c => decide (c ∈ cs " \n,")) l = run isBlk l := rfl
theorem hw_l_split : ∀ ds Q E, sp_l_split ds Q E → W_l_split { nx := fun _ => Q .non, rt := Q } (ρ0 (["text", "words", "at", "k", "found"] : List Str).length ds) := by
  rintro ds Q E ⟨t, rfl, hl, hg, h⟩
  have hr0 := run_len isBlk t 0
  unfold W_l_split
  walk_at "dw"
  refine ⟨t, _, 0, rfl, Nat.zero_le _, hl, ?_⟩
  rw [blk_run]
  walk_at "dw"
  rw [if_pos (show t.length ≤ 1000000 by omega)]
  walk_at "dw"
  refine ⟨by omega, ?_⟩
  refine for_rule (fun xs ρ => ∃ (i : Nat) (acc : List D) (a b : Sl), ρ = [.val (.str t), .ol acc, .val (.int (i : Nat)), a, b] ∧ i ≤ t.length ∧ t.length - i ≤ xs.length ∧ acc.length ≤ i ∧ (∀ c r, (cs t).drop i = c :: r → isBlk c = false) ∧ (match spl i ((cs t).drop i) with
      | .inl j => Q (.tup [.str "fault", .int (j : Nat)])
      | .inr ws => Q (.tup [.str "words", .lst (acc ++ ws)]))) ?_ ?_ _ _ ⟨run isBlk ((cs t).drop 0), [], _, _, rfl, by omega, ?_, Nat.zero_le _, ?_, ?_⟩
  · rintro x xs ρ N ⟨i, acc, a, b, rfl, h1, h2, h3, hb, hk⟩ ih
    unfold W_l_split_b1
    walk_at "dw"
    rw [if_pos (show t.length ≤ 1000000 by omega)]
    walk_at "dw"
    simp only [List.length_cons] at h2
    by_cases hlt : i < t.length
    · rw [decide_eq_true (by omega)]
      walk_at "dw"
      obtain ⟨c, r, e1, e2, e3, _⟩ := at_drop hlt
      refine ⟨t, i, rfl, hlt, hl, hg, ?_⟩
      rw [e1, spl_word (hb c r e1)] at hk
      rw [e1]
      unfold outL
      cases hw : wordL (c :: r) with
      | none =>
        rw [hw] at hk
        walk_at "dw"
        rw [at2_0, at2_1]
        walk_at "dw"
        exact ⟨by decide, hk⟩
      | some y =>
        obtain ⟨kk, d, n⟩ := y
        rw [hw] at hk
        obtain ⟨n1, n2, _⟩ := wordL_ok hw
        have hlen : (c :: r).length = t.length - i := by rw [← e1, List.length_drop, cs_len]
        simp only at hk
        rw [← e1, List.drop_drop] at hk
        walk_at "dw"
        rw [at3_0, at3_1, at3_2]
        walk_at "dw"
        rw [decide_eq_false wd_ft]
        walk_at "dw"
        have hr := run_len isBlk t (i + n)
        refine ⟨by decide, ⟨by simp, by decide⟩, by omega, t, _, i + n, rfl, by omega, hl, ?_⟩
        rw [blk_run]
        rw [spl_skip, List.drop_drop] at hk
        refine ih _ ⟨i + n + run isBlk ((cs t).drop (i + n)), acc ++ [.tup [.int (i : Nat), .str kk, d]], _, _, rfl, by omega, by omega, by rw [List.length_append]; simp only [List.length_cons, List.length_nil]; omega, ?_, ?_⟩
        · intro c' r' e
          rw [← List.drop_drop] at e
          exact run_rest isBlk _ c' r' e
        · cases hs : spl (i + n + run isBlk ((cs t).drop (i + n))) ((cs t).drop (i + n + run isBlk ((cs t).drop (i + n)))) with
          | inl j =>
            rw [hs] at hk
            exact hk
          | inr ws =>
            rw [hs] at hk
            simp only at hk ⊢
            rw [List.append_assoc]
            exact hk
    · rw [decide_eq_false (by omega)]
      walk_at "dw"
      exact ih _ ⟨i, acc, _, _, rfl, h1, by omega, h3, hb, hk⟩
  · rintro ρ ⟨i, acc, a, b, rfl, h1, h2, h3, hb, hk⟩
    simp only [List.length_nil] at h2
    rw [drop_all (by omega), spl_nil] at hk
    simp only [List.append_nil] at hk
    walk_at "dw"
    exact ⟨by decide, hk⟩
  · have : (rngD (t.length : Nat)).length = t.length := by
      unfold rngD
      rw [List.length_map, List.length_range]
      omega
    omega
  · intro c r e
    rw [show run isBlk ((cs t).drop 0) = run isBlk (cs t) by rw [List.drop_zero]] at e
    exact run_rest isBlk _ c r e
  · have e : spl 0 (cs t) = spl (run isBlk ((cs t).drop 0)) ((cs t).drop (run isBlk ((cs t).drop 0))) := by
      have := spl_skip (cs t) 0
      rw [Nat.zero_add] at this
      rw [List.drop_zero]
      exact this
    rw [← e]
    unfold encS at h
    cases hs : spl 0 (cs t) with
    | inl j => rw [hs] at h; exact h
    | inr ws => rw [hs] at h; exact h
theorem len_l_piece {ds : List D} {Q : D → Prop} {E : Exn → Prop} (h : sp_l_piece ds Q E) : ds.length = (["state", "script"] : List Str).length := by
  obtain ⟨ns, rfl, _⟩ := h
  rfl
def pcs : List Str := [("query" : Str), ("a" : Str), ("A_1" : Str), ("_type" : Str), ("_" : Str), ("_types" : Str), ("..." : Str), (".." : Str), ("." : Str), ("$v" : Str), ("$" : Str), ("$_type" : Str), ("$9" : Str), ("{" : Str), ("}" : Str), ("(" : Str), (")" : Str), (":" : Str), ("=" : Str), ("!" : Str), ("[" : Str), ("]" : Str), ("@" : Str), ("@if" : Str), ("-" : Str), ("-7" : Str), ("0" : Str), ("007" : Str), ("1234567890" : Str), ("12345678901" : Str), ("-1234567890" : Str), ("9a" : Str), ("\"" : Str), ("\"x y\"" : Str), ("\"\"" : Str), ("\"{,\n\"" : Str), Txt.mul ("n" : Str) 30, Txt.mul ("n" : Str) 31, ("#" : Str), ("&" : Str), ("on" : Str), ("true" : Str), ("null" : Str), ("\"open" : Str), ("~" : Str)]
theorem pcs_ok : ∀ s ∈ pcs, s.length ≤ 31 ∧ ∀ c ∈ cs s, gd c = true := by decide +kernel
theorem hw_l_piece : ∀ ds Q E, sp_l_piece ds Q E → W_l_piece { nx := fun _ => Q .non, rt := Q } (ρ0 (["state", "script", "pieces"] : List Str).length ds) := by
  rintro ds Q E ⟨ns, rfl, h⟩
  unfold W_l_piece
  walk_at "dw"
  refine ⟨⟨by decide, by decide, by decide⟩, ⟨by decide, by decide, by decide⟩, by decide, ns, 45, rfl, by decide, by decide, fun d hd0 hd1 => ?_⟩
  walk_at "dw"
  show match atI (pcs.map .str) d with
    | some d => Q d
    | none => False
  obtain ⟨j, rfl⟩ : ∃ j : Nat, d = (j : Int) := ⟨d.toNat, by omega⟩
  have hj : j < pcs.length := by
    show j < 45
    omega
  rw [atI_nat (v := .str pcs[j]) (by rw [List.getElem?_map, List.getElem?_eq_getElem hj]; rfl)]
  have := pcs_ok _ (List.getElem_mem hj)
  exact h _ this.1 this.2
end K5
set_option Elab.async false
set_option linter.all false
set_option maxRecDepth 100000
set_option maxHeartbeats 4000000
namespace K5
open PySem L2 Dl
local macro_rules | `(tactic| walk_at "dw") => `(tactic| simp only [wSB, wSB1, wVar, wC, wOp, wB, wNotT, wAndT, wOrT, wAndV, wOrV, wNotV, wIfE, wChain, wNil, wCons, wTup, wLst, wNext, wSeq, wSet, wAsg, wDrop, wRet, wRetN, wBrk, wCont, wIf, wiL, wiT, wiR, wFor, wCall0, wCall, wCB, wM0, wM1, wNo, wPart, wSl, wYes, wLc, wipeD, wNeg, wTru, wFmt, wJoined, wJs, wRaise1, wStw, wiS, wAug, wiR2, wSt3, wFind, wApp, wNewL, wFrzL, Sl.OL, wRaiseF, rdCints, rdRep, wNameEnd, wgName, wgNil, wgCons, wgTup,
  Sl.V, D.I, D.B, D.S, D.L, D.T, D.K, D.len, D.tru, rdI, rdI0, rdLt, rdLe, rdGt, rdGe, rdEq, rdNe, eqS, rdIsN, rdNotN, rdAdd, rdIx, rdSl, rdInS, rdLen, rdOrd, rdAll, rdAny, rdIsi, rdFmt, rdJoin, rdCint, tyN, ρ0, List.map_cons, List.map_nil, List.length_cons, List.length_nil, List.replicate, List.append, List.cons_append, List.nil_append, List.getElem?_cons_zero, List.getElem?_cons_succ, List.set_cons_zero, List.set_cons_succ, Nat.add_sub_cancel, Nat.sub_self, Nat.zero_add, Nat.reduceAdd, Nat.reduceSub, if_true, if_false, true_and, and_true, decide_true, decide_false, true_or, or_true, ia_NoneType_bool, ia_NoneType_int, ia_NoneType_str, ia_NoneType_list, ia_NoneType_tuple, ia_NoneType_dict, ia_bool_bool, ia_bool_int, ia_bool_str, ia_bool_list, ia_bool_tuple, ia_bool_dict, ia_int_bool, ia_int_int, ia_int_str, ia_int_list, ia_int_tuple, ia_int_dict, ia_str_bool, ia_str_int, ia_str_str, ia_str_list, ia_str_tuple, ia_str_dict, ia_list_bool, ia_list_int, ia_list_str, ia_list_list, ia_list_tuple, ia_list_dict, ia_tuple_bool, ia_tuple_int, ia_tuple_str, ia_tuple_list, ia_tuple_tuple, ia_tuple_dict, ia_dict_bool, ia_dict_int, ia_dict_str, ia_dict_list, ia_dict_tuple, ia_dict_dict, inT_bool, inT_int, inT_str, inT_list, inT_tuple, inT_dict, Bool.false_xor, Bool.true_xor, Bool.not_eq_true, Bool.not_true, Bool.not_false, Bool.false_eq_true, ite_false, ite_true, reduceCtorEq])
local macro_rules | `(tactic| walk_at "dv") => `(tactic| simp only [wSB, wSB1, wVar, wC, wOp, wB, wNotT, wAndT, wOrT, wAndV, wOrV, wNotV, wIfE, wChain, wNil, wCons, wTup, wLst, wNext, wSeq, wSet, wAsg, wDrop, wRet, wRetN, wBrk, wCont, wIf, wiL, wiT, wiR, wFor, wCall0, wCall, wCB, wM0, wM1, wNo, wPart, wSl, wYes, wLc, wipeD, wNeg, wTru, wFmt, wJoined, wJs, wRaise1, wStw, wiS, wAug, wiR2, wSt3, wFind, wApp, wNewL, wFrzL, Sl.OL, wRaiseF, rdCints, rdRep, wNameEnd, wgName, wgNil, wgCons, wgTup,
  Sl.V, D.I, D.B, D.S, D.L, D.T, D.K, D.len, D.tru, rdI, rdI0, rdLt, rdLe, rdGt, rdGe, rdIsN, rdNotN, rdAdd, rdIx, rdSl, rdInS, rdLen, rdOrd, rdAll, rdAny, rdIsi, rdFmt, rdJoin, rdCint, tyN, ρ0, List.map_cons, List.map_nil, List.length_cons, List.length_nil, List.replicate, List.append, List.cons_append, List.nil_append, List.getElem?_cons_zero, List.getElem?_cons_succ, List.set_cons_zero, List.set_cons_succ, Nat.add_sub_cancel, Nat.sub_self, Nat.zero_add, Nat.reduceAdd, Nat.reduceSub, if_true, if_false, true_and, and_true, decide_true, decide_false, true_or, or_true, ia_NoneType_bool, ia_NoneType_int, ia_NoneType_str, ia_NoneType_list, ia_NoneType_tuple, ia_NoneType_dict, ia_bool_bool, ia_bool_int, ia_bool_str, ia_bool_list, ia_bool_tuple, ia_bool_dict, ia_int_bool, ia_int_int, ia_int_str, ia_int_list, ia_int_tuple, ia_int_dict, ia_str_bool, ia_str_int, ia_str_str, ia_str_list, ia_str_tuple, ia_str_dict, ia_list_bool, ia_list_int, ia_list_str, ia_list_list, ia_list_tuple, ia_list_dict, ia_tuple_bool, ia_tuple_int, ia_tuple_str, ia_tuple_list, ia_tuple_tuple, ia_tuple_dict, ia_dict_bool, ia_dict_int, ia_dict_str, ia_dict_list, ia_dict_tuple, ia_dict_dict, inT_bool, inT_int, inT_str, inT_list, inT_tuple, inT_dict, Bool.false_xor, Bool.true_xor, Bool.not_eq_true, Bool.not_true, Bool.not_false, Bool.false_eq_true, ite_false, ite_true, reduceCtorEq])
abbrev dL : DEnds := { nx := fun _ => False, rt := fun d => d = .bl true }
def seps : List Str := [("" : Str), (" " : Str), ("," : Str), ("\n" : Str), (" , " : Str), (" " : Str)]
theorem seps_ok : ∀ s ∈ seps, s.length ≤ 3 ∧ ∀ c ∈ cs s, gd c = true := by decide +kernel
theorem ws_ft : ¬ ("words" : Str) = "fault" := by decide
theorem law_5 {ns : List Int} {t : Str} {ws : List D} {a b c e : Sl} (hw : ∀ d ∈ ws, wOk d) : W_law_s5 dL [.val (.scr ns), .val .drw, .val (.str t), a, .val (encS (.inr ws)), b, c, e] := by
  unfold W_law_s5 encS
  walk_at "dw"
  rw [at2_1]
  walk_at "dw"
  refine for_rule (fun xs ρ => ∃ (b c e : Sl), ρ = [.val (.scr ns), .val .drw, .val (.str t), a, .val (encS (.inr ws)), b, c, e] ∧ ∀ d ∈ xs, wOk d) ?_ ?_ _ _ ⟨b, c, e, rfl, hw⟩
  · rintro x xs ρ N ⟨b, c, e, rfl, hx⟩ ih
    obtain ⟨i, k, v, rfl, hk, _, _, _⟩ := hx x List.mem_cons_self
    unfold W_law_b2
    walk_at "dw"
    have go : ∀ ρ', (∃ (b c e : Sl), ρ' = [.val (.scr ns), .val .drw, .val (.str t), a, .val (encS (.inr ws)), b, c, e] ∧ ∀ d ∈ xs, wOk d) → N ρ' := ih
    have hx' : ∀ d ∈ xs, wOk d := fun d h => hx d (List.mem_cons_of_mem _ h)
    rcases hk with ⟨rfl, j, rfl⟩ | ⟨hk, s, rfl⟩
    · walk_at "dw"
      exact ih _ ⟨_, _, _, rfl, hx'⟩
    · walk_at "dw"
      rw [decide_eq_false hk]
      walk_at "dw"
      exact ih _ ⟨_, _, _, rfl, hx'⟩
  · rintro ρ ⟨b, c, e, rfl, _⟩
    unfold W_law_s6
    walk_at "dw"
theorem law_2 {ns : List Int} {t : Str} {a b c d e : Sl} (hl : t.length ≤ 1000) (hg : ∀ c ∈ cs t, gd c = true) : W_law_s2 dL [.val (.scr ns), .val .drw, .val (.str t), a, b, c, d, e] := by
  unfold W_law_s2 W_law_s3
  walk_at "dv"
  refine ⟨t, rfl, hl, ?_⟩
  walk_at "dv"
  refine ⟨t, rfl, hl, hg, ?_⟩
  refine ne_same (encS_ok hg) ?_
  walk_at "dv"
  unfold W_law_s4
  cases hs : spl 0 (cs t) with
  | inl j =>
    unfold encS
    walk_at "dw"
    rw [at2_0]
    walk_at "dw"
  | inr ws =>
    have hw := (spl_ok _ (cs t) 0 ws (Nat.le_refl _) hg hs).1
    have l5 := law_5 (ns := ns) (t := t) (ws := ws) (a := a) (b := c) (c := d) (e := e) hw
    unfold encS at l5 ⊢
    walk_at "dw"
    rw [at2_0]
    walk_at "dw"
    rw [decide_eq_false ws_ft]
    walk_at "dw"
    exact l5
theorem hw_law (ns : List Int) (h : ns.length ≤ 63) : W_law { nx := fun _ => False, rt := fun d => d = .bl true } (.val (.scr ns) :: .val .drw :: List.replicate ((["script", "state", "text", "k", "told", "place", "kind", "word"] : List Str).length - 2) .un) := by
  unfold W_law W_law_s1
  walk_at "dw"
  refine ⟨ns, 15, rfl, by decide, by decide, fun n hn0 hn1 => ?_⟩
  walk_at "dw"
  refine ⟨by omega, ?_⟩
  have hlen : (rngD n).length ≤ 14 := by
    unfold rngD
    rw [List.length_map, List.length_range]
    omega
  refine for_rule (fun xs ρ => ∃ (t : Str) (a : Sl), ρ = [.val (.scr ns), .val .drw, .val (.str t), a, .un, .un, .un, .un] ∧ t.length + 34 * xs.length ≤ 476 ∧ ∀ c ∈ cs t, gd c = true) ?_ ?_ _ _ ⟨"", _, rfl, by have : ("" : Str).length = 0 := rfl; omega, fun c hc => by cases hc⟩
  · rintro x xs ρ N ⟨t, a, rfl, h1, h2⟩ ih
    unfold W_law_b1
    simp only [List.length_cons] at h1
    walk_at "dw"
    refine ⟨ns, rfl, fun s hs1 hs2 => ?_⟩
    walk_at "dw"
    refine ⟨by omega, by decide, ns, 6, rfl, by decide, by decide, fun d hd0 hd1 => ?_⟩
    walk_at "dw"
    obtain ⟨j, rfl⟩ : ∃ j : Nat, d = (j : Int) := ⟨d.toNat, by omega⟩
    have hj : j < seps.length := by
      show j < 6
      omega
    have e : atI [D.str "", D.str " ", D.str ",", D.str "\n", D.str " , ", D.str " "] (j : Int) = some (.str seps[j]) := atI_nat (xs := seps.map D.str) (v := D.str seps[j]) (by rw [List.getElem?_map, List.getElem?_eq_getElem hj]; rfl)
    rw [e]
    walk_at "dw"
    obtain ⟨o1, o2⟩ := seps_ok _ (List.getElem_mem hj)
    refine ⟨by rw [len_app]; omega, ih _ ⟨_, _, rfl, by rw [len_app, len_app]; omega, fun c hc => ?_⟩⟩
    rw [cs_app, cs_app] at hc
    rcases List.mem_append.mp hc with hc | hc
    · rcases List.mem_append.mp hc with hc | hc
      · exact h2 c hc
      · exact hs2 c hc
    · exact o2 c hc
  · rintro ρ ⟨t, a, rfl, h1, h2⟩
    simp only [List.length_nil] at h1
    exact law_2 (by omega) h2
end K5
set_option Elab.async false
set_option linter.all false
set_option maxRecDepth 100000
set_option maxHeartbeats 4000000
namespace K5
open PySem PySem.Spec PyProof.Rows L2 Dl
def top (i : Nat) : Stmt := PySem.Challenge.pw_seamgraph_k05_words.main.body.getD i (.Pass ⟨0, 0, 0, 0⟩)
section
/-! ### the text by places, its names -/
abbrev s_is_name : Stmt := top 10
abbrev s_is_plain : Stmt := top 12
abbrev s_fits : Stmt := top 11
abbrev s_may_follow : Stmt := top 27
abbrev s_is_digit : Stmt := top 28
abbrev s_end_of_name : Stmt := top 26
abbrev s_read_name : Stmt := top 25
abbrev s_read_number : Stmt := top 24
abbrev s_read_variable : Stmt := top 23
abbrev s_read_text : Stmt := top 22
abbrev s_read_word : Stmt := top 21
abbrev s_split_words : Stmt := top 20
abbrev s_l_is_integer : Stmt := top 30
abbrev s_l_refill : Stmt := top 31
abbrev s_l_draw : Stmt := top 32
abbrev s_l_run : Stmt := top 33
abbrev s_l_named : Stmt := top 34
abbrev s_l_word_at : Stmt := top 35
abbrev s_l_split : Stmt := top 36
abbrev s_l_told : Stmt := top 37
abbrev s_l_piece : Stmt := top 38
abbrev s_law : Stmt := top 39
theorem sc_is_name : FnScope ["text"] ["text"] (defScope s_is_name) := ⟨rfl, rfl, rfl, by decide +kernel, rfl, by decide +kernel, by decide +kernel⟩
theorem sc_is_plain : FnScope ["code"] ["code"] (defScope s_is_plain) := ⟨rfl, rfl, rfl, by decide +kernel, rfl, by decide +kernel, by decide +kernel⟩
theorem sc_fits : FnScope ["scalar", "value", "sign"] ["scalar", "value"] (defScope s_fits) := ⟨rfl, rfl, rfl, by decide +kernel, rfl, by decide +kernel, by decide +kernel⟩
theorem sc_may_follow : FnScope ["sign"] ["sign"] (defScope s_may_follow) := ⟨rfl, rfl, rfl, by decide +kernel, rfl, by decide +kernel, by decide +kernel⟩
theorem sc_is_digit : FnScope ["sign"] ["sign"] (defScope s_is_digit) := ⟨rfl, rfl, rfl, by decide +kernel, rfl, by decide +kernel, by decide +kernel⟩
theorem sc_end_of_name : FnScope ["text", "place", "end"] ["text", "place"] (defScope s_end_of_name) := ⟨rfl, rfl, rfl, by decide +kernel, rfl, by decide +kernel, by decide +kernel⟩
theorem sc_read_name : FnScope ["text", "place", "end", "word"] ["text", "place"] (defScope s_read_name) := ⟨rfl, rfl, rfl, by decide +kernel, rfl, by decide +kernel, by decide +kernel⟩
theorem sc_read_number : FnScope ["text", "place", "start", "end"] ["text", "place"] (defScope s_read_number) := ⟨rfl, rfl, rfl, by decide +kernel, rfl, by decide +kernel, by decide +kernel⟩
theorem sc_read_variable : FnScope ["text", "place", "end", "word"] ["text", "place"] (defScope s_read_variable) := ⟨rfl, rfl, rfl, by decide +kernel, rfl, by decide +kernel, by decide +kernel⟩
theorem sc_read_text : FnScope ["text", "place", "end", "word"] ["text", "place"] (defScope s_read_text) := ⟨rfl, rfl, rfl, by decide +kernel, rfl, by decide +kernel, by decide +kernel⟩
theorem sc_read_word : FnScope ["text", "place", "sign"] ["text", "place"] (defScope s_read_word) := ⟨rfl, rfl, rfl, by decide +kernel, rfl, by decide +kernel, by decide +kernel⟩
theorem sc_split_words : FnScope ["text", "words", "place", "kind", "word", "end"] ["text"] (defScope s_split_words) := ⟨rfl, rfl, rfl, by decide +kernel, rfl, by decide +kernel, by decide +kernel⟩
theorem sc_l_is_integer : FnScope ["actual"] ["actual"] (defScope s_l_is_integer) := ⟨rfl, rfl, rfl, by decide +kernel, rfl, by decide +kernel, by decide +kernel⟩
theorem sc_l_refill : FnScope ["script", "k", "cell"] ["script", "k"] (defScope s_l_refill) := ⟨rfl, rfl, rfl, by decide +kernel, rfl, by decide +kernel, by decide +kernel⟩
theorem sc_l_draw : FnScope ["state", "script", "size", "digit"] ["state", "script", "size"] (defScope s_l_draw) := ⟨rfl, rfl, rfl, by decide +kernel, rfl, by decide +kernel, by decide +kernel⟩
theorem sc_l_run : FnScope ["text", "at", "signs", "end", "k"] ["text", "at", "signs"] (defScope s_l_run) := ⟨rfl, rfl, rfl, by decide +kernel, rfl, by decide +kernel, by decide +kernel⟩
theorem sc_l_named : FnScope ["text", "at", "place", "letters", "end", "name"] ["text", "at", "place"] (defScope s_l_named) := ⟨rfl, rfl, rfl, by decide +kernel, rfl, by decide +kernel, by decide +kernel⟩
theorem sc_l_word_at : FnScope ["text", "at", "sign", "end", "begin", "number", "found"] ["text", "at"] (defScope s_l_word_at) := ⟨rfl, rfl, rfl, by decide +kernel, rfl, by decide +kernel, by decide +kernel⟩
theorem sc_l_split : FnScope ["text", "words", "at", "k", "found"] ["text"] (defScope s_l_split) := ⟨rfl, rfl, rfl, by decide +kernel, rfl, by decide +kernel, by decide +kernel⟩
theorem sc_l_told : FnScope ["text", "e"] ["text"] (defScope s_l_told) := ⟨rfl, rfl, rfl, by decide +kernel, rfl, by decide +kernel, by decide +kernel⟩
theorem sc_l_piece : FnScope ["state", "script", "pieces"] ["state", "script"] (defScope s_l_piece) := ⟨rfl, rfl, rfl, by decide +kernel, rfl, by decide +kernel, by decide +kernel⟩
theorem sc_law : FnScope ["script", "state", "text", "k", "told", "place", "kind", "word"] ["script"] (defScope s_law) := ⟨rfl, rfl, rfl, by decide +kernel, rfl, by decide +kernel, by decide +kernel⟩
structure Tx (K : PySem.W.Frag) (mg : Str → Option Value) where
  a_is_name : Addr
  d_is_name : FuncData
  F_is_name : Fun K "is_name" "is_name" s_is_name a_is_name d_is_name
  b_is_name : Binds K d_is_name ["text"] []
  m_is_name : mg "is_name" = some (.ref a_is_name)
  a_is_plain : Addr
  d_is_plain : FuncData
  F_is_plain : Fun K "_is_plain" "_is_plain" s_is_plain a_is_plain d_is_plain
  b_is_plain : Binds K d_is_plain ["code"] []
  m_is_plain : mg "_is_plain" = some (.ref a_is_plain)
  a_fits : Addr
  d_fits : FuncData
  F_fits : Fun K "fits" "fits" s_fits a_fits d_fits
  b_fits : Binds K d_fits ["scalar", "value"] []
  m_fits : mg "fits" = some (.ref a_fits)
  a_may_follow : Addr
  d_may_follow : FuncData
  F_may_follow : Fun K "_may_follow" "_may_follow" s_may_follow a_may_follow d_may_follow
  b_may_follow : Binds K d_may_follow ["sign"] []
  m_may_follow : mg "_may_follow" = some (.ref a_may_follow)
  a_is_digit : Addr
  d_is_digit : FuncData
  F_is_digit : Fun K "_is_digit" "_is_digit" s_is_digit a_is_digit d_is_digit
  b_is_digit : Binds K d_is_digit ["sign"] []
  m_is_digit : mg "_is_digit" = some (.ref a_is_digit)
  a_end_of_name : Addr
  d_end_of_name : FuncData
  F_end_of_name : Fun K "_end_of_name" "_end_of_name" s_end_of_name a_end_of_name d_end_of_name
  b_end_of_name : Binds K d_end_of_name ["text", "place"] []
  m_end_of_name : mg "_end_of_name" = some (.ref a_end_of_name)
  a_read_name : Addr
  d_read_name : FuncData
  F_read_name : Fun K "_read_name" "_read_name" s_read_name a_read_name d_read_name
  b_read_name : Binds K d_read_name ["text", "place"] []
  m_read_name : mg "_read_name" = some (.ref a_read_name)
  a_read_number : Addr
  d_read_number : FuncData
  F_read_number : Fun K "_read_number" "_read_number" s_read_number a_read_number d_read_number
  b_read_number : Binds K d_read_number ["text", "place"] []
  m_read_number : mg "_read_number" = some (.ref a_read_number)
  a_read_variable : Addr
  d_read_variable : FuncData
  F_read_variable : Fun K "_read_variable" "_read_variable" s_read_variable a_read_variable d_read_variable
  b_read_variable : Binds K d_read_variable ["text", "place"] []
  m_read_variable : mg "_read_variable" = some (.ref a_read_variable)
  a_read_text : Addr
  d_read_text : FuncData
  F_read_text : Fun K "_read_text" "_read_text" s_read_text a_read_text d_read_text
  b_read_text : Binds K d_read_text ["text", "place"] []
  m_read_text : mg "_read_text" = some (.ref a_read_text)
  a_read_word : Addr
  d_read_word : FuncData
  F_read_word : Fun K "_read_word" "_read_word" s_read_word a_read_word d_read_word
  b_read_word : Binds K d_read_word ["text", "place"] []
  m_read_word : mg "_read_word" = some (.ref a_read_word)
  a_split_words : Addr
  d_split_words : FuncData
  F_split_words : Fun K "split_words" "split_words" s_split_words a_split_words d_split_words
  b_split_words : Binds K d_split_words ["text"] []
  m_split_words : mg "split_words" = some (.ref a_split_words)
  a_l_is_integer : Addr
  d_l_is_integer : FuncData
  F_l_is_integer : Fun K "_law_is_integer" "_law_is_integer" s_l_is_integer a_l_is_integer d_l_is_integer
  b_l_is_integer : Binds K d_l_is_integer ["actual"] []
  m_l_is_integer : mg "_law_is_integer" = some (.ref a_l_is_integer)
  a_l_refill : Addr
  d_l_refill : FuncData
  F_l_refill : Fun K "_law_refill" "_law_refill" s_l_refill a_l_refill d_l_refill
  b_l_refill : Binds K d_l_refill ["script", "k"] []
  m_l_refill : mg "_law_refill" = some (.ref a_l_refill)
  a_l_draw : Addr
  d_l_draw : FuncData
  F_l_draw : Fun K "_law_draw" "_law_draw" s_l_draw a_l_draw d_l_draw
  b_l_draw : Binds K d_l_draw ["state", "script", "size"] []
  m_l_draw : mg "_law_draw" = some (.ref a_l_draw)
  a_l_run : Addr
  d_l_run : FuncData
  F_l_run : Fun K "_law_run" "_law_run" s_l_run a_l_run d_l_run
  b_l_run : Binds K d_l_run ["text", "at", "signs"] []
  m_l_run : mg "_law_run" = some (.ref a_l_run)
  a_l_named : Addr
  d_l_named : FuncData
  F_l_named : Fun K "_law_named" "_law_named" s_l_named a_l_named d_l_named
  b_l_named : Binds K d_l_named ["text", "at", "place"] []
  m_l_named : mg "_law_named" = some (.ref a_l_named)
  a_l_word_at : Addr
  d_l_word_at : FuncData
  F_l_word_at : Fun K "_law_word_at" "_law_word_at" s_l_word_at a_l_word_at d_l_word_at
  b_l_word_at : Binds K d_l_word_at ["text", "at"] []
  m_l_word_at : mg "_law_word_at" = some (.ref a_l_word_at)
  a_l_split : Addr
  d_l_split : FuncData
  F_l_split : Fun K "_law_split" "_law_split" s_l_split a_l_split d_l_split
  b_l_split : Binds K d_l_split ["text"] []
  m_l_split : mg "_law_split" = some (.ref a_l_split)
  a_l_told : Addr
  d_l_told : FuncData
  F_l_told : Fun K "_law_told" "_law_told" s_l_told a_l_told d_l_told
  b_l_told : Binds K d_l_told ["text"] []
  m_l_told : mg "_law_told" = some (.ref a_l_told)
  a_l_piece : Addr
  d_l_piece : FuncData
  F_l_piece : Fun K "_law_piece" "_law_piece" s_l_piece a_l_piece d_l_piece
  b_l_piece : Binds K d_l_piece ["state", "script"] []
  m_l_piece : mg "_law_piece" = some (.ref a_l_piece)
  a_law : Addr
  d_law : FuncData
  F_law : Fun K "law" "law" s_law a_law d_law
  b_law : Binds K d_law ["script"] []
  m_law : mg "law" = some (.ref a_law)
  t_LONGEST_NAME : Tok
  c_LONGEST_NAME : mg "LONGEST_NAME" = some (.int (30) t_LONGEST_NAME)
  t_LEAST_INT : Tok
  c_LEAST_INT : mg "LEAST_INT" = some (.int (-2147483648) t_LEAST_INT)
  t_GREATEST_INT : Tok
  c_GREATEST_INT : mg "GREATEST_INT" = some (.int (2147483647) t_GREATEST_INT)
  t_FIRST_CODE : Tok
  c_FIRST_CODE : mg "FIRST_CODE" = some (.int (32) t_FIRST_CODE)
  t_LAST_CODE : Tok
  c_LAST_CODE : mg "LAST_CODE" = some (.int (126) t_LAST_CODE)
  t_EXCEPTED_CODE : Tok
  c_EXCEPTED_CODE : mg "EXCEPTED_CODE" = some (.int (37) t_EXCEPTED_CODE)
  t_BLANKS : Tok
  c_BLANKS : mg "BLANKS" = some (.str " \n," t_BLANKS)
  t_SIGNS : Tok
  c_SIGNS : mg "SIGNS" = some (.str "{}():=![]@" t_SIGNS)
  t_DOTS : Tok
  c_DOTS : mg "DOTS" = some (.str "..." t_DOTS)
  t_QUOTE : Tok
  c_QUOTE : mg "QUOTE" = some (.str "\"" t_QUOTE)
  t_MOST_DIGITS : Tok
  c_MOST_DIGITS : mg "MOST_DIGITS" = some (.int (10) t_MOST_DIGITS)
  t_TYPE_FIELD : Tok
  c_TYPE_FIELD : mg "TYPE_FIELD" = some (.str "_type" t_TYPE_FIELD)
  z_all : mg "all" = none
  z_bool : mg "bool" = none
  z_int : mg "int" = none
  z_isinstance : mg "isinstance" = none
  z_len : mg "len" = none
  z_ord : mg "ord" = none
  z_range : mg "range" = none
  z_str : mg "str" = none
abbrev sx_InvalidDocument : Stmt := inClass (top 2) 0
/-- the error with a field: its class, its __init__, and what an except suite asks of it -/
structure Ts (K : PySem.W.Frag) (P : Program) (mg : Str → Option Value) where
  C : Addr
  fI : Addr
  cda : Addr
  cc : Addr
  kV : Value
  doc : Value
  pm : Value
  ct : Value
  an : Option Addr
  S : SupC K P mg C cc cda fI (PySem.W.ksFn "__init__" "InvalidDocument.__init__" (defArgs sx_InvalidDocument) (defBody sx_InvalidDocument) (defScope sx_InvalidDocument) .none kV doc pm an (.ref cda) ct cc)
  hcd : PySem.W.codeIn K (.ref cda) "InvalidDocument.__init__" = true
  hno : PySem.W.findIn K (.ref C) "place" = some none
  fx : ExcF K mg "InvalidDocument" C fI
  bi : Binds K (PySem.W.ksFn "__init__" "InvalidDocument.__init__" (defArgs sx_InvalidDocument) (defBody sx_InvalidDocument) (defScope sx_InvalidDocument) .none kV doc pm an (.ref cda) ct cc) ["self", "place"] []
  ex : PySem.W.exmOne K (.ref C) (.ref C) = some true
  ec : ExcC K C
  xf : XfC K C
  E : Addr
  mE : mg "SeamError" = some (.ref E)
  kE : PySem.W.kitOne K (.ref C) (.ref E) = some true
variable {P : Program} {w : World} {K : PySem.W.Frag} {mg : Str → Option Value} {base : Heap}
theorem ok_sup (U : Ts K P mg) : FnOk P w K mg base CX0 1 U.fI (PySem.W.ksFn "__init__" "InvalidDocument.__init__" (defArgs sx_InvalidDocument) (defBody sx_InvalidDocument) (defScope sx_InvalidDocument) .none U.kV U.doc U.pm U.an (.ref U.cda) U.ct U.cc) ["self", "place"] (spSup U.C "place" (goodF "the document does not fit at place ")) := by
  refine fn_sup' (st := sx_InvalidDocument) (fld := "place") (sf := "self") (par := "place") (hst := rfl) (S := U.S) (hcd := U.hcd) (hp := rfl) (har := rfl) (hne := by decide) (hks := by decide +kernel) (hkc := by decide +kernel) (hka := by decide +kernel) (hkp := by decide +kernel) (hk := rfl) (hcell := by decide +kernel) (hfree := by decide +kernel) (hco := rfl) (hgen := rfl) (hno := U.hno) (hE := ?_) (hev := fun _ => rfl) (he := ?_) (hi := ?_) (hs1 := ?_) (hs2 := ?_) (hd1 := by decide) (hd2 := by decide) (hc1 := by decide) (hc2 := by decide)
  · intro A outer s H E
    refine ⟨_, pa_cons (pe_joined (.cons pe_str (.cons (pe_fmt (pe_var (i := 1) rfl (.inl rfl) (by decide) (by decide))) .nil))) pa_nil rfl, fun x v H hg => ?_⟩
    obtain ⟨i, rfl, h1, h2⟩ := hg
    refine ⟨_, rfl, by decide, _, rfl, .inr ⟨i, rfl, h1, _, rfl, ?_, rfl, rfl⟩⟩
    exact Nat.le_trans h2 (by decide)
  all_goals exact fun _ => rfl
theorem db_is_name (T : Tx K mg) (U : Ts K P mg) {cdv : Value} {A : Around} {outer : List Env} {s : Shared} {H : Hp} {E : XK} {k : Cc} (hr : Room (0) (A.deeper (envOfC "is_name" (defScope s_is_name) s.heap.objs.size T.a_is_name cdv))) :
    DB (cxOf CX0 P w K mg base ["text"] "is_name" (defScope s_is_name) T.a_is_name cdv A outer s H E).nox k (defBody s_is_name) (W_is_name) :=
  (db_cons (ds_if (dt_not (dt_val (de_m0 PySem.F.slot_str_isascii PySem.F.type_str_isascii mt_isascii om_bl (de_var (i := 0))))) (db_one (ds_ret de_bl)) db_nil)
  (db_cons (ds_if (dt_not (dt_chain op_le o2_le op_le o2_le de_int (de_len T.z_len (da_cons (de_var (i := 0)) da_nil)) (de_glob (v := (.int (30))) (d := (.int (30))) T.c_LONGEST_NAME ⟨_, rfl⟩ (fun _ => .int _)))) (db_one (ds_ret de_bl)) db_nil)
  (db_one (ds_ret (de_nameEnd (i := 0))))))
theorem ok_is_name (T : Tx K mg) (U : Ts K P mg) : FnOk P w K mg base CX0 1 T.a_is_name T.d_is_name ["text"] (spD K mg sp_is_name) :=
  fn_d T.F_is_name sc_is_name (fun _ _ _ h => len_is_name h) (by decide) W_is_name (fun _ _ _ _ _ _ _ hr _ => db_is_name T U hr) hw_is_name
theorem db_is_plain (T : Tx K mg) (U : Ts K P mg) {cdv : Value} {A : Around} {outer : List Env} {s : Shared} {H : Hp} {E : XK} {k : Cc} (hr : Room (0) (A.deeper (envOfC "_is_plain" (defScope s_is_plain) s.heap.objs.size T.a_is_plain cdv))) :
    DB (cxOf CX0 P w K mg base ["code"] "_is_plain" (defScope s_is_plain) T.a_is_plain cdv A outer s H E).nox k (defBody s_is_plain) (W_is_plain) :=
  (db_one (ds_ret (de_and (de_chain op_le o2_le op_le o2_le (de_glob (v := (.int (32))) (d := (.int (32))) T.c_FIRST_CODE ⟨_, rfl⟩ (fun _ => .int _)) (de_var (i := 0)) (de_glob (v := (.int (126))) (d := (.int (126))) T.c_LAST_CODE ⟨_, rfl⟩ (fun _ => .int _))) (de_one (de_cmp (op_ne_d hr.units) o2_ne (de_var (i := 0)) (de_glob (v := (.int (37))) (d := (.int (37))) T.c_EXCEPTED_CODE ⟨_, rfl⟩ (fun _ => .int _)))))))
theorem ok_is_plain (T : Tx K mg) (U : Ts K P mg) : FnOk P w K mg base CX0 1 T.a_is_plain T.d_is_plain ["code"] (spD K mg sp_is_plain) :=
  fn_d T.F_is_plain sc_is_plain (fun _ _ _ h => len_is_plain h) (by decide) W_is_plain (fun _ _ _ _ _ _ _ hr _ => db_is_plain T U hr) hw_is_plain
theorem db_fits (T : Tx K mg) (U : Ts K P mg) {cdv : Value} {A : Around} {outer : List Env} {s : Shared} {H : Hp} {E : XK} {k : Cc} (hr : Room (1) (A.deeper (envOfC "fits" (defScope s_fits) s.heap.objs.size T.a_fits cdv))) :
    DB (cxOf CX0 P w K mg base ["scalar", "value", "sign"] "fits" (defScope s_fits) T.a_fits cdv A outer s H E).nox k (defBody s_fits) (W_fits) :=
  (db_cons (ds_if (dt_val (de_isi T.z_isinstance (da_cons (de_var (i := 1)) (da_cons (de_tyN T.z_bool PyProof.Rows.boot_bool) da_nil)))) (db_one (ds_ret (de_cmp (op_eq_d hr.units) o2_eq (de_var (i := 0)) de_str))) db_nil)
  (db_cons (ds_if (dt_val (de_isi T.z_isinstance (da_cons (de_var (i := 1)) (da_cons (de_tyN T.z_int PyProof.Rows.boot_int) da_nil)))) (db_one (ds_ret (de_and (de_cmp (op_eq_d hr.units) o2_eq (de_var (i := 0)) de_str) (de_one (de_chain op_le o2_le op_le o2_le (de_glob (v := (.int (-2147483648))) (d := (.int (-2147483648))) T.c_LEAST_INT ⟨_, rfl⟩ (fun _ => .int _)) (de_var (i := 1)) (de_glob (v := (.int (2147483647))) (d := (.int (2147483647))) T.c_GREATEST_INT ⟨_, rfl⟩ (fun _ => .int _))))))) db_nil)
  (db_cons (ds_if (dt_val (de_isi T.z_isinstance (da_cons (de_var (i := 1)) (da_cons (de_tyN T.z_str PyProof.Rows.boot_str) da_nil)))) (db_one (ds_ret (de_and (de_cmp (op_eq_d hr.units) o2_eq (de_var (i := 0)) de_str) (de_one (de_all T.z_all (da_cons (de_lc (own := [("sign", 2)]) sc_fits.nd (di_str (de_var (i := 1))) (blkOk_by (N := ["scalar", "value", "sign"]) (sc := defScope s_fits) (by decide +kernel)) (fun _ _ _ _ _ => (dg_name (i := 2) sc_fits.nd)) (fun _ _ _ _ _ => dts_nil) (fun _ _ _ _ _ => (de_call0 (ok_is_plain T U) (hr.mono (by decide)) T.m_is_plain T.F_is_plain.kp T.b_is_plain (da_cons (de_ord T.z_ord (da_cons (de_var (i := 2)) da_nil)) da_nil)))) da_nil)))))) db_nil)
  (db_one (ds_ret de_bl)))))
theorem ok_fits (T : Tx K mg) (U : Ts K P mg) : FnOk P w K mg base CX0 2 T.a_fits T.d_fits ["scalar", "value"] (spD K mg sp_fits) :=
  fn_d T.F_fits sc_fits (fun _ _ _ h => len_fits h) (by decide) W_fits (fun _ _ _ _ _ _ _ hr _ => db_fits T U hr) hw_fits
theorem db_may_follow (T : Tx K mg) (U : Ts K P mg) {cdv : Value} {A : Around} {outer : List Env} {s : Shared} {H : Hp} {E : XK} {k : Cc} (hr : Room (0) (A.deeper (envOfC "_may_follow" (defScope s_may_follow) s.heap.objs.size T.a_may_follow cdv))) :
    DB (cxOf CX0 P w K mg base ["sign"] "_may_follow" (defScope s_may_follow) T.a_may_follow cdv A outer s H E).nox k (defBody s_may_follow) (W_may_follow) :=
  (db_one (ds_ret (de_or (de_cmp (op_eq_d hr.units) o2_eq (de_var (i := 0)) de_str) (de_one (de_and (de_m0 PySem.F.slot_str_isascii PySem.F.type_str_isascii mt_isascii om_bl (de_var (i := 0))) (de_one (de_m0 PySem.F.slot_str_isalnum PySem.F.type_str_isalnum mt_isalnum om_bl (de_var (i := 0)))))))))
theorem ok_may_follow (T : Tx K mg) (U : Ts K P mg) : FnOk P w K mg base CX0 1 T.a_may_follow T.d_may_follow ["sign"] (spD K mg sp_may_follow) :=
  fn_d T.F_may_follow sc_may_follow (fun _ _ _ h => len_may_follow h) (by decide) W_may_follow (fun _ _ _ _ _ _ _ hr _ => db_may_follow T U hr) hw_may_follow
theorem db_is_digit (T : Tx K mg) (U : Ts K P mg) {cdv : Value} {A : Around} {outer : List Env} {s : Shared} {H : Hp} {E : XK} {k : Cc} (hr : Room (0) (A.deeper (envOfC "_is_digit" (defScope s_is_digit) s.heap.objs.size T.a_is_digit cdv))) :
    DB (cxOf CX0 P w K mg base ["sign"] "_is_digit" (defScope s_is_digit) T.a_is_digit cdv A outer s H E).nox k (defBody s_is_digit) (W_is_digit) :=
  (db_one (ds_ret (de_and (de_m0 PySem.F.slot_str_isascii PySem.F.type_str_isascii mt_isascii om_bl (de_var (i := 0))) (de_one (de_m0 PySem.F.slot_str_isdigit PySem.F.type_str_isdigit mt_isdigit om_bl (de_var (i := 0)))))))
theorem ok_is_digit (T : Tx K mg) (U : Ts K P mg) : FnOk P w K mg base CX0 1 T.a_is_digit T.d_is_digit ["sign"] (spD K mg sp_is_digit) :=
  fn_d T.F_is_digit sc_is_digit (fun _ _ _ h => len_is_digit h) (by decide) W_is_digit (fun _ _ _ _ _ _ _ hr _ => db_is_digit T U hr) hw_is_digit
theorem db_end_of_name (T : Tx K mg) (U : Ts K P mg) {cdv : Value} {A : Around} {outer : List Env} {s : Shared} {H : Hp} {E : XK} {k : Cc} (hr : Room (1) (A.deeper (envOfC "_end_of_name" (defScope s_end_of_name) s.heap.objs.size T.a_end_of_name cdv))) :
    DB (cxOf CX0 P w K mg base ["text", "place", "end"] "_end_of_name" (defScope s_end_of_name) T.a_end_of_name cdv A outer s H E).nox k (defBody s_end_of_name) (W_end_of_name) :=
  (db_cons (ds_set (i := 2) sc_end_of_name.nd (de_var (i := 1)))
  (db_cons (ds_while PassesOwn.never (dt_w (dw_and (dt_cmp op_lt o2_lt (de_var (i := 2)) (de_len T.z_len (da_cons (de_var (i := 0)) da_nil))) (dw_and1 (dt_val (de_call0 (ok_may_follow T U) (hr.mono (by decide)) T.m_may_follow T.F_may_follow.kp T.b_may_follow (da_cons (de_sub1 (de_var (i := 0)) (de_var (i := 2))) da_nil))))))
  (db_one (ds_aug (i := 2) sc_end_of_name.nd de_int)))
  (db_one (ds_ret (de_var (i := 2))))))
theorem ok_end_of_name (T : Tx K mg) (U : Ts K P mg) : FnOk P w K mg base CX0 2 T.a_end_of_name T.d_end_of_name ["text", "place"] (spD K mg sp_end_of_name) :=
  fn_d T.F_end_of_name sc_end_of_name (fun _ _ _ h => len_end_of_name h) (by decide) W_end_of_name (fun _ _ _ _ _ _ _ hr _ => db_end_of_name T U hr) hw_end_of_name
theorem db_read_name (T : Tx K mg) (U : Ts K P mg) {cdv : Value} {A : Around} {outer : List Env} {s : Shared} {H : Hp} {k : Cc} (hr : Room (3) (A.deeper (envOfC "_read_name" (defScope s_read_name) s.heap.objs.size T.a_read_name cdv))) :
    DB (cxOf (L2N.CX P w) P w K mg base ["text", "place", "end", "word"] "_read_name" (defScope s_read_name) T.a_read_name cdv A outer s H k.xk) k (defBody s_read_name) (W_read_name k.xd) :=
  (db_cons (ds_set (i := 2) sc_read_name.nd (de_call0 (ok_end_of_name T U) (hr.mono (by decide)) T.m_end_of_name T.F_end_of_name.kp T.b_end_of_name (da_cons (de_var (i := 0)) (da_cons (de_var (i := 1)) da_nil))))
  (db_cons (ds_set (i := 3) sc_read_name.nd (de_slc (de_var (i := 0)) (do_some (de_var (i := 1))) (do_some (de_var (i := 2)))))
  (db_cons (ds_if (dt_w (dw_and (dt_cmp (op_ne_d hr.units) o2_ne (de_var (i := 3)) (de_glob (v := (.str "_type")) (d := (.str "_type")) T.c_TYPE_FIELD ⟨_, rfl⟩ (fun _ => .str _))) (dw_and1 (dt_not (dt_val (de_call0 (ok_is_name T U) (hr.mono (by decide)) T.m_is_name T.F_is_name.kp T.b_is_name (da_cons (de_var (i := 3)) da_nil))))))) (db_one (ds_raiseFN U.fx (ok_sup U) (hr.mono (by decide)) U.bi (L2N.takes_of rfl rfl rfl rfl) (de_var (i := 1)))) db_nil)
  (db_one (ds_ret (de_tup (da_cons de_str (da_cons (de_var (i := 3)) (da_cons (de_var (i := 2)) da_nil)))))))))
theorem ok_read_name (T : Tx K mg) (U : Ts K P mg) : FnOk P w K mg base (L2N.CX P w) 4 T.a_read_name T.d_read_name ["text", "place"] (spD K mg sp_read_name) :=
  fn_dxN T.F_read_name sc_read_name (fun _ _ _ h => len_read_name h) (by decide) (fun xd => W_read_name xd) (fun _ _ _ _ _ _ hr => db_read_name T U hr) hw_read_name
theorem db_read_number (T : Tx K mg) (U : Ts K P mg) {cdv : Value} {A : Around} {outer : List Env} {s : Shared} {H : Hp} {k : Cc} (hr : Room (3) (A.deeper (envOfC "_read_number" (defScope s_read_number) s.heap.objs.size T.a_read_number cdv))) :
    DB (cxOf (L2N.CX P w) P w K mg base ["text", "place", "start", "end"] "_read_number" (defScope s_read_number) T.a_read_number cdv A outer s H k.xk) k (defBody s_read_number) (W_read_number k.xd) :=
  (db_cons (ds_set (i := 2) sc_read_number.nd (de_if (dt_cmp (op_eq_d hr.units) o2_eq (de_sub1 (de_var (i := 0)) (de_var (i := 1))) de_str) (de_plus (de_var (i := 1)) de_int) (de_var (i := 1))))
  (db_cons (ds_set (i := 3) sc_read_number.nd (de_var (i := 2)))
  (db_cons (ds_while (passes_of rfl) (dt_w (dw_and (dt_cmp op_lt o2_lt (de_var (i := 3)) (de_len T.z_len (da_cons (de_var (i := 0)) da_nil))) (dw_and1 (dt_val (de_call0 (ok_is_digit T U) (hr.mono (by decide)) T.m_is_digit T.F_is_digit.kp T.b_is_digit (da_cons (de_sub1 (de_var (i := 0)) (de_var (i := 3))) da_nil))))))
  (db_one (ds_aug (i := 3) sc_read_number.nd de_int)))
  (db_cons (ds_if (dt_not (dt_chain op_le o2_le op_le o2_le de_int (de_sub (de_var (i := 3)) (de_var (i := 2))) (de_glob (v := (.int (10))) (d := (.int (10))) T.c_MOST_DIGITS ⟨_, rfl⟩ (fun _ => .int _)))) (db_one (ds_raiseFN U.fx (ok_sup U) (hr.mono (by decide)) U.bi (L2N.takes_of rfl rfl rfl rfl) (de_var (i := 1)))) db_nil)
  (db_one (ds_ret (de_tup (da_cons de_str (da_cons (de_Cints T.z_int (da_cons (de_slc (de_var (i := 0)) (do_some (de_var (i := 1))) (do_some (de_var (i := 3)))) da_nil)) (da_cons (de_var (i := 3)) da_nil))))))))))
theorem ok_read_number (T : Tx K mg) (U : Ts K P mg) : FnOk P w K mg base (L2N.CX P w) 4 T.a_read_number T.d_read_number ["text", "place"] (spD K mg sp_read_number) :=
  fn_dxN T.F_read_number sc_read_number (fun _ _ _ h => len_read_number h) (by decide) (fun xd => W_read_number xd) (fun _ _ _ _ _ _ hr => db_read_number T U hr) hw_read_number
theorem db_read_variable (T : Tx K mg) (U : Ts K P mg) {cdv : Value} {A : Around} {outer : List Env} {s : Shared} {H : Hp} {k : Cc} (hr : Room (3) (A.deeper (envOfC "_read_variable" (defScope s_read_variable) s.heap.objs.size T.a_read_variable cdv))) :
    DB (cxOf (L2N.CX P w) P w K mg base ["text", "place", "end", "word"] "_read_variable" (defScope s_read_variable) T.a_read_variable cdv A outer s H k.xk) k (defBody s_read_variable) (W_read_variable k.xd) :=
  (db_cons (ds_set (i := 2) sc_read_variable.nd (de_call0 (ok_end_of_name T U) (hr.mono (by decide)) T.m_end_of_name T.F_end_of_name.kp T.b_end_of_name (da_cons (de_var (i := 0)) (da_cons (de_plus (de_var (i := 1)) de_int) da_nil))))
  (db_cons (ds_set (i := 3) sc_read_variable.nd (de_slc (de_var (i := 0)) (do_some (de_plus (de_var (i := 1)) de_int)) (do_some (de_var (i := 2)))))
  (db_cons (ds_if (dt_not (dt_val (de_call0 (ok_is_name T U) (hr.mono (by decide)) T.m_is_name T.F_is_name.kp T.b_is_name (da_cons (de_var (i := 3)) da_nil)))) (db_one (ds_raiseFN U.fx (ok_sup U) (hr.mono (by decide)) U.bi (L2N.takes_of rfl rfl rfl rfl) (de_var (i := 1)))) db_nil)
  (db_one (ds_ret (de_tup (da_cons de_str (da_cons (de_var (i := 3)) (da_cons (de_var (i := 2)) da_nil)))))))))
theorem ok_read_variable (T : Tx K mg) (U : Ts K P mg) : FnOk P w K mg base (L2N.CX P w) 4 T.a_read_variable T.d_read_variable ["text", "place"] (spD K mg sp_read_variable) :=
  fn_dxN T.F_read_variable sc_read_variable (fun _ _ _ h => len_read_variable h) (by decide) (fun xd => W_read_variable xd) (fun _ _ _ _ _ _ hr => db_read_variable T U hr) hw_read_variable
theorem db_read_text (T : Tx K mg) (U : Ts K P mg) {cdv : Value} {A : Around} {outer : List Env} {s : Shared} {H : Hp} {k : Cc} (hr : Room (3) (A.deeper (envOfC "_read_text" (defScope s_read_text) s.heap.objs.size T.a_read_text cdv))) :
    DB (cxOf (L2N.CX P w) P w K mg base ["text", "place", "end", "word"] "_read_text" (defScope s_read_text) T.a_read_text cdv A outer s H k.xk) k (defBody s_read_text) (W_read_text k.xd) :=
  (db_cons (ds_set (i := 2) sc_read_text.nd (de_find (de_var (i := 0)) (de_glob (v := (.str "\"")) (d := (.str "\"")) T.c_QUOTE ⟨_, rfl⟩ (fun _ => .str _)) (de_plus (de_var (i := 1)) de_int)))
  (db_cons (ds_set (i := 3) sc_read_text.nd (de_slc (de_var (i := 0)) (do_some (de_plus (de_var (i := 1)) de_int)) (do_some (de_var (i := 2)))))
  (db_cons (ds_if (dt_w (dw_or (dt_cmp op_lt o2_lt (de_var (i := 2)) de_int) (dw_or1 (dt_not (dt_val (de_call0 (ok_fits T U) (hr.mono (by decide)) T.m_fits T.F_fits.kp T.b_fits (da_cons de_str (da_cons (de_var (i := 3)) da_nil)))))))) (db_one (ds_raiseFN U.fx (ok_sup U) (hr.mono (by decide)) U.bi (L2N.takes_of rfl rfl rfl rfl) (de_var (i := 1)))) db_nil)
  (db_one (ds_ret (de_tup (da_cons de_str (da_cons (de_var (i := 3)) (da_cons (de_plus (de_var (i := 2)) de_int) da_nil)))))))))
theorem ok_read_text (T : Tx K mg) (U : Ts K P mg) : FnOk P w K mg base (L2N.CX P w) 4 T.a_read_text T.d_read_text ["text", "place"] (spD K mg sp_read_text) :=
  fn_dxN T.F_read_text sc_read_text (fun _ _ _ h => len_read_text h) (by decide) (fun xd => W_read_text xd) (fun _ _ _ _ _ _ hr => db_read_text T U hr) hw_read_text
theorem db_read_word (T : Tx K mg) (U : Ts K P mg) {cdv : Value} {A : Around} {outer : List Env} {s : Shared} {H : Hp} {k : Cc} (hr : Room (4) (A.deeper (envOfC "_read_word" (defScope s_read_word) s.heap.objs.size T.a_read_word cdv))) :
    DB (cxOf (L2N.CX P w) P w K mg base ["text", "place", "sign"] "_read_word" (defScope s_read_word) T.a_read_word cdv A outer s H k.xk) k (defBody s_read_word) (W_read_word k.xd) :=
  (db_cons (ds_set (i := 2) sc_read_word.nd (de_sub1 (de_var (i := 0)) (de_var (i := 1))))
  (db_cons (ds_if (dt_cmp op_in_sign o2_inS (de_var (i := 2)) (de_glob (v := (.str "{}():=![]@")) (d := (.str "{}():=![]@")) T.c_SIGNS ⟨_, rfl⟩ (fun _ => .str _)) rfl) (db_one (ds_ret (de_tup (da_cons de_str (da_cons (de_var (i := 2)) (da_cons (de_plus (de_var (i := 1)) de_int) da_nil)))))) db_nil)
  (db_cons (ds_if (dt_val (de_st3 (de_var (i := 0)) (de_glob (v := (.str "...")) (d := (.str "...")) T.c_DOTS ⟨_, rfl⟩ (fun _ => .str _)) (de_var (i := 1)))) (db_one (ds_ret (de_tup (da_cons de_str (da_cons (de_glob (v := (.str "...")) (d := (.str "...")) T.c_DOTS ⟨_, rfl⟩ (fun _ => .str _)) (da_cons (de_plus (de_var (i := 1)) (de_len T.z_len (da_cons (de_glob (v := (.str "...")) (d := (.str "...")) T.c_DOTS ⟨_, rfl⟩ (fun _ => .str _)) da_nil))) da_nil)))))) db_nil)
  (db_cons (ds_if (dt_cmp (op_eq_d hr.units) o2_eq (de_var (i := 2)) (de_glob (v := (.str "\"")) (d := (.str "\"")) T.c_QUOTE ⟨_, rfl⟩ (fun _ => .str _))) (db_one (ds_ret (de_callX (ok_read_text T U) (hr.mono (by decide)) T.m_read_text T.F_read_text.kp T.b_read_text (L2N.passes_call (L2N.takes_of rfl rfl rfl rfl) (fun _ _ _ _ h => h)) (da_cons (de_var (i := 0)) (da_cons (de_var (i := 1)) da_nil))))) db_nil)
  (db_cons (ds_if (dt_cmp (op_eq_d hr.units) o2_eq (de_var (i := 2)) de_str) (db_one (ds_ret (de_callX (ok_read_variable T U) (hr.mono (by decide)) T.m_read_variable T.F_read_variable.kp T.b_read_variable (L2N.passes_call (L2N.takes_of rfl rfl rfl rfl) (fun _ _ _ _ h => h)) (da_cons (de_var (i := 0)) (da_cons (de_var (i := 1)) da_nil))))) db_nil)
  (db_cons (ds_if (dt_w (dw_or (dt_cmp (op_eq_d hr.units) o2_eq (de_var (i := 2)) de_str) (dw_or1 (dt_val (de_call0 (ok_is_digit T U) (hr.mono (by decide)) T.m_is_digit T.F_is_digit.kp T.b_is_digit (da_cons (de_var (i := 2)) da_nil)))))) (db_one (ds_ret (de_callX (ok_read_number T U) (hr.mono (by decide)) T.m_read_number T.F_read_number.kp T.b_read_number (L2N.passes_call (L2N.takes_of rfl rfl rfl rfl) (fun _ _ _ _ h => h)) (da_cons (de_var (i := 0)) (da_cons (de_var (i := 1)) da_nil))))) db_nil)
  (db_one (ds_ret (de_callX (ok_read_name T U) (hr.mono (by decide)) T.m_read_name T.F_read_name.kp T.b_read_name (L2N.passes_call (L2N.takes_of rfl rfl rfl rfl) (fun _ _ _ _ h => h)) (da_cons (de_var (i := 0)) (da_cons (de_var (i := 1)) da_nil)))))))))))
theorem ok_read_word (T : Tx K mg) (U : Ts K P mg) : FnOk P w K mg base (L2N.CX P w) 5 T.a_read_word T.d_read_word ["text", "place"] (spD K mg sp_read_word) :=
  fn_dxN T.F_read_word sc_read_word (fun _ _ _ h => len_read_word h) (by decide) (fun xd => W_read_word xd) (fun _ _ _ _ _ _ hr => db_read_word T U hr) hw_read_word
theorem db_split_words (T : Tx K mg) (U : Ts K P mg) {cdv : Value} {A : Around} {outer : List Env} {s : Shared} {H : Hp} {k : Cc} (hr : Room (5) (A.deeper (envOfC "split_words" (defScope s_split_words) s.heap.objs.size T.a_split_words cdv))) :
    DB (cxOf (L2N.CX P w) P w K mg base ["text", "words", "place", "kind", "word", "end"] "split_words" (defScope s_split_words) T.a_split_words cdv A outer s H k.xk) k (defBody s_split_words) (W_split_words k.xd) :=
  (db_cons (ds_newl (i := 1) sc_split_words.nd)
  (db_cons (ds_set (i := 2) sc_split_words.nd de_int)
  (db_cons (ds_while (passes_of rfl) (dt_cmp op_lt o2_lt (de_var (i := 2)) (de_len T.z_len (da_cons (de_var (i := 0)) da_nil)))
  (db_one (ds_if (dt_cmp op_in_sign o2_inS (de_sub1 (de_var (i := 0)) (de_var (i := 2))) (de_glob (v := (.str " \n,")) (d := (.str " \n,")) T.c_BLANKS ⟨_, rfl⟩ (fun _ => .str _)) rfl) (db_one (ds_aug (i := 2) sc_split_words.nd de_int)) (db_cons (ds_asg (de_callX (ok_read_word T U) (hr.mono (by decide)) T.m_read_word T.F_read_word.kp T.b_read_word (L2N.passes_call (L2N.takes_of rfl rfl rfl rfl) (fun _ _ _ _ h => h)) (da_cons (de_var (i := 0)) (da_cons (de_var (i := 2)) da_nil))) (dg_tup rfl (dgs_cons (dg_name (i := 3) sc_split_words.nd) (dgs_cons (dg_name (i := 4) sc_split_words.nd) (dgs_cons (dg_name (i := 5) sc_split_words.nd) dgs_nil)))))
  (db_cons (ds_app (i := 1) (de_tup (da_cons (de_var (i := 2)) (da_cons (de_var (i := 3)) (da_cons (de_var (i := 4)) da_nil)))))
  (db_one (ds_set (i := 2) sc_split_words.nd (de_var (i := 5)))))))))
  (db_frzL (i := 1) (db_one (ds_ret (de_var (i := 1))))))))
theorem ok_split_words (T : Tx K mg) (U : Ts K P mg) : FnOk P w K mg base (L2N.CX P w) 6 T.a_split_words T.d_split_words ["text"] (spD K mg sp_split_words) :=
  fn_dxN T.F_split_words sc_split_words (fun _ _ _ h => len_split_words h) (by decide) (fun xd => W_split_words xd) (fun _ _ _ _ _ _ hr => db_split_words T U hr) hw_split_words
theorem db_l_is_integer (T : Tx K mg) (U : Ts K P mg) {cdv : Value} {A : Around} {outer : List Env} {s : Shared} {H : Hp} {E : XK} {k : Cc} (hr : Room (0) (A.deeper (envOfC "_law_is_integer" (defScope s_l_is_integer) s.heap.objs.size T.a_l_is_integer cdv))) :
    DB (cxOf CX0 P w K mg base ["actual"] "_law_is_integer" (defScope s_l_is_integer) T.a_l_is_integer cdv A outer s H E).nox k (defBody s_l_is_integer) (W_l_is_integer) :=
  (db_one (ds_ret (de_and (de_isi T.z_isinstance (da_cons (de_var (i := 0)) (da_cons (de_tyN T.z_int PyProof.Rows.boot_int) da_nil))) (de_one (de_not (de_isi T.z_isinstance (da_cons (de_var (i := 0)) (da_cons (de_tyN T.z_bool PyProof.Rows.boot_bool) da_nil))))))))
theorem ok_l_is_integer (T : Tx K mg) (U : Ts K P mg) : FnOk P w K mg base CX0 1 T.a_l_is_integer T.d_l_is_integer ["actual"] (spD K mg sp_l_is_integer) :=
  fn_d T.F_l_is_integer sc_l_is_integer (fun _ _ _ h => len_l_is_integer h) (by decide) W_l_is_integer (fun _ _ _ _ _ _ _ hr _ => db_l_is_integer T U hr) hw_l_is_integer
theorem db_l_refill (T : Tx K mg) (U : Ts K P mg) {cdv : Value} {A : Around} {outer : List Env} {s : Shared} {H : Hp} {E : XK} {k : Cc} (hr : Room (0) (A.deeper (envOfC "_law_refill" (defScope s_l_refill) s.heap.objs.size T.a_l_refill cdv))) :
    DB (cxOf CX0 P w K mg base ["script", "k", "cell"] "_law_refill" (defScope s_l_refill) T.a_l_refill cdv A outer s H E).nox k (defBody s_l_refill) (W_l_refill) :=
  (db_cons (ds_set (i := 2) sc_l_refill.nd de_int)
  (db_cons (ds_if (dt_truth (de_var (i := 0))) (db_one (ds_set (i := 2) sc_l_refill.nd (de_sub1 (de_var (i := 0)) (de_mod (de_var (i := 1)) (de_len T.z_len (da_cons (de_var (i := 0)) da_nil)))))) db_nil)
  (db_cons (ds_if (dt_cmp op_lt o2_lt (de_var (i := 2)) de_int) (db_one (ds_set (i := 2) sc_l_refill.nd (de_sub de_int (de_mul de_int (de_var (i := 2)))))) db_nil)
  (db_cons (ds_if (dt_w (dw_and (dt_cmp op_ge o2_ge (de_var (i := 2)) (de_pow de_int de_int)) (dw_and1 (dt_cmp op_lt o2_lt (de_var (i := 1)) (de_len T.z_len (da_cons (de_var (i := 0)) da_nil)))))) (db_one (ds_ret (de_var (i := 2)))) db_nil)
  (db_one (ds_ret (de_mod (de_Cint T.z_int (da_cons (de_plus (de_mul (de_Cint T.z_int (da_cons (de_plus (de_plus (de_mul (de_var (i := 2)) de_int) (de_mul (de_var (i := 1)) de_int)) de_int) da_nil)) de_int) de_int) da_nil)) de_int)))))))
theorem ok_l_refill (T : Tx K mg) (U : Ts K P mg) : FnOk P w K mg base CX0 1 T.a_l_refill T.d_l_refill ["script", "k"] (spD K mg sp_l_refill) :=
  fn_d T.F_l_refill sc_l_refill (fun _ _ _ h => len_l_refill h) (by decide) W_l_refill (fun _ _ _ _ _ _ _ hr _ => db_l_refill T U hr) hw_l_refill
theorem db_l_draw (T : Tx K mg) (U : Ts K P mg) {cdv : Value} {A : Around} {outer : List Env} {s : Shared} {H : Hp} {E : XK} {k : Cc} (hr : Room (1) (A.deeper (envOfC "_law_draw" (defScope s_l_draw) s.heap.objs.size T.a_l_draw cdv))) :
    DB (cxOf CX0 P w K mg base ["state", "script", "size", "digit"] "_law_draw" (defScope s_l_draw) T.a_l_draw cdv A outer s H E).nox k (defBody s_l_draw) (W_l_draw) :=
  (db_cons (ds_if (dt_cmp (op_eq_d hr.units) o2_eq (de_sub1 (de_var (i := 0)) de_int) de_int) (db_cons (ds_stw (de_call0 (ok_l_refill T U) (hr.mono (by decide)) T.m_l_refill T.F_l_refill.kp T.b_l_refill (da_cons (de_var (i := 1)) (da_cons (de_sub1 (de_var (i := 0)) de_int) da_nil))) (de_var (i := 0)) de_int)
  (db_one (ds_stw (de_plus (de_sub1 (de_var (i := 0)) de_int) de_int) (de_var (i := 0)) de_int))) db_nil)
  (db_cons (ds_set (i := 3) sc_l_draw.nd (de_mod (de_Cint T.z_int (da_cons (de_sub1 (de_var (i := 0)) de_int) da_nil)) (de_var (i := 2))))
  (db_cons (ds_stw (de_fdiv (de_sub1 (de_var (i := 0)) de_int) (de_var (i := 2))) (de_var (i := 0)) de_int)
  (db_one (ds_ret (de_var (i := 3)))))))
theorem ok_l_draw (T : Tx K mg) (U : Ts K P mg) : FnOk P w K mg base CX0 2 T.a_l_draw T.d_l_draw ["state", "script", "size"] (spD K mg sp_l_draw) :=
  fn_d T.F_l_draw sc_l_draw (fun _ _ _ h => len_l_draw h) (by decide) W_l_draw (fun _ _ _ _ _ _ _ hr _ => db_l_draw T U hr) hw_l_draw
theorem db_l_run (T : Tx K mg) (U : Ts K P mg) {cdv : Value} {A : Around} {outer : List Env} {s : Shared} {H : Hp} {E : XK} {k : Cc} (hr : Room (0) (A.deeper (envOfC "_law_run" (defScope s_l_run) s.heap.objs.size T.a_l_run cdv))) :
    DB (cxOf CX0 P w K mg base ["text", "at", "signs", "end", "k"] "_law_run" (defScope s_l_run) T.a_l_run cdv A outer s H E).nox k (defBody s_l_run) (W_l_run) :=
  (db_cons (ds_set (i := 3) sc_l_run.nd (de_var (i := 1)))
  (db_cons (ds_for PassesOwn.never (di_range2 (de_var (i := 1)) (de_len T.z_len (da_cons (de_var (i := 0)) da_nil)) rfl T.z_range) (dg_name (i := 4) sc_l_run.nd)
  (db_one (ds_if (dt_w (dw_and (dt_cmp (op_eq_d hr.units) o2_eq (de_var (i := 3)) (de_var (i := 4))) (dw_and1 (dt_cmp op_in_sign o2_inS (de_sub1 (de_var (i := 0)) (de_var (i := 4))) (de_var (i := 2)) rfl)))) (db_one (ds_set (i := 3) sc_l_run.nd (de_plus (de_var (i := 4)) de_int))) db_nil)))
  (db_one (ds_ret (de_var (i := 3))))))
theorem ok_l_run (T : Tx K mg) (U : Ts K P mg) : FnOk P w K mg base CX0 1 T.a_l_run T.d_l_run ["text", "at", "signs"] (spD K mg sp_l_run) :=
  fn_d T.F_l_run sc_l_run (fun _ _ _ h => len_l_run h) (by decide) W_l_run (fun _ _ _ _ _ _ _ hr _ => db_l_run T U hr) hw_l_run
theorem db_l_named (T : Tx K mg) (U : Ts K P mg) {cdv : Value} {A : Around} {outer : List Env} {s : Shared} {H : Hp} {E : XK} {k : Cc} (hr : Room (1) (A.deeper (envOfC "_law_named" (defScope s_l_named) s.heap.objs.size T.a_l_named cdv))) :
    DB (cxOf CX0 P w K mg base ["text", "at", "place", "letters", "end", "name"] "_law_named" (defScope s_l_named) T.a_l_named cdv A outer s H E).nox k (defBody s_l_named) (W_l_named) :=
  (db_cons (ds_set (i := 3) sc_l_named.nd de_str)
  (db_cons (ds_set (i := 4) sc_l_named.nd (de_call0 (ok_l_run T U) (hr.mono (by decide)) T.m_l_run T.F_l_run.kp T.b_l_run (da_cons (de_var (i := 0)) (da_cons (de_var (i := 1)) (da_cons (de_plus (de_var (i := 3)) de_str) da_nil)))))
  (db_cons (ds_set (i := 5) sc_l_named.nd (de_slc (de_var (i := 0)) (do_some (de_var (i := 1))) (do_some (de_var (i := 4)))))
  (db_cons (ds_if (dt_w (dw_and (dt_cmp (op_ne_d hr.units) o2_ne (de_var (i := 5)) de_str) (dw_and1 (dt_w (dw_or (dt_cmp (op_eq_d hr.units) o2_eq (de_var (i := 5)) de_str) (dw_or (dt_cmp op_notIn_sign o2_notInS (de_sub1 (de_var (i := 5)) de_int) (de_var (i := 3)) rfl) (dw_or1 (dt_cmp op_gt o2_gt (de_len T.z_len (da_cons (de_var (i := 5)) da_nil)) de_int)))))))) (db_one (ds_ret (de_tup (da_cons de_str (da_cons (de_var (i := 2)) da_nil))))) db_nil)
  (db_one (ds_ret (de_tup (da_cons de_str (da_cons (de_var (i := 5)) (da_cons (de_var (i := 4)) da_nil))))))))))
theorem ok_l_named (T : Tx K mg) (U : Ts K P mg) : FnOk P w K mg base CX0 2 T.a_l_named T.d_l_named ["text", "at", "place"] (spD K mg sp_l_named) :=
  fn_d T.F_l_named sc_l_named (fun _ _ _ h => len_l_named h) (by decide) W_l_named (fun _ _ _ _ _ _ _ hr _ => db_l_named T U hr) hw_l_named
theorem db_l_word_at (T : Tx K mg) (U : Ts K P mg) {cdv : Value} {A : Around} {outer : List Env} {s : Shared} {H : Hp} {E : XK} {k : Cc} (hr : Room (2) (A.deeper (envOfC "_law_word_at" (defScope s_l_word_at) s.heap.objs.size T.a_l_word_at cdv))) :
    DB (cxOf CX0 P w K mg base ["text", "at", "sign", "end", "begin", "number", "found"] "_law_word_at" (defScope s_l_word_at) T.a_l_word_at cdv A outer s H E).nox k (defBody s_l_word_at) (W_l_word_at) :=
  (db_cons (ds_set (i := 2) sc_l_word_at.nd (de_sub1 (de_var (i := 0)) (de_var (i := 1))))
  (db_cons (ds_if (dt_cmp op_in_sign o2_inS (de_var (i := 2)) de_str rfl) (db_one (ds_ret (de_tup (da_cons de_str (da_cons (de_tup (da_cons de_str (da_cons (de_var (i := 2)) da_nil))) (da_cons (de_plus (de_var (i := 1)) de_int) da_nil)))))) db_nil)
  (db_cons (ds_if (dt_cmp (op_eq_d hr.units) o2_eq (de_slc (de_var (i := 0)) (do_some (de_var (i := 1))) (do_some (de_plus (de_var (i := 1)) de_int))) de_str) (db_one (ds_ret (de_tup (da_cons de_str (da_cons (de_tup (da_cons de_str (da_cons de_str da_nil))) (da_cons (de_plus (de_var (i := 1)) de_int) da_nil)))))) db_nil)
  (db_cons (ds_if (dt_cmp (op_eq_d hr.units) o2_eq (de_var (i := 2)) de_str) (db_cons (ds_set (i := 3) sc_l_word_at.nd (de_find (de_var (i := 0)) de_str (de_plus (de_var (i := 1)) de_int)))
  (db_cons (ds_if (dt_w (dw_or (dt_cmp op_lt o2_lt (de_var (i := 3)) de_int) (dw_or1 (dt_cmp op_in_sign o2_inS de_str (de_slc (de_var (i := 0)) (do_some (de_var (i := 1))) (do_some (de_var (i := 3)))) rfl)))) (db_one (ds_ret (de_tup (da_cons de_str (da_cons (de_var (i := 1)) da_nil))))) db_nil)
  (db_one (ds_ret (de_tup (da_cons de_str (da_cons (de_tup (da_cons de_str (da_cons (de_slc (de_var (i := 0)) (do_some (de_plus (de_var (i := 1)) de_int)) (do_some (de_var (i := 3)))) da_nil))) (da_cons (de_plus (de_var (i := 3)) de_int) da_nil)))))))) db_nil)
  (db_cons (ds_if (dt_cmp op_in_sign o2_inS (de_var (i := 2)) de_str rfl) (db_cons (ds_set (i := 4) sc_l_word_at.nd (de_plus (de_var (i := 1)) (de_Cint T.z_int (da_cons (de_cmp (op_eq_d hr.units) o2_eq (de_var (i := 2)) de_str) da_nil))))
  (db_cons (ds_set (i := 3) sc_l_word_at.nd (de_call0 (ok_l_run T U) (hr.mono (by decide)) T.m_l_run T.F_l_run.kp T.b_l_run (da_cons (de_var (i := 0)) (da_cons (de_var (i := 4)) (da_cons de_str da_nil)))))
  (db_cons (ds_if (dt_w (dw_or (dt_cmp (op_eq_d hr.units) o2_eq (de_var (i := 3)) (de_var (i := 4))) (dw_or1 (dt_cmp op_gt o2_gt (de_var (i := 3)) (de_plus (de_var (i := 4)) de_int))))) (db_one (ds_ret (de_tup (da_cons de_str (da_cons (de_var (i := 1)) da_nil))))) db_nil)
  (db_cons (ds_set (i := 5) sc_l_word_at.nd (de_Cints T.z_int (da_cons (de_slc (de_var (i := 0)) (do_some (de_var (i := 4))) (do_some (de_var (i := 3)))) da_nil)))
  (db_one (ds_ret (de_tup (da_cons de_str (da_cons (de_tup (da_cons de_str (da_cons (de_sub (de_var (i := 5)) (de_mul (de_mul de_int (de_var (i := 5))) (de_Cint T.z_int (da_cons (de_cmp (op_eq_d hr.units) o2_eq (de_var (i := 2)) de_str) da_nil)))) da_nil))) (da_cons (de_var (i := 3)) da_nil)))))))))) db_nil)
  (db_cons (ds_set (i := 4) sc_l_word_at.nd (de_plus (de_var (i := 1)) (de_Cint T.z_int (da_cons (de_cmp (op_eq_d hr.units) o2_eq (de_var (i := 2)) de_str) da_nil))))
  (db_cons (ds_set (i := 6) sc_l_word_at.nd (de_call0 (ok_l_named T U) (hr.mono (by decide)) T.m_l_named T.F_l_named.kp T.b_l_named (da_cons (de_var (i := 0)) (da_cons (de_var (i := 4)) (da_cons (de_var (i := 1)) da_nil)))))
  (db_cons (ds_if (dt_w (dw_or (dt_cmp (op_eq_d hr.units) o2_eq (de_sub1 (de_var (i := 6)) de_int) de_str) (dw_or1 (dt_w (dw_and (dt_cmp (op_eq_d hr.units) o2_eq (de_var (i := 2)) de_str) (dw_and1 (dt_cmp (op_eq_d hr.units) o2_eq (de_sub1 (de_var (i := 6)) de_int) de_str))))))) (db_one (ds_ret (de_tup (da_cons de_str (da_cons (de_var (i := 1)) da_nil))))) db_nil)
  (db_one (ds_ret (de_tup (da_cons de_str (da_cons (de_tup (da_cons (de_sub1 (de_lst (da_cons de_str (da_cons de_str da_nil))) (de_Cint T.z_int (da_cons (de_cmp (op_eq_d hr.units) o2_eq (de_var (i := 2)) de_str) da_nil))) (da_cons (de_sub1 (de_var (i := 6)) de_int) da_nil))) (da_cons (de_sub1 (de_var (i := 6)) de_int) da_nil))))))))))))))
theorem ok_l_word_at (T : Tx K mg) (U : Ts K P mg) : FnOk P w K mg base CX0 3 T.a_l_word_at T.d_l_word_at ["text", "at"] (spD K mg sp_l_word_at) :=
  fn_d T.F_l_word_at sc_l_word_at (fun _ _ _ h => len_l_word_at h) (by decide) W_l_word_at (fun _ _ _ _ _ _ _ hr _ => db_l_word_at T U hr) hw_l_word_at
theorem db_l_split (T : Tx K mg) (U : Ts K P mg) {cdv : Value} {A : Around} {outer : List Env} {s : Shared} {H : Hp} {E : XK} {k : Cc} (hr : Room (3) (A.deeper (envOfC "_law_split" (defScope s_l_split) s.heap.objs.size T.a_l_split cdv))) :
    DB (cxOf CX0 P w K mg base ["text", "words", "at", "k", "found"] "_law_split" (defScope s_l_split) T.a_l_split cdv A outer s H E).nox k (defBody s_l_split) (W_l_split) :=
  (db_cons (ds_newl (i := 1) sc_l_split.nd)
  (db_cons (ds_set (i := 2) sc_l_split.nd (de_call0 (ok_l_run T U) (hr.mono (by decide)) T.m_l_run T.F_l_run.kp T.b_l_run (da_cons (de_var (i := 0)) (da_cons de_int (da_cons de_str da_nil)))))
  (db_cons (ds_for PassesOwn.never (di_range (de_len T.z_len (da_cons (de_var (i := 0)) da_nil)) rfl T.z_range) (dg_name (i := 3) sc_l_split.nd)
  (db_one (ds_if (dt_cmp op_lt o2_lt (de_var (i := 2)) (de_len T.z_len (da_cons (de_var (i := 0)) da_nil))) (db_cons (ds_set (i := 4) sc_l_split.nd (de_call0 (ok_l_word_at T U) (hr.mono (by decide)) T.m_l_word_at T.F_l_word_at.kp T.b_l_word_at (da_cons (de_var (i := 0)) (da_cons (de_var (i := 2)) da_nil))))
  (db_cons (ds_if (dt_cmp (op_eq_d hr.units) o2_eq (de_sub1 (de_var (i := 4)) de_int) de_str) (db_one (ds_ret (de_tup (da_cons de_str (da_cons (de_sub1 (de_var (i := 4)) de_int) da_nil))))) db_nil)
  (db_cons (ds_app (i := 1) (de_plus (de_tup (da_cons (de_var (i := 2)) da_nil)) (de_sub1 (de_var (i := 4)) de_int)))
  (db_one (ds_set (i := 2) sc_l_split.nd (de_call0 (ok_l_run T U) (hr.mono (by decide)) T.m_l_run T.F_l_run.kp T.b_l_run (da_cons (de_var (i := 0)) (da_cons (de_sub1 (de_var (i := 4)) de_int) (da_cons de_str da_nil))))))))) db_nil)))
  (db_frzL (i := 1) (db_one (ds_ret (de_tup (da_cons de_str (da_cons (de_var (i := 1)) da_nil)))))))))
theorem ok_l_split (T : Tx K mg) (U : Ts K P mg) : FnOk P w K mg base CX0 4 T.a_l_split T.d_l_split ["text"] (spD K mg sp_l_split) :=
  fn_d T.F_l_split sc_l_split (fun _ _ _ h => len_l_split h) (by decide) W_l_split (fun _ _ _ _ _ _ _ hr _ => db_l_split T U hr) hw_l_split
theorem okH_l_is_integer (T : Tx K mg) : L2H.FnH P w K mg base CX0 1 T.a_l_is_integer T.d_l_is_integer ["actual"] (spD K mg sp_l_is_integer) :=
  fn_dH T.F_l_is_integer sc_l_is_integer (fun _ _ _ h => len_l_is_integer h) (by decide) W_l_is_integer (fun _ _ _ _ _ _ _ _ _ hr => db_one (ds_ret (de_and (de_isi T.z_isinstance (da_cons (de_var (i := 0)) (da_cons (de_tyN T.z_int PyProof.Rows.boot_int) da_nil))) (de_one (de_not (de_isi T.z_isinstance (da_cons (de_var (i := 0)) (da_cons (de_tyN T.z_bool PyProof.Rows.boot_bool) da_nil)))))))) hw_l_is_integer
def W_l_told : WS := wTry "InvalidDocument" 1 (wXRet (wXTup2 (wC (.str "words")) (wXCall sp_split_words (wCons (wVar 0) wNil)))) (fun a od => wSeq (wIf (wOrT (wNotT (wB (wCall0 sp_l_is_integer (wCons (wXf 1 a od "place") wNil)))) (wNotT (wB (wIsF 1 a od)))) (wRet (wTup (wCons (wC (.str "other")) wNil))) wNext) (wRet (wTup (wCons (wC (.str "fault")) (wCons (wXf 1 a od "place") wNil)))))
theorem ok_l_told (T : Tx K mg) (U : Ts K P mg) : FnOk P w K mg base CX0 8 T.a_l_told T.d_l_told ["text"] (spD K mg sp_l_told) := by
  refine fn_d T.F_l_told sc_l_told (fun _ _ _ ⟨t, e, _⟩ => by rw [e]; rfl) (by decide) W_l_told (fun cdv A outer s H E k hr _ => ?_) fun ds Q E ⟨t, e, hl, h⟩ => ?_
  · refine db_one (ds_tryN (i := 1) (x := "InvalidDocument") (n := "e") sc_l_told.nd U.fx.g U.ex (fun pn xe => dxbn_ret (dxen_tup2 de_str (dxen_call (ok_split_words T U) (hr.mono (by decide)) T.m_split_words T.F_split_words.kp T.b_split_words (da_cons (de_var (i := 0)) da_nil)))) (fun a od oe pn hz hv => ?_))
    exact db_cons (ds_if (dt_w (dw_or (dt_not (dt_val (de_callH (okH_l_is_integer T) ⟨(Room.mono (j := 1) hr (by decide)).dp, (Room.mono (j := 1) hr (by decide)).un⟩ (hot_suite hz hv) T.m_l_is_integer T.F_l_is_integer.kp T.b_l_is_integer (da_cons (de_xf (i := 1) U.xf U.hno hz.zc hv) da_nil)))) (dw_or1 (dt_not (dt_val (de_isF (i := 1) U.ec hz.zc hv U.kE (v := .ref U.E) (fun _ e => e) (pe_glob rfl U.mE rfl) T.z_isinstance)))))) (db_one (ds_ret (de_tup (da_cons de_str da_nil)))) db_nil) (db_one (ds_ret (de_tup (da_cons de_str (da_cons (de_xf (i := 1) U.xf U.hno hz.zc hv) da_nil)))))
  · subst e
    refine ⟨t, rfl, hl, ?_⟩
    cases hp : spl 0 (cs t) with
    | inr ws =>
      rw [hp] at h
      exact h
    | inl j =>
      rw [hp] at h
      refine ⟨rfl, fun a od hod => ?_⟩
      cases od with
      | none => cases hod
      | some dd =>
        have e1 : List.lookup ("place" : Str) ([(("place" : Str), D.int (j : Nat))] : List (Str × D)) = some (D.int (j : Nat)) := rfl
        refine ⟨dd, _, _, rfl, rfl, e1, _, rfl, ⟨_, rfl⟩, ?_⟩
        refine ⟨.inr ⟨dd, _, rfl, rfl⟩, ?_⟩
        exact ⟨dd, _, _, rfl, rfl, e1, (by show 2 ≤ 100000; decide), h⟩
theorem db_l_piece (T : Tx K mg) (U : Ts K P mg) {cdv : Value} {A : Around} {outer : List Env} {s : Shared} {H : Hp} {E : XK} {k : Cc} (hr : Room (2) (A.deeper (envOfC "_law_piece" (defScope s_l_piece) s.heap.objs.size T.a_l_piece cdv))) :
    DB (cxOf CX0 P w K mg base ["state", "script", "pieces"] "_law_piece" (defScope s_l_piece) T.a_l_piece cdv A outer s H E).nox k (defBody s_l_piece) (W_l_piece) :=
  (db_cons (ds_set (i := 2) sc_l_piece.nd (de_lst (da_cons de_str (da_cons de_str (da_cons de_str (da_cons de_str (da_cons de_str (da_cons de_str (da_cons de_str (da_cons de_str (da_cons de_str (da_cons de_str (da_cons de_str (da_cons de_str (da_cons de_str (da_cons de_str (da_cons de_str (da_cons de_str (da_cons de_str (da_cons de_str (da_cons de_str (da_cons de_str (da_cons de_str (da_cons de_str (da_cons de_str (da_cons de_str (da_cons de_str (da_cons de_str (da_cons de_str (da_cons de_str (da_cons de_str (da_cons de_str (da_cons de_str (da_cons de_str (da_cons de_str (da_cons de_str (da_cons de_str (da_cons de_str (da_cons (de_rep de_str de_int) (da_cons (de_rep de_str de_int) (da_cons de_str (da_cons de_str (da_cons de_str (da_cons de_str (da_cons de_str (da_cons de_str (da_cons de_str da_nil)))))))))))))))))))))))))))))))))))))))))))))))
  (db_one (ds_ret (de_sub1 (de_var (i := 2)) (de_call0 (ok_l_draw T U) (hr.mono (by decide)) T.m_l_draw T.F_l_draw.kp T.b_l_draw (da_cons (de_var (i := 0)) (da_cons (de_var (i := 1)) (da_cons de_int da_nil))))))))
theorem ok_l_piece (T : Tx K mg) (U : Ts K P mg) : FnOk P w K mg base CX0 3 T.a_l_piece T.d_l_piece ["state", "script"] (spD K mg sp_l_piece) :=
  fn_d T.F_l_piece sc_l_piece (fun _ _ _ h => len_l_piece h) (by decide) W_l_piece (fun _ _ _ _ _ _ _ hr _ => db_l_piece T U hr) hw_l_piece
theorem db_law (T : Tx K mg) (U : Ts K P mg) {cdv : Value} {A : Around} {outer : List Env} {s : Shared} {H : Hp} {E : XK} {k : Cc} (hr : Room (19) (A.deeper (envOfC "law" (defScope s_law) s.heap.objs.size T.a_law cdv))) :
    DB (cxOf CX0 P w K mg base ["script", "state", "text", "k", "told", "place", "kind", "word"] "law" (defScope s_law) T.a_law cdv A outer s H E).nox k ((defBody s_law).drop 1) (W_law) :=
  (db_cons (ds_set (i := 2) sc_law.nd de_str)
  (db_cons (ds_for PassesOwn.never (di_range (de_call0 (ok_l_draw T U) (hr.mono (by decide)) T.m_l_draw T.F_l_draw.kp T.b_l_draw (da_cons (de_var (i := 1)) (da_cons (de_var (i := 0)) (da_cons de_int da_nil)))) rfl T.z_range) (dg_name (i := 3) sc_law.nd)
  (db_one (ds_set (i := 2) sc_law.nd (de_plus (de_plus (de_var (i := 2)) (de_call0 (ok_l_piece T U) (hr.mono (by decide)) T.m_l_piece T.F_l_piece.kp T.b_l_piece (da_cons (de_var (i := 1)) (da_cons (de_var (i := 0)) da_nil)))) (de_sub1 (de_lst (da_cons de_str (da_cons de_str (da_cons de_str (da_cons de_str (da_cons de_str (da_cons de_str da_nil))))))) (de_call0 (ok_l_draw T U) (hr.mono (by decide)) T.m_l_draw T.F_l_draw.kp T.b_l_draw (da_cons (de_var (i := 1)) (da_cons (de_var (i := 0)) (da_cons de_int da_nil)))))))))
  (db_cons (ds_set (i := 4) sc_law.nd (de_call0 (ok_l_told T U) (hr.mono (by decide)) T.m_l_told T.F_l_told.kp T.b_l_told (da_cons (de_var (i := 2)) da_nil)))
  (db_cons (ds_if (dt_cmp (op_ne_d hr.units) o2_ne (de_var (i := 4)) (de_call0 (ok_l_split T U) (hr.mono (by decide)) T.m_l_split T.F_l_split.kp T.b_l_split (da_cons (de_var (i := 2)) da_nil))) (db_one (ds_ret de_bl)) db_nil)
  (db_cons (ds_if (dt_cmp (op_eq_d hr.units) o2_eq (de_sub1 (de_var (i := 4)) de_int) de_str) (db_one (ds_ret de_bl)) db_nil)
  (db_cons (ds_for PassesOwn.never (di_list (de_sub1 (de_var (i := 4)) de_int)) (dg_tup rfl (dgs_cons (dg_name (i := 5) sc_law.nd) (dgs_cons (dg_name (i := 6) sc_law.nd) (dgs_cons (dg_name (i := 7) sc_law.nd) dgs_nil))))
  (db_one (ds_if (dt_w (dw_or (dt_val (de_isi T.z_isinstance (da_cons (de_var (i := 7)) (da_cons (de_tyN T.z_bool PyProof.Rows.boot_bool) da_nil)))) (dw_or1 (dt_cmp (op_ne_d hr.units) o2_ne (de_isi T.z_isinstance (da_cons (de_var (i := 7)) (da_cons (de_tyN T.z_int PyProof.Rows.boot_int) da_nil))) (de_cmp (op_eq_d hr.units) o2_eq (de_var (i := 6)) de_str))))) (db_one (ds_ret de_bl)) db_nil)))
  (db_one (ds_ret de_bl))))))))
def spLaw (K : PySem.W.Frag) : Sp := fun vs H Q _ => ∃ (a : Addr) (ns : List Int), vs = [.ref a] ∧ SqL K H a (ns.map V.int) ∧ ns.length ≤ 63 ∧ ∀ H', Q (.bl true) H'
theorem ok_law (T : Tx K mg) (U : Ts K P mg) : FnOk P w K mg base CX0 20 T.a_law T.d_law ["script"] (spLaw K) :=
  fn_law T.F_law sc_law W_law (st1 := (defBody s_law).getD 0 (.Pass ⟨0, 0, 0, 0⟩)) (rest := (defBody s_law).drop 1) (by rfl) (by decide)
    (fun _ _ _ _ _ _ => ps_set (i := 1) sc_law.nd rfl (by first | exact Or.inl rfl | exact Or.inr rfl) (pe_lst (pa_cons pe_int (pa_cons pe_int pa_nil)))) (fun _ _ _ _ _ _ _ hr => db_law T U hr) hw_law
end
end K5
set_option Elab.async false
set_option linter.all false
set_option maxRecDepth 100000
set_option maxHeartbeats 4000000
namespace K5
open PySem PySem.Spec PyProof.Rows L2 Dl
theorem all_mk {l : PySem.W.OpenLaw} {w : World} {K : PySem.W.Frag} {h : Heap} {mg : Str → Option Value} (X : K.In h) (G : h.Ns mainGlobals mg) {fa : Addr} (hfa : mg "law" = some (.ref fa))
    {f1 : Addr} {od1 an1 : Option Addr} {sl1 : Array (Option Value)} {oc1 kV1 dc1 pm1 cd1 ct1 : Value}
    (a1 : PySem.W.nsIn K mainGlobals "is_name" = some (some (.ref f1))) (l1 : K.lookup f1 = some ⟨oc1, od1, .func (PySem.W.fnOf "is_name" "is_name" (defArgs s_is_name) (defBody s_is_name) (defScope s_is_name) .none kV1 dc1 pm1 an1 cd1 ct1), sl1⟩) (c1 : PySem.W.codeIn K cd1 "is_name" = true) (k1 : PySem.W.keepIn K (.ref f1) = true)
    {f2 : Addr} {od2 an2 : Option Addr} {sl2 : Array (Option Value)} {oc2 kV2 dc2 pm2 cd2 ct2 : Value}
    (a2 : PySem.W.nsIn K mainGlobals "_is_plain" = some (some (.ref f2))) (l2 : K.lookup f2 = some ⟨oc2, od2, .func (PySem.W.fnOf "_is_plain" "_is_plain" (defArgs s_is_plain) (defBody s_is_plain) (defScope s_is_plain) .none kV2 dc2 pm2 an2 cd2 ct2), sl2⟩) (c2 : PySem.W.codeIn K cd2 "_is_plain" = true) (k2 : PySem.W.keepIn K (.ref f2) = true)
    {f3 : Addr} {od3 an3 : Option Addr} {sl3 : Array (Option Value)} {oc3 kV3 dc3 pm3 cd3 ct3 : Value}
    (a3 : PySem.W.nsIn K mainGlobals "fits" = some (some (.ref f3))) (l3 : K.lookup f3 = some ⟨oc3, od3, .func (PySem.W.fnOf "fits" "fits" (defArgs s_fits) (defBody s_fits) (defScope s_fits) .none kV3 dc3 pm3 an3 cd3 ct3), sl3⟩) (c3 : PySem.W.codeIn K cd3 "fits" = true) (k3 : PySem.W.keepIn K (.ref f3) = true)
    {f4 : Addr} {od4 an4 : Option Addr} {sl4 : Array (Option Value)} {oc4 kV4 dc4 pm4 cd4 ct4 : Value}
    (a4 : PySem.W.nsIn K mainGlobals "_may_follow" = some (some (.ref f4))) (l4 : K.lookup f4 = some ⟨oc4, od4, .func (PySem.W.fnOf "_may_follow" "_may_follow" (defArgs s_may_follow) (defBody s_may_follow) (defScope s_may_follow) .none kV4 dc4 pm4 an4 cd4 ct4), sl4⟩) (c4 : PySem.W.codeIn K cd4 "_may_follow" = true) (k4 : PySem.W.keepIn K (.ref f4) = true)
    {f5 : Addr} {od5 an5 : Option Addr} {sl5 : Array (Option Value)} {oc5 kV5 dc5 pm5 cd5 ct5 : Value}
    (a5 : PySem.W.nsIn K mainGlobals "_is_digit" = some (some (.ref f5))) (l5 : K.lookup f5 = some ⟨oc5, od5, .func (PySem.W.fnOf "_is_digit" "_is_digit" (defArgs s_is_digit) (defBody s_is_digit) (defScope s_is_digit) .none kV5 dc5 pm5 an5 cd5 ct5), sl5⟩) (c5 : PySem.W.codeIn K cd5 "_is_digit" = true) (k5 : PySem.W.keepIn K (.ref f5) = true)
    {f6 : Addr} {od6 an6 : Option Addr} {sl6 : Array (Option Value)} {oc6 kV6 dc6 pm6 cd6 ct6 : Value}
    (a6 : PySem.W.nsIn K mainGlobals "_end_of_name" = some (some (.ref f6))) (l6 : K.lookup f6 = some ⟨oc6, od6, .func (PySem.W.fnOf "_end_of_name" "_end_of_name" (defArgs s_end_of_name) (defBody s_end_of_name) (defScope s_end_of_name) .none kV6 dc6 pm6 an6 cd6 ct6), sl6⟩) (c6 : PySem.W.codeIn K cd6 "_end_of_name" = true) (k6 : PySem.W.keepIn K (.ref f6) = true)
    {f7 : Addr} {od7 an7 : Option Addr} {sl7 : Array (Option Value)} {oc7 kV7 dc7 pm7 cd7 ct7 : Value}
    (a7 : PySem.W.nsIn K mainGlobals "_read_name" = some (some (.ref f7))) (l7 : K.lookup f7 = some ⟨oc7, od7, .func (PySem.W.fnOf "_read_name" "_read_name" (defArgs s_read_name) (defBody s_read_name) (defScope s_read_name) .none kV7 dc7 pm7 an7 cd7 ct7), sl7⟩) (c7 : PySem.W.codeIn K cd7 "_read_name" = true) (k7 : PySem.W.keepIn K (.ref f7) = true)
    {f8 : Addr} {od8 an8 : Option Addr} {sl8 : Array (Option Value)} {oc8 kV8 dc8 pm8 cd8 ct8 : Value}
    (a8 : PySem.W.nsIn K mainGlobals "_read_number" = some (some (.ref f8))) (l8 : K.lookup f8 = some ⟨oc8, od8, .func (PySem.W.fnOf "_read_number" "_read_number" (defArgs s_read_number) (defBody s_read_number) (defScope s_read_number) .none kV8 dc8 pm8 an8 cd8 ct8), sl8⟩) (c8 : PySem.W.codeIn K cd8 "_read_number" = true) (k8 : PySem.W.keepIn K (.ref f8) = true)
    {f9 : Addr} {od9 an9 : Option Addr} {sl9 : Array (Option Value)} {oc9 kV9 dc9 pm9 cd9 ct9 : Value}
    (a9 : PySem.W.nsIn K mainGlobals "_read_variable" = some (some (.ref f9))) (l9 : K.lookup f9 = some ⟨oc9, od9, .func (PySem.W.fnOf "_read_variable" "_read_variable" (defArgs s_read_variable) (defBody s_read_variable) (defScope s_read_variable) .none kV9 dc9 pm9 an9 cd9 ct9), sl9⟩) (c9 : PySem.W.codeIn K cd9 "_read_variable" = true) (k9 : PySem.W.keepIn K (.ref f9) = true)
    {f10 : Addr} {od10 an10 : Option Addr} {sl10 : Array (Option Value)} {oc10 kV10 dc10 pm10 cd10 ct10 : Value}
    (a10 : PySem.W.nsIn K mainGlobals "_read_text" = some (some (.ref f10))) (l10 : K.lookup f10 = some ⟨oc10, od10, .func (PySem.W.fnOf "_read_text" "_read_text" (defArgs s_read_text) (defBody s_read_text) (defScope s_read_text) .none kV10 dc10 pm10 an10 cd10 ct10), sl10⟩) (c10 : PySem.W.codeIn K cd10 "_read_text" = true) (k10 : PySem.W.keepIn K (.ref f10) = true)
    {f11 : Addr} {od11 an11 : Option Addr} {sl11 : Array (Option Value)} {oc11 kV11 dc11 pm11 cd11 ct11 : Value}
    (a11 : PySem.W.nsIn K mainGlobals "_read_word" = some (some (.ref f11))) (l11 : K.lookup f11 = some ⟨oc11, od11, .func (PySem.W.fnOf "_read_word" "_read_word" (defArgs s_read_word) (defBody s_read_word) (defScope s_read_word) .none kV11 dc11 pm11 an11 cd11 ct11), sl11⟩) (c11 : PySem.W.codeIn K cd11 "_read_word" = true) (k11 : PySem.W.keepIn K (.ref f11) = true)
    {f12 : Addr} {od12 an12 : Option Addr} {sl12 : Array (Option Value)} {oc12 kV12 dc12 pm12 cd12 ct12 : Value}
    (a12 : PySem.W.nsIn K mainGlobals "split_words" = some (some (.ref f12))) (l12 : K.lookup f12 = some ⟨oc12, od12, .func (PySem.W.fnOf "split_words" "split_words" (defArgs s_split_words) (defBody s_split_words) (defScope s_split_words) .none kV12 dc12 pm12 an12 cd12 ct12), sl12⟩) (c12 : PySem.W.codeIn K cd12 "split_words" = true) (k12 : PySem.W.keepIn K (.ref f12) = true)
    {f13 : Addr} {od13 an13 : Option Addr} {sl13 : Array (Option Value)} {oc13 kV13 dc13 pm13 cd13 ct13 : Value}
    (a13 : PySem.W.nsIn K mainGlobals "_law_is_integer" = some (some (.ref f13))) (l13 : K.lookup f13 = some ⟨oc13, od13, .func (PySem.W.fnOf "_law_is_integer" "_law_is_integer" (defArgs s_l_is_integer) (defBody s_l_is_integer) (defScope s_l_is_integer) .none kV13 dc13 pm13 an13 cd13 ct13), sl13⟩) (c13 : PySem.W.codeIn K cd13 "_law_is_integer" = true) (k13 : PySem.W.keepIn K (.ref f13) = true)
    {f14 : Addr} {od14 an14 : Option Addr} {sl14 : Array (Option Value)} {oc14 kV14 dc14 pm14 cd14 ct14 : Value}
    (a14 : PySem.W.nsIn K mainGlobals "_law_refill" = some (some (.ref f14))) (l14 : K.lookup f14 = some ⟨oc14, od14, .func (PySem.W.fnOf "_law_refill" "_law_refill" (defArgs s_l_refill) (defBody s_l_refill) (defScope s_l_refill) .none kV14 dc14 pm14 an14 cd14 ct14), sl14⟩) (c14 : PySem.W.codeIn K cd14 "_law_refill" = true) (k14 : PySem.W.keepIn K (.ref f14) = true)
    {f15 : Addr} {od15 an15 : Option Addr} {sl15 : Array (Option Value)} {oc15 kV15 dc15 pm15 cd15 ct15 : Value}
    (a15 : PySem.W.nsIn K mainGlobals "_law_draw" = some (some (.ref f15))) (l15 : K.lookup f15 = some ⟨oc15, od15, .func (PySem.W.fnOf "_law_draw" "_law_draw" (defArgs s_l_draw) (defBody s_l_draw) (defScope s_l_draw) .none kV15 dc15 pm15 an15 cd15 ct15), sl15⟩) (c15 : PySem.W.codeIn K cd15 "_law_draw" = true) (k15 : PySem.W.keepIn K (.ref f15) = true)
    {f16 : Addr} {od16 an16 : Option Addr} {sl16 : Array (Option Value)} {oc16 kV16 dc16 pm16 cd16 ct16 : Value}
    (a16 : PySem.W.nsIn K mainGlobals "_law_run" = some (some (.ref f16))) (l16 : K.lookup f16 = some ⟨oc16, od16, .func (PySem.W.fnOf "_law_run" "_law_run" (defArgs s_l_run) (defBody s_l_run) (defScope s_l_run) .none kV16 dc16 pm16 an16 cd16 ct16), sl16⟩) (c16 : PySem.W.codeIn K cd16 "_law_run" = true) (k16 : PySem.W.keepIn K (.ref f16) = true)
    {f17 : Addr} {od17 an17 : Option Addr} {sl17 : Array (Option Value)} {oc17 kV17 dc17 pm17 cd17 ct17 : Value}
    (a17 : PySem.W.nsIn K mainGlobals "_law_named" = some (some (.ref f17))) (l17 : K.lookup f17 = some ⟨oc17, od17, .func (PySem.W.fnOf "_law_named" "_law_named" (defArgs s_l_named) (defBody s_l_named) (defScope s_l_named) .none kV17 dc17 pm17 an17 cd17 ct17), sl17⟩) (c17 : PySem.W.codeIn K cd17 "_law_named" = true) (k17 : PySem.W.keepIn K (.ref f17) = true)
    {f18 : Addr} {od18 an18 : Option Addr} {sl18 : Array (Option Value)} {oc18 kV18 dc18 pm18 cd18 ct18 : Value}
    (a18 : PySem.W.nsIn K mainGlobals "_law_word_at" = some (some (.ref f18))) (l18 : K.lookup f18 = some ⟨oc18, od18, .func (PySem.W.fnOf "_law_word_at" "_law_word_at" (defArgs s_l_word_at) (defBody s_l_word_at) (defScope s_l_word_at) .none kV18 dc18 pm18 an18 cd18 ct18), sl18⟩) (c18 : PySem.W.codeIn K cd18 "_law_word_at" = true) (k18 : PySem.W.keepIn K (.ref f18) = true)
    {f19 : Addr} {od19 an19 : Option Addr} {sl19 : Array (Option Value)} {oc19 kV19 dc19 pm19 cd19 ct19 : Value}
    (a19 : PySem.W.nsIn K mainGlobals "_law_split" = some (some (.ref f19))) (l19 : K.lookup f19 = some ⟨oc19, od19, .func (PySem.W.fnOf "_law_split" "_law_split" (defArgs s_l_split) (defBody s_l_split) (defScope s_l_split) .none kV19 dc19 pm19 an19 cd19 ct19), sl19⟩) (c19 : PySem.W.codeIn K cd19 "_law_split" = true) (k19 : PySem.W.keepIn K (.ref f19) = true)
    {f20 : Addr} {od20 an20 : Option Addr} {sl20 : Array (Option Value)} {oc20 kV20 dc20 pm20 cd20 ct20 : Value}
    (a20 : PySem.W.nsIn K mainGlobals "_law_told" = some (some (.ref f20))) (l20 : K.lookup f20 = some ⟨oc20, od20, .func (PySem.W.fnOf "_law_told" "_law_told" (defArgs s_l_told) (defBody s_l_told) (defScope s_l_told) .none kV20 dc20 pm20 an20 cd20 ct20), sl20⟩) (c20 : PySem.W.codeIn K cd20 "_law_told" = true) (k20 : PySem.W.keepIn K (.ref f20) = true)
    {f21 : Addr} {od21 an21 : Option Addr} {sl21 : Array (Option Value)} {oc21 kV21 dc21 pm21 cd21 ct21 : Value}
    (a21 : PySem.W.nsIn K mainGlobals "_law_piece" = some (some (.ref f21))) (l21 : K.lookup f21 = some ⟨oc21, od21, .func (PySem.W.fnOf "_law_piece" "_law_piece" (defArgs s_l_piece) (defBody s_l_piece) (defScope s_l_piece) .none kV21 dc21 pm21 an21 cd21 ct21), sl21⟩) (c21 : PySem.W.codeIn K cd21 "_law_piece" = true) (k21 : PySem.W.keepIn K (.ref f21) = true)
    {f22 : Addr} {od22 an22 : Option Addr} {sl22 : Array (Option Value)} {oc22 kV22 dc22 pm22 cd22 ct22 : Value}
    (a22 : PySem.W.nsIn K mainGlobals "law" = some (some (.ref f22))) (l22 : K.lookup f22 = some ⟨oc22, od22, .func (PySem.W.fnOf "law" "law" (defArgs s_law) (defBody s_law) (defScope s_law) .none kV22 dc22 pm22 an22 cd22 ct22), sl22⟩) (c22 : PySem.W.codeIn K cd22 "law" = true) (k22 : PySem.W.keepIn K (.ref f22) = true)
    {t_LONGEST_NAME : Tok} (g_LONGEST_NAME : PySem.W.nsIn K mainGlobals "LONGEST_NAME" = some (some (.int (30) t_LONGEST_NAME)))
    {t_LEAST_INT : Tok} (g_LEAST_INT : PySem.W.nsIn K mainGlobals "LEAST_INT" = some (some (.int (-2147483648) t_LEAST_INT)))
    {t_GREATEST_INT : Tok} (g_GREATEST_INT : PySem.W.nsIn K mainGlobals "GREATEST_INT" = some (some (.int (2147483647) t_GREATEST_INT)))
    {t_FIRST_CODE : Tok} (g_FIRST_CODE : PySem.W.nsIn K mainGlobals "FIRST_CODE" = some (some (.int (32) t_FIRST_CODE)))
    {t_LAST_CODE : Tok} (g_LAST_CODE : PySem.W.nsIn K mainGlobals "LAST_CODE" = some (some (.int (126) t_LAST_CODE)))
    {t_EXCEPTED_CODE : Tok} (g_EXCEPTED_CODE : PySem.W.nsIn K mainGlobals "EXCEPTED_CODE" = some (some (.int (37) t_EXCEPTED_CODE)))
    {t_BLANKS : Tok} (g_BLANKS : PySem.W.nsIn K mainGlobals "BLANKS" = some (some (.str " \n," t_BLANKS)))
    {t_SIGNS : Tok} (g_SIGNS : PySem.W.nsIn K mainGlobals "SIGNS" = some (some (.str "{}():=![]@" t_SIGNS)))
    {t_DOTS : Tok} (g_DOTS : PySem.W.nsIn K mainGlobals "DOTS" = some (some (.str "..." t_DOTS)))
    {t_QUOTE : Tok} (g_QUOTE : PySem.W.nsIn K mainGlobals "QUOTE" = some (some (.str "\"" t_QUOTE)))
    {t_MOST_DIGITS : Tok} (g_MOST_DIGITS : PySem.W.nsIn K mainGlobals "MOST_DIGITS" = some (some (.int (10) t_MOST_DIGITS)))
    {t_TYPE_FIELD : Tok} (g_TYPE_FIELD : PySem.W.nsIn K mainGlobals "TYPE_FIELD" = some (some (.str "_type" t_TYPE_FIELD)))
    (z_all : PySem.W.nsIn K mainGlobals "all" = some none)
    (z_bool : PySem.W.nsIn K mainGlobals "bool" = some none)
    (z_int : PySem.W.nsIn K mainGlobals "int" = some none)
    (z_isinstance : PySem.W.nsIn K mainGlobals "isinstance" = some none)
    (z_len : PySem.W.nsIn K mainGlobals "len" = some none)
    (z_ord : PySem.W.nsIn K mainGlobals "ord" = some none)
    (z_range : PySem.W.nsIn K mainGlobals "range" = some none)
    (z_str : PySem.W.nsIn K mainGlobals "str" = some none)
    {C fI cda cc E : Addr} {kV doc pm ct : Value} {an : Option Addr} {nm q : Str} {N0 : Addr} {bs bm : List Value} {sn : List Str} {sub : List Value} {ab : Bool} {col : Option Bool} {dd : Option Addr} {q0 q1 q2 q3 q5 : Option Value}
    (u1 : PySem.W.nsIn K mainGlobals "InvalidDocument" = some (some (.ref C)))
    (u2 : K.lookup C = some (excClassObj nm q C N0 bs bm true sn sub ab col dd q0 q1 q2 q3 q5 "ValueError.__new__")) (u3 : PySem.HandSPX.refsVE bm = true)
    (u4 : PySem.W.findIn K (.ref C) "__setattr__" = some (some (.builtin "object.__setattr__"))) (u5 : PySem.W.subIn K (.ref C) (.type "BaseException") = some true) (u6 : PySem.W.typeIn K (.ref C) = some (.type "type")) (u7 : PySem.W.keepIn K (.ref C) = true)
    (u8 : PySem.W.findIn K (.ref C) "__init__" = some (some (.ref fI))) {oc : Value} {od : Option Addr} {osl : Array (Option Value)}
    (u9 : K.lookup fI = some ⟨oc, od, .func (PySem.W.ksFn "__init__" "InvalidDocument.__init__" (defArgs sx_InvalidDocument) (defBody sx_InvalidDocument) (defScope sx_InvalidDocument) .none kV doc pm an (.ref cda) ct cc), osl⟩)
    {ccl : Value} {cdd : Option Addr} {vs : Array Value} {ccs : Array (Option Value)} {file : Str} {tf : Tok}
    (u10 : K.lookup cda = some ⟨ccl, cdd, .fields vs, ccs⟩) (u11 : vs[2]? = some (.str file tf)) (u12 : ((l.prog.main.file : Str) == file) = true)
    {cl : Value} {cld : Option Addr} {csl : Array (Option Value)} (u13 : K.lookup cc = some ⟨cl, cld, .cell (some (.ref C)), csl⟩)
    (u14 : PySem.W.mroIn K C (.ref C) = some true) (u15 : PySem.W.nsIn K cStatics "thirdparty.any" = some none) (u16 : PySem.W.ks_superIn K C C "__init__" = some (some (.builtin "ValueError.__init__")))
    (u17 : PySem.W.subIn K (.ref C) (.type "ValueError") = some true) (u18 : PySem.W.nsIn K mainGlobals "super" = some none) (u19 : (l.prog.main.scope.names.lookup ("super" : Str)).isSome = false)
    (u20 : PySem.W.codeIn K (.ref cda) "InvalidDocument.__init__" = true) (u21 : PySem.W.findIn K (.ref C) "place" = some none) (u22 : PySem.W.typeIn K (.ref fI) = some (.type "function"))
    (u23 : PySem.W.nsIn K mainGlobals "SeamError" = some (some (.ref E))) (u24 : PySem.W.subIn K (.ref C) (.ref C) = some true) (u25 : PySem.W.hasDictIn K C = true)
    (u26 : PySem.W.findIn K (.ref C) "__getattribute__" = some (some (.builtin "BaseException.__getattribute__"))) (u27 : PySem.W.findIn K (.ref C) "__getattr__" = some none) (u28 : PySem.W.findIn K (.ref C) "__class__" = some (some (.builtin "object.__class__")))
    (u29 : PySem.W.specialIn K (.builtin "object.__class__") "__get__" = some (some (.builtin "getset_descriptor.__get__"))) (u30 : PySem.W.takesIn K (.builtin "object.__class__") = some true) (u31 : PySem.W.mroIn K C (.type "object") = some true)
    (u32 : PySem.W.subIn K (.ref C) (.ref E) = some true) (u33 : PySem.W.hasDictIn K E = true) (u34 : PySem.W.typeIn K (.ref E) = some (.type "type")) :
    ∃ fd : FuncData, (∀ (s : Shared) (v : Value), BindsTo s fd ⟨[v], []⟩ [("script", v)]) ∧ ∀ base : Heap, K.In base → base.Ns mainGlobals mg → FnOk l.prog w K mg base CX0 20 fa fd ["script"] (spLaw K) := by
  have e := hfa.symm.trans (PySem.W.mg_of X G a22)
  cases e
  have F1 := fun_mk (st := s_is_name) l1 c1 k1
  have b1 := F1.binds (ps := ["text"]) fun _ _ _ _ _ _ us hl => match us, hl with | [_], _ => rfl
  have F2 := fun_mk (st := s_is_plain) l2 c2 k2
  have b2 := F2.binds (ps := ["code"]) fun _ _ _ _ _ _ us hl => match us, hl with | [_], _ => rfl
  have F3 := fun_mk (st := s_fits) l3 c3 k3
  have b3 := F3.binds (ps := ["scalar", "value"]) fun _ _ _ _ _ _ us hl => match us, hl with | [_, _], _ => rfl
  have F4 := fun_mk (st := s_may_follow) l4 c4 k4
  have b4 := F4.binds (ps := ["sign"]) fun _ _ _ _ _ _ us hl => match us, hl with | [_], _ => rfl
  have F5 := fun_mk (st := s_is_digit) l5 c5 k5
  have b5 := F5.binds (ps := ["sign"]) fun _ _ _ _ _ _ us hl => match us, hl with | [_], _ => rfl
  have F6 := fun_mk (st := s_end_of_name) l6 c6 k6
  have b6 := F6.binds (ps := ["text", "place"]) fun _ _ _ _ _ _ us hl => match us, hl with | [_, _], _ => rfl
  have F7 := fun_mk (st := s_read_name) l7 c7 k7
  have b7 := F7.binds (ps := ["text", "place"]) fun _ _ _ _ _ _ us hl => match us, hl with | [_, _], _ => rfl
  have F8 := fun_mk (st := s_read_number) l8 c8 k8
  have b8 := F8.binds (ps := ["text", "place"]) fun _ _ _ _ _ _ us hl => match us, hl with | [_, _], _ => rfl
  have F9 := fun_mk (st := s_read_variable) l9 c9 k9
  have b9 := F9.binds (ps := ["text", "place"]) fun _ _ _ _ _ _ us hl => match us, hl with | [_, _], _ => rfl
  have F10 := fun_mk (st := s_read_text) l10 c10 k10
  have b10 := F10.binds (ps := ["text", "place"]) fun _ _ _ _ _ _ us hl => match us, hl with | [_, _], _ => rfl
  have F11 := fun_mk (st := s_read_word) l11 c11 k11
  have b11 := F11.binds (ps := ["text", "place"]) fun _ _ _ _ _ _ us hl => match us, hl with | [_, _], _ => rfl
  have F12 := fun_mk (st := s_split_words) l12 c12 k12
  have b12 := F12.binds (ps := ["text"]) fun _ _ _ _ _ _ us hl => match us, hl with | [_], _ => rfl
  have F13 := fun_mk (st := s_l_is_integer) l13 c13 k13
  have b13 := F13.binds (ps := ["actual"]) fun _ _ _ _ _ _ us hl => match us, hl with | [_], _ => rfl
  have F14 := fun_mk (st := s_l_refill) l14 c14 k14
  have b14 := F14.binds (ps := ["script", "k"]) fun _ _ _ _ _ _ us hl => match us, hl with | [_, _], _ => rfl
  have F15 := fun_mk (st := s_l_draw) l15 c15 k15
  have b15 := F15.binds (ps := ["state", "script", "size"]) fun _ _ _ _ _ _ us hl => match us, hl with | [_, _, _], _ => rfl
  have F16 := fun_mk (st := s_l_run) l16 c16 k16
  have b16 := F16.binds (ps := ["text", "at", "signs"]) fun _ _ _ _ _ _ us hl => match us, hl with | [_, _, _], _ => rfl
  have F17 := fun_mk (st := s_l_named) l17 c17 k17
  have b17 := F17.binds (ps := ["text", "at", "place"]) fun _ _ _ _ _ _ us hl => match us, hl with | [_, _, _], _ => rfl
  have F18 := fun_mk (st := s_l_word_at) l18 c18 k18
  have b18 := F18.binds (ps := ["text", "at"]) fun _ _ _ _ _ _ us hl => match us, hl with | [_, _], _ => rfl
  have F19 := fun_mk (st := s_l_split) l19 c19 k19
  have b19 := F19.binds (ps := ["text"]) fun _ _ _ _ _ _ us hl => match us, hl with | [_], _ => rfl
  have F20 := fun_mk (st := s_l_told) l20 c20 k20
  have b20 := F20.binds (ps := ["text"]) fun _ _ _ _ _ _ us hl => match us, hl with | [_], _ => rfl
  have F21 := fun_mk (st := s_l_piece) l21 c21 k21
  have b21 := F21.binds (ps := ["state", "script"]) fun _ _ _ _ _ _ us hl => match us, hl with | [_, _], _ => rfl
  have F22 := fun_mk (st := s_law) l22 c22 k22
  have b22 := F22.binds (ps := ["script"]) fun _ _ _ _ _ _ us hl => match us, hl with | [_], _ => rfl
  let T : Tx K mg := {
    a_is_name := f1, d_is_name := _, F_is_name := F1, b_is_name := b1, m_is_name := PySem.W.mg_of X G a1,
    a_is_plain := f2, d_is_plain := _, F_is_plain := F2, b_is_plain := b2, m_is_plain := PySem.W.mg_of X G a2,
    a_fits := f3, d_fits := _, F_fits := F3, b_fits := b3, m_fits := PySem.W.mg_of X G a3,
    a_may_follow := f4, d_may_follow := _, F_may_follow := F4, b_may_follow := b4, m_may_follow := PySem.W.mg_of X G a4,
    a_is_digit := f5, d_is_digit := _, F_is_digit := F5, b_is_digit := b5, m_is_digit := PySem.W.mg_of X G a5,
    a_end_of_name := f6, d_end_of_name := _, F_end_of_name := F6, b_end_of_name := b6, m_end_of_name := PySem.W.mg_of X G a6,
    a_read_name := f7, d_read_name := _, F_read_name := F7, b_read_name := b7, m_read_name := PySem.W.mg_of X G a7,
    a_read_number := f8, d_read_number := _, F_read_number := F8, b_read_number := b8, m_read_number := PySem.W.mg_of X G a8,
    a_read_variable := f9, d_read_variable := _, F_read_variable := F9, b_read_variable := b9, m_read_variable := PySem.W.mg_of X G a9,
    a_read_text := f10, d_read_text := _, F_read_text := F10, b_read_text := b10, m_read_text := PySem.W.mg_of X G a10,
    a_read_word := f11, d_read_word := _, F_read_word := F11, b_read_word := b11, m_read_word := PySem.W.mg_of X G a11,
    a_split_words := f12, d_split_words := _, F_split_words := F12, b_split_words := b12, m_split_words := PySem.W.mg_of X G a12,
    a_l_is_integer := f13, d_l_is_integer := _, F_l_is_integer := F13, b_l_is_integer := b13, m_l_is_integer := PySem.W.mg_of X G a13,
    a_l_refill := f14, d_l_refill := _, F_l_refill := F14, b_l_refill := b14, m_l_refill := PySem.W.mg_of X G a14,
    a_l_draw := f15, d_l_draw := _, F_l_draw := F15, b_l_draw := b15, m_l_draw := PySem.W.mg_of X G a15,
    a_l_run := f16, d_l_run := _, F_l_run := F16, b_l_run := b16, m_l_run := PySem.W.mg_of X G a16,
    a_l_named := f17, d_l_named := _, F_l_named := F17, b_l_named := b17, m_l_named := PySem.W.mg_of X G a17,
    a_l_word_at := f18, d_l_word_at := _, F_l_word_at := F18, b_l_word_at := b18, m_l_word_at := PySem.W.mg_of X G a18,
    a_l_split := f19, d_l_split := _, F_l_split := F19, b_l_split := b19, m_l_split := PySem.W.mg_of X G a19,
    a_l_told := f20, d_l_told := _, F_l_told := F20, b_l_told := b20, m_l_told := PySem.W.mg_of X G a20,
    a_l_piece := f21, d_l_piece := _, F_l_piece := F21, b_l_piece := b21, m_l_piece := PySem.W.mg_of X G a21,
    a_law := fa, d_law := _, F_law := F22, b_law := b22, m_law := PySem.W.mg_of X G a22,
    t_LONGEST_NAME := t_LONGEST_NAME, c_LONGEST_NAME := PySem.W.mg_of X G g_LONGEST_NAME,
    t_LEAST_INT := t_LEAST_INT, c_LEAST_INT := PySem.W.mg_of X G g_LEAST_INT,
    t_GREATEST_INT := t_GREATEST_INT, c_GREATEST_INT := PySem.W.mg_of X G g_GREATEST_INT,
    t_FIRST_CODE := t_FIRST_CODE, c_FIRST_CODE := PySem.W.mg_of X G g_FIRST_CODE,
    t_LAST_CODE := t_LAST_CODE, c_LAST_CODE := PySem.W.mg_of X G g_LAST_CODE,
    t_EXCEPTED_CODE := t_EXCEPTED_CODE, c_EXCEPTED_CODE := PySem.W.mg_of X G g_EXCEPTED_CODE,
    t_BLANKS := t_BLANKS, c_BLANKS := PySem.W.mg_of X G g_BLANKS,
    t_SIGNS := t_SIGNS, c_SIGNS := PySem.W.mg_of X G g_SIGNS,
    t_DOTS := t_DOTS, c_DOTS := PySem.W.mg_of X G g_DOTS,
    t_QUOTE := t_QUOTE, c_QUOTE := PySem.W.mg_of X G g_QUOTE,
    t_MOST_DIGITS := t_MOST_DIGITS, c_MOST_DIGITS := PySem.W.mg_of X G g_MOST_DIGITS,
    t_TYPE_FIELD := t_TYPE_FIELD, c_TYPE_FIELD := PySem.W.mg_of X G g_TYPE_FIELD,
    z_all := PySem.W.mg_none_of X G z_all,
    z_bool := PySem.W.mg_none_of X G z_bool,
    z_int := PySem.W.mg_none_of X G z_int,
    z_isinstance := PySem.W.mg_none_of X G z_isinstance,
    z_len := PySem.W.mg_none_of X G z_len,
    z_ord := PySem.W.mg_none_of X G z_ord,
    z_range := PySem.W.mg_none_of X G z_range,
    z_str := PySem.W.mg_none_of X G z_str }
  have UT : OexC K C := ⟨⟨nm, q, N0, bs, bm, sn, sub, ab, col, dd, q0, q1, q2, q3, q5, u2, u3⟩, u4, u5, u6, u7⟩
  have U : Ts K l.prog mg := { C := C, fI := fI, cda := cda, cc := cc, kV := kV, doc := doc, pm := pm, ct := ct, an := an, S := ⟨UT, ⟨oc, od, osl, u9⟩, ⟨ccl, cdd, vs, ccs, file, tf, u10, u11, u12⟩, ⟨cl, cld, csl, u13⟩, u14, u15, u16, u17, PySem.W.mg_none_of X G u18, u19⟩, hcd := u20, hno := u21, fx := ⟨PySem.W.mg_of X G u1, UT, u8, u22⟩, bi := .all (fun us hl => match us, hl with | [_, _], _ => rfl), ex := PySem.W.exm_ref u5 u25 u6 u24, ec := ⟨u26, u27, u5, u25, u28, u29, u30, u31⟩, xf := ⟨u26, u27, u5, u25⟩, E := E, mE := PySem.W.mg_of X G u23, kE := kit_ref u33 u34 u32 }
  exact ⟨_, fun s v => .of_eq rfl, fun base _ _ => ok_law T U⟩
theorem walk {l : PySem.W.OpenLaw} {q : Program} {loose : List Str} {XP : (Str → Option Value) → Heap → Prop} {YP : World → Heap → Prop} {d : DefRec} {K : Params → PySem.W.Frag} (hn : l.most = some 63) (hdf : d.params.defaults = [])
    (hY : ∀ (w : World) (h : Heap), YP w h → (K w.params).In h)
    (F : ∀ (w : World) (mg : Str → Option Value) (fa : Addr) (h : Heap), (K w.params).In h → h.Ns mainGlobals mg → mg d.name = some (.ref fa) →
      ∃ fd : FuncData, (∀ (s : Shared) (u : Value), BindsTo s fd ⟨[u], []⟩ [("script", u)]) ∧ ∀ base : Heap, (K w.params).In base → base.Ns mainGlobals mg → FnOk l.prog w (K w.params) mg base CX0 20 fa fd ["script"] (spLaw (K w.params))) :
    PySem.W.WalkO q loose XP YP l.row.toRowW d [] (fun f vs => PySem.call f vs) :=
  L2.walk_of (n := 63) (k := 20) (x := "script") (CX := fun _ => CX0) (sp := fun w => spLaw (K w.params)) hn (by decide) hdf ⟨rfl, by decide, by decide⟩ hY F (fun _ _ a ns hl _ hS => ⟨a, ns, rfl, hS, hl, fun _ => rfl⟩) fun _ _ _ _ _ z => z
end K5
open PySem PySem.W PyProof.Rows
set_option maxRecDepth 100000 in
set_option maxHeartbeats 0 in
theorem PySem.Challenge.cw_seamgraph_k05_words_holds : PySem.Challenge.rw_seamgraph_k05_words.Holds := by
  w_on; o_law; k_head; (case hw => w_witness2)
  k_fill
  refine K5.walk (l := PySem.Challenge.rw_seamgraph_k05_words) rfl rfl (fun w h Y => PySem.W.kIn_of Y) ?F
  case F =>
    intro w mg fa h KX G hmg
    refine' K5.all_mk KX G hmg ?a1 ?l1 ?c1 ?k1 ?a2 ?l2 ?c2 ?k2 ?a3 ?l3 ?c3 ?k3 ?a4 ?l4 ?c4 ?k4 ?a5 ?l5 ?c5 ?k5 ?a6 ?l6 ?c6 ?k6 ?a7 ?l7 ?c7 ?k7 ?a8 ?l8 ?c8 ?k8 ?a9 ?l9 ?c9 ?k9 ?a10 ?l10 ?c10 ?k10 ?a11 ?l11 ?c11 ?k11 ?a12 ?l12 ?c12 ?k12 ?a13 ?l13 ?c13 ?k13 ?a14 ?l14 ?c14 ?k14 ?a15 ?l15 ?c15 ?k15 ?a16 ?l16 ?c16 ?k16 ?a17 ?l17 ?c17 ?k17 ?a18 ?l18 ?c18 ?k18 ?a19 ?l19 ?c19 ?k19 ?a20 ?l20 ?c20 ?k20 ?a21 ?l21 ?c21 ?k21 ?a22 ?l22 ?c22 ?k22 ?g_LONGEST_NAME ?g_LEAST_INT ?g_GREATEST_INT ?g_FIRST_CODE ?g_LAST_CODE ?g_EXCEPTED_CODE ?g_BLANKS ?g_SIGNS ?g_DOTS ?g_QUOTE ?g_MOST_DIGITS ?g_TYPE_FIELD ?z_all ?z_bool ?z_int ?z_isinstance ?z_len ?z_ord ?z_range ?z_str ?u1 ?u2 ?u3 ?u4 ?u5 ?u6 ?u7 ?u8 ?u9 ?u10 ?u11 ?u12 ?u13 ?u14 ?u15 ?u16 ?u17 ?u18 ?u19 ?u20 ?u21 ?u22 ?u23 ?u24 ?u25 ?u26 ?u27 ?u28 ?u29 ?u30 ?u31 ?u32 ?u33 ?u34
    (case a1 => k_is)
    (case l1 => k_is)
    (case c1 => k_is)
    (case k1 => k_is)
    (case a2 => k_is)
    (case l2 => k_is)
    (case c2 => k_is)
    (case k2 => k_is)
    (case a3 => k_is)
    (case l3 => k_is)
    (case c3 => k_is)
    (case k3 => k_is)
    (case a4 => k_is)
    (case l4 => k_is)
    (case c4 => k_is)
    (case k4 => k_is)
    (case a5 => k_is)
    (case l5 => k_is)
    (case c5 => k_is)
    (case k5 => k_is)
    (case a6 => k_is)
    (case l6 => k_is)
    (case c6 => k_is)
    (case k6 => k_is)
    (case a7 => k_is)
    (case l7 => k_is)
    (case c7 => k_is)
    (case k7 => k_is)
    (case a8 => k_is)
    (case l8 => k_is)
    (case c8 => k_is)
    (case k8 => k_is)
    (case a9 => k_is)
    (case l9 => k_is)
    (case c9 => k_is)
    (case k9 => k_is)
    (case a10 => k_is)
    (case l10 => k_is)
    (case c10 => k_is)
    (case k10 => k_is)
    (case a11 => k_is)
    (case l11 => k_is)
    (case c11 => k_is)
    (case k11 => k_is)
    (case a12 => k_is)
    (case l12 => k_is)
    (case c12 => k_is)
    (case k12 => k_is)
    (case a13 => k_is)
    (case l13 => k_is)
    (case c13 => k_is)
    (case k13 => k_is)
    (case a14 => k_is)
    (case l14 => k_is)
    (case c14 => k_is)
    (case k14 => k_is)
    (case a15 => k_is)
    (case l15 => k_is)
    (case c15 => k_is)
    (case k15 => k_is)
    (case a16 => k_is)
    (case l16 => k_is)
    (case c16 => k_is)
    (case k16 => k_is)
    (case a17 => k_is)
    (case l17 => k_is)
    (case c17 => k_is)
    (case k17 => k_is)
    (case a18 => k_is)
    (case l18 => k_is)
    (case c18 => k_is)
    (case k18 => k_is)
    (case a19 => k_is)
    (case l19 => k_is)
    (case c19 => k_is)
    (case k19 => k_is)
    (case a20 => k_is)
    (case l20 => k_is)
    (case c20 => k_is)
    (case k20 => k_is)
    (case a21 => k_is)
    (case l21 => k_is)
    (case c21 => k_is)
    (case k21 => k_is)
    (case a22 => k_is)
    (case l22 => k_is)
    (case c22 => k_is)
    (case k22 => k_is)
    (case g_LONGEST_NAME => k_is)
    (case g_LEAST_INT => k_is)
    (case g_GREATEST_INT => k_is)
    (case g_FIRST_CODE => k_is)
    (case g_LAST_CODE => k_is)
    (case g_EXCEPTED_CODE => k_is)
    (case g_BLANKS => k_is)
    (case g_SIGNS => k_is)
    (case g_DOTS => k_is)
    (case g_QUOTE => k_is)
    (case g_MOST_DIGITS => k_is)
    (case g_TYPE_FIELD => k_is)
    (case z_all => k_is)
    (case z_bool => k_is)
    (case z_int => k_is)
    (case z_isinstance => k_is)
    (case z_len => k_is)
    (case z_ord => k_is)
    (case z_range => k_is)
    (case z_str => k_is)
    (case u1 => k_is)
    (case u2 => k_is)
    (case u3 => first | rfl | decide +kernel)
    (case u4 => k_is)
    (case u5 => k_is)
    (case u6 => k_is)
    (case u7 => k_is)
    (case u8 => k_is)
    (case u9 => k_is)
    (case u10 => k_is)
    (case u11 => rfl)
    (case u12 => first | rfl | decide +kernel)
    (case u13 => k_is)
    (case u14 => k_is)
    (case u15 => k_is)
    (case u16 => ks_is)
    (case u17 => k_is)
    (case u18 => k_is)
    (case u19 => first | rfl | decide +kernel)
    (case u20 => k_is)
    (case u21 => k_is)
    (case u22 => k_is)
    (case u23 => k_is)
    (case u24 => k_is)
    (case u25 => k_is)
    (case u26 => k_is)
    (case u27 => k_is)
    (case u28 => k_is)
    (case u29 => k_is)
    (case u30 => k_is)
    (case u31 => k_is)
    (case u32 => k_is)
    (case u33 => k_is)
    (case u34 => k_is)
