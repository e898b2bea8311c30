import PyProof.Rows.All
import Wide.All
import OpenK.AllK
import Wide.FinOn
import HandS.ForMost
import HandS.TryOnly
import HandS.ExcInit
import HandS.TupAny
import HandS.Deep
import HandS.IsInst
import HandS.Flow
import HandS.More
import HandS.Words
import HandS.Defaults
import HandS.HeadHook2
import HandS.Exc
import HandS.ExcIs
import HandS.ExcField
import HandS.ExcSuper
import HandS.WordsExc
import HandS.Head0
import HandS.Head1
import HandS.Head2
import HandS.HeadEnd
import HandS.HeadHook1
import KE.KIsAll
import HandS.Small
import HandS.ExcValue
import KE.KStateDown
import Lean
import PySem.Challenge.RW_cornerfade_k00_errors
set_option Elab.async false
set_option linter.all false
set_option maxRecDepth 100000
/-! A pure layer over the hand layer: readings evaluated over data. -/
namespace Pw
open PySem L2

/-! ### data in a frozen heap -/
def FSub (F F' : Hp) : Prop := ∀ a o, F a = some o → F' a = some o
theorem FSub.rfl {F : Hp} : FSub F F := fun _ _ h => h
theorem FSub.trans {F G L : Hp} (a : FSub F G) (b : FSub G L) : FSub F L := fun x o h => b x o (a x o h)
mutual
inductive Rp (F : Hp) : V → PyData → Prop
  | non : Rp F .non .none
  | bl (b : Bool) : Rp F (.bl b) (.bool b)
  | int (i : Int) : Rp F (.int i) (.int i)
  | str (x : Str) : Rp F (.str x) (.str x)
  | lst {a : Addr} {xs : List V} {ds : List PyData} : F a = some (.lst xs) → RpAll F xs ds → Rp F (.ref a) (.list ds)
  | tup {a : Addr} {xs : List V} {ds : List PyData} : F a = some (.tup xs) → RpAll F xs ds → Rp F (.ref a) (.tuple ds)
inductive RpAll (F : Hp) : List V → List PyData → Prop
  | nil : RpAll F [] []
  | cons {v : V} {vs : List V} {d : PyData} {ds : List PyData} : Rp F v d → RpAll F vs ds → RpAll F (v :: vs) (d :: ds)
end
mutual
theorem Rp.mono {F F' : Hp} (s : FSub F F') : ∀ {d : PyData} {v : V}, Rp F v d → Rp F' v d
  | .none, _, h => by cases h; exact .non
  | .bool b, _, h => by cases h; exact .bl b
  | .int i, _, h => by cases h; exact .int i
  | .str x, _, h => by cases h; exact .str x
  | .list ds, _, h => by cases h with | lst e r => exact .lst (s _ _ e) (RpAll.mono s r)
  | .tuple ds, _, h => by cases h with | tup e r => exact .tup (s _ _ e) (RpAll.mono s r)
  | .dict _, _, h => by cases h
theorem RpAll.mono {F F' : Hp} (s : FSub F F') : ∀ {ds : List PyData} {vs : List V}, RpAll F vs ds → RpAll F' vs ds
  | [], _, h => by cases h; exact .nil
  | d :: ds, _, h => by cases h with | cons a b => exact .cons (Rp.mono s a) (RpAll.mono s b)
end
theorem RpAll.length {F : Hp} : ∀ {ds : List PyData} {vs : List V}, RpAll F vs ds → vs.length = ds.length
  | [], _, .nil => rfl
  | _ :: _, _, .cons _ r => by simp [RpAll.length r]
theorem RpAll.get {F : Hp} : ∀ {ds : List PyData} {vs : List V} {i : Nat} {v : V}, RpAll F vs ds → vs[i]? = some v → ∃ d, ds[i]? = some d ∧ Rp F v d
  | _, _, i, _, .nil, e => by simp at e
  | _, _, 0, _, .cons r _, e => by simp at e; subst e; exact ⟨_, rfl, r⟩
  | _, _, i + 1, v, .cons _ t, e => by
    obtain ⟨d, h1, h2⟩ := RpAll.get (i := i) (v := v) t (by simpa using e)
    exact ⟨d, by simpa using h1, h2⟩
theorem RpAll.get' {F : Hp} : ∀ {ds : List PyData} {vs : List V} {i : Nat} {d : PyData}, RpAll F vs ds → ds[i]? = some d → ∃ v, vs[i]? = some v ∧ Rp F v d
  | _, _, i, _, .nil, e => by simp at e
  | _, _, 0, _, .cons r _, e => by simp at e; subst e; exact ⟨_, rfl, r⟩
  | _, _, i + 1, v, .cons _ t, e => by
    obtain ⟨d, h1, h2⟩ := RpAll.get' (i := i) (d := v) t (by simpa using e)
    exact ⟨d, by simpa using h1, h2⟩
theorem RpAll.append {F : Hp} : ∀ {ds es : List PyData} {vs ws : List V}, RpAll F vs ds → RpAll F ws es → RpAll F (vs ++ ws) (ds ++ es)
  | _, _, _, _, .nil, s => s
  | _, _, _, _, .cons r t, s => .cons r (RpAll.append t s)
theorem RpAll.take {F : Hp} : ∀ {ds : List PyData} {vs : List V} (n : Nat), RpAll F vs ds → RpAll F (vs.take n) (ds.take n)
  | _, _, 0, _ => .nil
  | _, _, _ + 1, .nil => .nil
  | _, _, n + 1, .cons r t => .cons r (RpAll.take n t)
theorem RpAll.drop {F : Hp} : ∀ {ds : List PyData} {vs : List V} (n : Nat), RpAll F vs ds → RpAll F (vs.drop n) (ds.drop n)
  | _, _, 0, r => r
  | _, _, _ + 1, .nil => .nil
  | _, _, n + 1, .cons _ t => RpAll.drop n t
theorem RpAll.set {F : Hp} {v : V} {d : PyData} (r : Rp F v d) : ∀ {ds : List PyData} {vs : List V} (i : Nat), RpAll F vs ds → RpAll F (vs.set i v) (ds.set i d)
  | _, _, _, .nil => .nil
  | _, _, 0, .cons _ t => .cons r t
  | _, _, i + 1, .cons q t => .cons q (RpAll.set r i t)
theorem RpAll.eraseIdx {F : Hp} : ∀ {ds : List PyData} {vs : List V} (i : Nat), RpAll F vs ds → RpAll F (vs.eraseIdx i) (ds.eraseIdx i)
  | _, _, _, .nil => .nil
  | _, _, 0, .cons _ t => t
  | _, _, i + 1, .cons q t => .cons q (RpAll.eraseIdx i t)
theorem RpAll.ints {F : Hp} : ∀ {ns : List Int} {vs : List V}, RpAll F vs (ns.map PyData.int) → vs = ns.map V.int
  | [], _, .nil => rfl
  | n :: ns, _, .cons r t => by cases r; simp [RpAll.ints t]
theorem RpAll.strs {F : Hp} : ∀ {ns : List Str} {vs : List V}, RpAll F vs (ns.map PyData.str) → vs = ns.map V.str
  | [], _, .nil => rfl
  | n :: ns, _, .cons r t => by cases r; simp [RpAll.strs t]
theorem RpAll.bools {F : Hp} : ∀ {ns : List Bool} {vs : List V}, RpAll F vs (ns.map PyData.bool) → vs = ns.map V.bl
  | [], _, .nil => rfl
  | n :: ns, _, .cons r t => by cases r; simp [RpAll.bools t]

/-- what is frozen stands in the heap (a dict may be locked by a walk) -/
def Sub (F H : Hp) : Prop := ∀ a o, F a = some o → H a = some o ∨ ((∃ w, o = .dK w) ∨ (∃ w, o = .dT w)) ∧ ∃ ob, H a = some (.frz ob o)
theorem Sub.rd {F H : Hp} (s : Sub F H) {a : Addr} {o : HO} (h : F a = some o) : Rd H a o := by
  rcases s a o h with e | ⟨_, ob, e⟩
  · exact .inl e
  · exact .inr ⟨ob, e⟩
theorem Sub.lst {F H : Hp} (s : Sub F H) {a : Addr} {xs : List V} (h : F a = some (.lst xs)) : H a = some (.lst xs) := by
  rcases s a _ h with e | ⟨⟨w, e⟩ | ⟨w, e⟩, _⟩
  · exact e
  · cases e
  · cases e
theorem Sub.tup {F H : Hp} (s : Sub F H) {a : Addr} {xs : List V} (h : F a = some (.tup xs)) : H a = some (.tup xs) := by
  rcases s a _ h with e | ⟨⟨w, e⟩ | ⟨w, e⟩, _⟩
  · exact e
  · cases e
  · cases e
theorem Sub.none {F H : Hp} (s : Sub F H) {a : Addr} (h : H a = none) : F a = none := by
  cases q : F a with
  | none => rfl
  | some o =>
    rcases s a o q with e | ⟨_, _, e⟩ <;> rw [h] at e <;> cases e
mutual
theorem Rp.dp {K : PySem.W.Frag} {F H : Hp} (s : Sub F H) : ∀ {d : PyData} {v : V}, Rp F v d → Dp K H v d
  | .none, _, h => by cases h; exact .non
  | .bool b, _, h => by cases h; exact .bl b
  | .int i, _, h => by cases h; exact .int i
  | .str x, _, h => by cases h; exact .str x
  | .list ds, _, h => by cases h with | lst e r => exact .lst (SqL.of (s.lst e)) (RpAll.dp s r)
  | .tuple ds, _, h => by cases h with | tup e r => exact .tup (SqT.of (s.tup e)) (RpAll.dp s r)
  | .dict _, _, h => by cases h
theorem RpAll.dp {K : PySem.W.Frag} {F H : Hp} (s : Sub F H) : ∀ {ds : List PyData} {vs : List V}, RpAll F vs ds → DpAll K H vs ds
  | [], _, h => by cases h; exact .nil
  | d :: ds, _, h => by cases h with | cons a b => exact .cons (Rp.dp s a) (RpAll.dp s b)
end

/-! ### containers -/
inductive Cont where
  | lst (ds : List PyData)
  | dk (kvs : List (Key × PyData))
  | dt (kvs : List (List Key × PyData))
/-- an exception that is held: its class, its one field -/
structure XD where
  C : Addr
  fld : Option (Str × PyData)
def XRp (F : Hp) (v : V) : XD → Prop
  | ⟨C, none⟩ => ∃ a : Addr, v = .ref a ∧ F a = some (exo a C none)
  | ⟨C, some (f, d)⟩ => ∃ (a dx : Addr) (w : V), v = .ref a ∧ F a = some (exo a C (some dx)) ∧ F dx = some (exd dx [(f, w)]) ∧ Rp F w d
theorem XRp.mono {F F' : Hp} (s : FSub F F') {v : V} : ∀ {e : XD}, XRp F v e → XRp F' v e
  | ⟨_, none⟩, ⟨a, e, h⟩ => ⟨a, e, s _ _ h⟩
  | ⟨_, some (_, _)⟩, ⟨a, dx, w, e, h, h2, r⟩ => ⟨a, dx, w, e, s _ _ h, s _ _ h2, r.mono s⟩
inductive XRpAll (F : Hp) : List V → List XD → Prop
  | nil : XRpAll F [] []
  | cons {v : V} {vs : List V} {e : XD} {es : List XD} : XRp F v e → XRpAll F vs es → XRpAll F (v :: vs) (e :: es)
theorem XRpAll.mono {F F' : Hp} (s : FSub F F') : ∀ {vs : List V} {es : List XD}, XRpAll F vs es → XRpAll F' vs es
  | _, _, .nil => .nil
  | _, _, .cons r t => .cons (r.mono s) (t.mono s)
inductive Val where
  | d (x : PyData)
  | c (x : Cont)
  | x (e : XD)
  | xs (es : List XD)
  /-- the script: a list that is locked -/
  | scr (ns : List Int)
inductive KRp {κ : Type} (F : Hp) : List (κ × V) → List (κ × PyData) → Prop
  | nil : KRp F [] []
  | cons {k : κ} {v : V} {d : PyData} {ws : List (κ × V)} {kvs : List (κ × PyData)} : Rp F v d → KRp F ws kvs → KRp F ((k, v) :: ws) ((k, d) :: kvs)
theorem KRp.mono {κ : Type} {F F' : Hp} (s : FSub F F') : ∀ {ws : List (κ × V)} {kvs : List (κ × PyData)}, KRp F ws kvs → KRp F' ws kvs
  | _, _, .nil => .nil
  | _, _, .cons r t => .cons (r.mono s) (KRp.mono s t)
theorem KRp.length {κ : Type} {F : Hp} : ∀ {ws : List (κ × V)} {kvs : List (κ × PyData)}, KRp F ws kvs → ws.length = kvs.length
  | _, _, .nil => rfl
  | _, _, .cons r t => by simp [KRp.length t]
def CRp (F : Hp) : Cont → HO → Prop
  | .lst ds, o => ∃ xs, o = .lst xs ∧ RpAll F xs ds
  | .dk kvs, o => ∃ ws, o = .dK ws ∧ KRp F ws kvs
  | .dt kvs, o => ∃ ws, o = .dT ws ∧ KRp F ws kvs
theorem CRp.mono {F F' : Hp} (s : FSub F F') : ∀ {c : Cont} {o : HO}, CRp F c o → CRp F' c o
  | .lst _, _, ⟨xs, e, r⟩ => ⟨xs, e, r.mono s⟩
  | .dk _, _, ⟨xs, e, r⟩ => ⟨xs, e, r.mono s⟩
  | .dt _, _, ⟨xs, e, r⟩ => ⟨xs, e, r.mono s⟩
def RpV (F : Hp) (v : V) : Val → Prop
  | .d x => Rp F v x
  | .c c => ∃ a o, v = .ref a ∧ F a = some o ∧ CRp F c o
  | .x e => XRp F v e
  | .xs es => ∃ a vs, v = .ref a ∧ F a = some (.lst vs) ∧ XRpAll F vs es
  | .scr ns => ∃ a ob, v = .ref a ∧ F a = some (.frz ob (.lst (ns.map V.int)))
theorem RpV.mono {F F' : Hp} (s : FSub F F') {v : V} : ∀ {x : Val}, RpV F v x → RpV F' v x
  | .d _, h => Rp.mono s h
  | .c _, ⟨a, o, e, h, r⟩ => ⟨a, o, e, s _ _ h, r.mono s⟩
  | .x _, h => XRp.mono s h
  | .xs _, ⟨a, vs, e, h, r⟩ => ⟨a, vs, e, s _ _ h, r.mono s⟩
  | .scr _, ⟨a, ob, e, h⟩ => ⟨a, ob, e, s _ _ h⟩

/-! ### the state of a def's run -/
inductive Slot where
  | non
  | val (x : Val)
  /-- a container that may be changed: made here (l) or handed in -/
  | own (l : Bool) (c : Cont)
/-- the entry: what is frozen, the heap, what may change, what is held from around, the addresses of what was handed in -/
structure En where
  F0 : Hp
  H0 : Hp
  P : Addr → Prop
  X : Addr → Prop
  Ad : Nat → Option Addr
  pH : ∀ a, P a → H0 a ≠ none
  xP : ∀ a, X a → P a
  aP : ∀ i a, Ad i = some a → P a
structure Sta (e : En) (F : Hp) (ρ : List Slot) (σ : L2.St) (H : Hp) : Prop where
  sub : Sub F H
  f0 : FSub e.F0 F
  new : ∀ a, F a ≠ none → e.F0 a ≠ none ∨ e.H0 a = none
  keep : ∀ a o, e.H0 a = some o → ¬ e.P a → H a = some o
  there : ∀ a, e.H0 a ≠ none → H a ≠ none
  len : σ.length = ρ.length
  val : ∀ (i : Nat) x, ρ[i]? = some (.val x) → ∃ v, σ[i]? = some (some v) ∧ RpV F v x
  own : ∀ (i : Nat) l c, ρ[i]? = some (.own l c) → ∃ a o, σ[i]? = some (some (.ref a)) ∧ F a = none ∧ H a = some o ∧ CRp F c o ∧ (e.H0 a = none ∨ e.P a) ∧ (if l = true then e.H0 a = none ∨ e.X a else e.Ad i = some a)
  sep : ∀ (i j : Nat) li lj ci cj, ρ[i]? = some (.own li ci) → ρ[j]? = some (.own lj cj) → i ≠ j → σ[i]? ≠ σ[j]?

/-- nothing or one new thing that is frozen at once -/
structure Al (F H F' H' : Hp) : Prop where
  f : FSub F F'
  h : FSub H H'
  sub : Sub F' H'
  new : ∀ a, F' a ≠ none → F a ≠ none ∨ H a = none
theorem Al.rfl {F H : Hp} (s : Sub F H) : Al F H F H := ⟨.rfl, .rfl, s, fun _ h => .inl h⟩
theorem Al.trans {F H F1 H1 F2 H2 : Hp} (a : Al F H F1 H1) (b : Al F1 H1 F2 H2) : Al F H F2 H2 :=
  ⟨a.f.trans b.f, a.h.trans b.h, b.sub, fun x h => by
    rcases b.new x h with q | q
    · exact a.new x q
    · refine .inr ?_
      cases z : H x with
      | none => rfl
      | some o => rw [a.h x o z] at q; cases q⟩
theorem Al.one {F H : Hp} (s : Sub F H) {p : Addr} {o : HO} (hp : H p = none) : Al F H (upd F p o) (upd H p o) where
  f := fun a u e => by rw [upd_ne (ne_of_none e (s.none hp))]; exact e
  h := fun a u e => by rw [upd_ne (ne_of_none e hp)]; exact e
  sub := fun a u e => by
    by_cases h : a = p
    · subst h; rw [upd_same] at e ⊢; exact .inl e
    · rw [upd_ne h] at e ⊢; exact s a u e
  new := fun a h => by
    by_cases q : a = p
    · subst q; exact .inr hp
    · rw [upd_ne q] at h; exact .inl h
theorem Sta.al {e : En} {F H F' H' : Hp} {ρ : List Slot} {σ : L2.St} (S : Sta e F ρ σ H) (A : Al F H F' H') : Sta e F' ρ σ H' where
  sub := A.sub
  f0 := S.f0.trans A.f
  new := fun a h => by
    rcases A.new a h with q | q
    · exact S.new a q
    · refine .inr ?_
      cases z : e.H0 a with
      | none => rfl
      | some o => exact absurd q (S.there a (by rw [z]; simp))
  keep := fun a o h hp => A.h a o (S.keep a o h hp)
  there := fun a h => by
    cases z : H a with
    | none => exact absurd z (S.there a h)
    | some o => rw [A.h a o z]; simp
  len := S.len
  val := fun i x h => by
    obtain ⟨v, e1, r⟩ := S.val i x h
    exact ⟨v, e1, r.mono A.f⟩
  own := fun i l c h => by
    obtain ⟨a, o, e1, e2, e3, r, q⟩ := S.own i l c h
    refine ⟨a, o, e1, ?_, A.h _ _ e3, r.mono A.f, q⟩
    cases z : F' a with
    | none => rfl
    | some u =>
      rcases A.new a (by rw [z]; simp) with q | q
      · exact absurd e2 q
      · rw [q] at e3; cases e3
  sep := S.sep
/-- a new thing of one's own -/
theorem Sta.alloc {e : En} {F H : Hp} {ρ : List Slot} {σ : L2.St} (S : Sta e F ρ σ H) {p : Addr} {o : HO} (hp : H p = none) : Sta e F ρ σ (upd H p o) where
  sub := fun a u h => by rw [upd_ne (ne_of_none h (S.sub.none hp))]; exact S.sub a u h
  f0 := S.f0
  new := S.new
  keep := fun a u h q => by
    have z := S.keep a u h q
    rw [upd_ne (ne_of_none z hp)]; exact z
  there := fun a h => by
    by_cases q : a = p
    · subst q; rw [upd_same]; simp
    · rw [upd_ne q]; exact S.there a h
  len := S.len
  val := S.val
  own := fun i l c h => by
    obtain ⟨a, u, e1, e2, e3, r, q⟩ := S.own i l c h
    exact ⟨a, u, e1, e2, by rw [upd_ne (ne_of_none e3 hp)]; exact e3, r, q⟩
  sep := S.sep
theorem Sta.h0 {e : En} {F H : Hp} {ρ : List Slot} {σ : L2.St} (S : Sta e F ρ σ H) {p : Addr} (hp : H p = none) : e.H0 p = none := by
  cases z : e.H0 p with
  | none => rfl
  | some o => exact absurd hp (S.there p (by rw [z]; simp))
theorem get_set {α : Type} {l : List α} {i j : Nat} {x y : α} (h : (l.set i x)[j]? = some y) : (i = j ∧ y = x ∧ i < l.length) ∨ (i ≠ j ∧ l[j]? = some y) := by
  by_cases q : i = j
  · subst q
    rw [List.getElem?_set_self'] at h
    cases z : l[i]? with
    | none => rw [z] at h; cases h
    | some w =>
      rw [z] at h
      exact .inl ⟨rfl, (Option.some.inj h).symm, (List.getElem?_eq_some_iff.mp z).1⟩
  · rw [List.getElem?_set_ne q] at h
    exact .inr ⟨q, h⟩
/-- a slot holds data -/
theorem Sta.setV {e : En} {F H : Hp} {ρ : List Slot} {σ : L2.St} (S : Sta e F ρ σ H) (i : Nat) {x : Val} {v : V} (r : RpV F v x) : Sta e F (ρ.set i (.val x)) (σ.set i (some v)) H where
  sub := S.sub
  f0 := S.f0
  new := S.new
  keep := S.keep
  there := S.there
  len := by rw [List.length_set, List.length_set]; exact S.len
  val := fun j y h => by
    rcases get_set h with ⟨rfl, e1, hl⟩ | ⟨hn, e1⟩
    · cases e1
      exact ⟨v, by rw [List.getElem?_set_self (by rw [S.len]; exact hl)], r⟩
    · rw [List.getElem?_set_ne hn]; exact S.val j y e1
  own := fun j l c h => by
    rcases get_set h with ⟨rfl, e1, hl⟩ | ⟨hn, e1⟩
    · cases e1
    · rw [List.getElem?_set_ne hn]; exact S.own j l c e1
  sep := fun j k lj lk cj ck h1 h2 hn => by
    rcases get_set h1 with ⟨_, e1, _⟩ | ⟨n1, e1⟩
    · cases e1
    rcases get_set h2 with ⟨_, e2, _⟩ | ⟨n2, e2⟩
    · cases e2
    rw [List.getElem?_set_ne n1, List.getElem?_set_ne n2]
    exact S.sep j k lj lk cj ck e1 e2 hn
/-- a slot is emptied -/
theorem Sta.setN {e : En} {F H : Hp} {ρ : List Slot} {σ : L2.St} (S : Sta e F ρ σ H) (i : Nat) {w : Option V} : Sta e F (ρ.set i .non) (σ.set i w) H where
  sub := S.sub
  f0 := S.f0
  new := S.new
  keep := S.keep
  there := S.there
  len := by rw [List.length_set, List.length_set]; exact S.len
  val := fun j y h => by
    rcases get_set h with ⟨rfl, e1, hl⟩ | ⟨hn, e1⟩
    · cases e1
    · rw [List.getElem?_set_ne hn]; exact S.val j y e1
  own := fun j l c h => by
    rcases get_set h with ⟨rfl, e1, hl⟩ | ⟨hn, e1⟩
    · cases e1
    · rw [List.getElem?_set_ne hn]; exact S.own j l c e1
  sep := fun j k lj lk cj ck h1 h2 hn => by
    rcases get_set h1 with ⟨_, e1, _⟩ | ⟨n1, e1⟩
    · cases e1
    rcases get_set h2 with ⟨_, e2, _⟩ | ⟨n2, e2⟩
    · cases e2
    rw [List.getElem?_set_ne n1, List.getElem?_set_ne n2]
    exact S.sep j k lj lk cj ck e1 e2 hn
/-- a slot holds a new thing of one's own -/
theorem Sta.setO {e : En} {F H : Hp} {ρ : List Slot} {σ : L2.St} (S : Sta e F ρ σ H) (i : Nat) {c : Cont} {a : Addr} {o : HO} (hF : F a = none) (hH : H a = some o) (r : CRp F c o) (q : e.H0 a = none)
    (hs : ∀ (j : Nat) l c', ρ[j]? = some (.own l c') → σ[j]? ≠ some (some (.ref a))) : Sta e F (ρ.set i (.own true c)) (σ.set i (some (.ref a))) H where
  sub := S.sub
  f0 := S.f0
  new := S.new
  keep := S.keep
  there := S.there
  len := by rw [List.length_set, List.length_set]; exact S.len
  val := fun j y h => by
    rcases get_set h with ⟨rfl, e1, hl⟩ | ⟨hn, e1⟩
    · cases e1
    · rw [List.getElem?_set_ne hn]; exact S.val j y e1
  own := fun j l c h => by
    rcases get_set h with ⟨rfl, e1, hl⟩ | ⟨hn, e1⟩
    · cases e1
      exact ⟨a, o, by rw [List.getElem?_set_self (by rw [S.len]; exact hl)], hF, hH, r, .inl q, by rw [if_pos rfl]; exact .inl q⟩
    · rw [List.getElem?_set_ne hn]; exact S.own j l c e1
  sep := fun j k lj lk cj ck h1 h2 hn => by
    rcases get_set h1 with ⟨rfl, e1, l1⟩ | ⟨n1, e1⟩
    · rcases get_set h2 with ⟨e, _⟩ | ⟨n2, e2⟩
      · exact absurd e hn
      · rw [List.getElem?_set_self (by rw [S.len]; exact l1), List.getElem?_set_ne n2]
        exact fun z => hs k lk ck e2 z.symm
    · rcases get_set h2 with ⟨rfl, e2, l2⟩ | ⟨n2, e2⟩
      · rw [List.getElem?_set_self (by rw [S.len]; exact l2), List.getElem?_set_ne n1]
        exact fun z => hs j lj cj e1 z
      · rw [List.getElem?_set_ne n1, List.getElem?_set_ne n2]
        exact S.sep j k lj lk cj ck e1 e2 hn
/-- a thing of one's own changes -/
theorem Sta.mut {e : En} {F H : Hp} {ρ : List Slot} {σ : L2.St} (S : Sta e F ρ σ H) {i : Nat} {l : Bool} {c c' : Cont} {a : Addr} {o' : HO} (hi : ρ[i]? = some (.own l c)) (ha : σ[i]? = some (some (.ref a))) (r : CRp F c' o') : Sta e F (ρ.set i (.own l c')) σ (upd H a o') := by
  obtain ⟨a', o, e1, e2, e3, r0, q, ql⟩ := S.own i l c hi
  rw [ha] at e1
  cases e1
  have hil : i < ρ.length := (List.getElem?_eq_some_iff.mp hi).1
  exact {
    sub := fun b u h => by rw [upd_ne (ne_of_none h e2)]; exact S.sub b u h
    f0 := S.f0
    new := S.new
    keep := fun b u h hp => by
      have z : b ≠ a := fun z => by
        subst z
        rcases q with q | q
        · rw [h] at q; cases q
        · exact hp q
      rw [upd_ne z]; exact S.keep b u h hp
    there := fun b h => by
      by_cases z : b = a
      · subst z; rw [upd_same]; simp
      · rw [upd_ne z]; exact S.there b h
    len := by rw [List.length_set]; exact S.len
    val := fun j y h => by
      rcases get_set h with ⟨rfl, e1, hl⟩ | ⟨hn, e1⟩
      · cases e1
      · exact S.val j y e1
    own := fun j lj cj h => by
      rcases get_set h with ⟨rfl, e1, hl⟩ | ⟨hn, e1⟩
      · cases e1
        exact ⟨a, o', ha, e2, upd_same, r, q, ql⟩
      · obtain ⟨b, u, f1, f2, f3, fr, fq⟩ := S.own j lj cj e1
        have z : b ≠ a := fun z => by
          subst z
          exact S.sep i j l lj c cj hi e1 hn (by rw [ha, f1])
        exact ⟨b, u, f1, f2, by rw [upd_ne z]; exact f3, fr, fq⟩
    sep := fun j k lj lk cj ck h1 h2 hn => by
      have k1 : ∃ l1 c1, ρ[j]? = some (.own l1 c1) := by
        rcases get_set h1 with ⟨rfl, _, _⟩ | ⟨_, e1⟩
        · exact ⟨_, _, hi⟩
        · exact ⟨_, _, e1⟩
      have k2 : ∃ l1 c1, ρ[k]? = some (.own l1 c1) := by
        rcases get_set h2 with ⟨rfl, _, _⟩ | ⟨_, e1⟩
        · exact ⟨_, _, hi⟩
        · exact ⟨_, _, e1⟩
      obtain ⟨l1, c1, z1⟩ := k1
      obtain ⟨l2, c2, z2⟩ := k2
      exact S.sep j k l1 l2 c1 c2 z1 z2 hn }
/-- forgetting -/
def Le (ρ ρ' : List Slot) : Prop := ρ.length = ρ'.length ∧ ∀ (i : Nat) s, ρ'[i]? = some s → s = .non ∨ ρ[i]? = some s
theorem Le.rfl {ρ : List Slot} : Le ρ ρ := ⟨Eq.refl _, fun _ _ h => .inr h⟩
theorem Sta.le {e : En} {F H : Hp} {ρ ρ' : List Slot} {σ : L2.St} (S : Sta e F ρ σ H) (l : Le ρ ρ') : Sta e F ρ' σ H where
  sub := S.sub
  f0 := S.f0
  new := S.new
  keep := S.keep
  there := S.there
  len := by rw [S.len, l.1]
  val := fun i x h => by
    rcases l.2 i _ h with z | z
    · cases z
    · exact S.val i x z
  own := fun i lb x h => by
    rcases l.2 i _ h with z | z
    · cases z
    · exact S.own i lb x z
  sep := fun i j li lj ci cj h1 h2 => by
    rcases l.2 i _ h1 with z | z
    · cases z
    rcases l.2 j _ h2 with z2 | z2
    · cases z2
    exact S.sep i j li lj ci cj z z2
/-- something of one's own that stands apart from the slots is frozen -/
theorem Sta.frz {e : En} {F H : Hp} {ρ : List Slot} {σ : L2.St} (S : Sta e F ρ σ H) {a : Addr} {o : HO} (e1 : F a = none) (e2 : H a = some o) (e3 : e.H0 a = none) (hs : ∀ (j : Nat) l c', ρ[j]? = some (.own l c') → σ[j]? ≠ some (some (.ref a))) :
    FSub F (upd F a o) ∧ Sta e (upd F a o) ρ σ H := by
  have fs : FSub F (upd F a o) := fun b u h => by rw [upd_ne (ne_of_none h e1)]; exact h
  refine ⟨fs, ?_⟩
  exact {
    sub := fun b u h => by
      by_cases z : b = a
      · subst z; rw [upd_same] at h; cases h; exact .inl e2
      · rw [upd_ne z] at h; exact S.sub b u h
    f0 := S.f0.trans fs
    new := fun b h => by
      by_cases z : b = a
      · subst z; exact .inr e3
      · rw [upd_ne z] at h; exact S.new b h
    keep := S.keep
    there := S.there
    len := S.len
    val := fun j y h => by
      obtain ⟨v, f1, f2⟩ := S.val j y h
      exact ⟨v, f1, f2.mono fs⟩
    own := fun j l cj h => by
      obtain ⟨b, u, f1, f2, f3, fr, fq⟩ := S.own j l cj h
      have z : b ≠ a := fun z => by
        subst z
        exact hs j l cj h f1
      exact ⟨b, u, f1, by rw [upd_ne z]; exact f2, f3, fr.mono fs, fq⟩
    sep := S.sep }
theorem le_set (ρ : List Slot) (i : Nat) : Le ρ (ρ.set i .non) := by
  refine ⟨by simp, fun j s h => ?_⟩
  rcases get_set h with ⟨_, e, _⟩ | ⟨_, e⟩
  · exact .inl e
  · exact .inr e
/-- a slot's own thing is frozen -/
theorem Sta.freeze {e : En} {F H : Hp} {ρ : List Slot} {σ : L2.St} (S : Sta e F ρ σ H) {i : Nat} {c : Cont} (hi : ρ[i]? = some (.own true c)) (hX : ∀ a, ¬ e.X a) :
    ∃ F', FSub F F' ∧ Sta e F' (ρ.set i (.val (.c c))) σ H := by
  obtain ⟨a, o, ha, e2, e3, r, q, ql⟩ := S.own i true c hi
  rw [if_pos rfl] at ql
  have hq : e.H0 a = none := by
    rcases ql with z | z
    · exact z
    · exact absurd z (hX a)
  have S1 : Sta e F (ρ.set i .non) σ H := S.le (le_set ρ i)
  have hs : ∀ (j : Nat) l c', (ρ.set i .non)[j]? = some (.own l c') → σ[j]? ≠ some (some (.ref a)) := fun j l c' h z => by
    rcases get_set h with ⟨_, e, _⟩ | ⟨n, e⟩
    · cases e
    · exact S.sep i j true l c c' hi e n (by rw [ha, z])
  obtain ⟨fs, S2⟩ := S1.frz e2 e3 hq hs
  refine ⟨_, fs, ?_⟩
  have S3 := S2.setV i (x := .c c) (v := .ref a) ⟨a, o, rfl, upd_same, r.mono fs⟩
  rw [List.set_set] at S3
  have : σ.set i (some (.ref a)) = σ := by
    apply List.ext_getElem?
    intro j
    by_cases z : i = j
    · subst z
      rw [List.getElem?_set_self (List.getElem?_eq_some_iff.mp ha).1, ha]
    · rw [List.getElem?_set_ne z]
  rw [this] at S3
  exact S3
theorem RpV.lst {F : Hp} {v : V} {ds : List PyData} : RpV F v (.c (.lst ds)) → RpV F v (.d (.list ds)) := fun ⟨a, o, e, h, xs, e1, r⟩ => by
  subst e; subst e1; exact Rp.lst h r
theorem RpV.lst' {F : Hp} {v : V} {ds : List PyData} : RpV F v (.d (.list ds)) → RpV F v (.c (.lst ds)) := fun h => by
  cases h with | lst e r => exact ⟨_, _, rfl, e, _, rfl, r⟩
/-- one def's state seen from within a part of it: all that the slots don't own is kept -/
def Sta.sub_en {e : En} {F H : Hp} {ρ : List Slot} {σ : L2.St} (S : Sta e F ρ σ H) : En where
  F0 := F
  H0 := H
  P := fun a => e.P a ∨ ∃ (i : Nat) (l : Bool) (c : Cont), ρ[i]? = some (.own l c) ∧ σ[i]? = some (some (.ref a))
  X := fun a => ∃ (i : Nat) (c : Cont), ρ[i]? = some (.own true c) ∧ σ[i]? = some (some (.ref a))
  Ad := e.Ad
  pH := fun a h => by
    rcases h with h | ⟨i, l, c, h1, h2⟩
    · exact S.there a (e.pH a h)
    · obtain ⟨b, o, e1, _, e3, _⟩ := S.own i l c h1
      rw [h2] at e1; cases e1; rw [e3]; simp
  xP := fun a ⟨i, c, h1, h2⟩ => .inr ⟨i, true, c, h1, h2⟩
  aP := fun i a h => .inl (e.aP i a h)
theorem Sta.enter {e : En} {F H : Hp} {ρ : List Slot} {σ : L2.St} (S : Sta e F ρ σ H) : Sta S.sub_en F ρ σ H where
  sub := S.sub
  f0 := .rfl
  new := fun a h => .inl h
  keep := fun a o h _ => h
  there := fun a h => h
  len := S.len
  val := S.val
  own := fun i l c h => by
    obtain ⟨a, o, e1, e2, e3, r, q, ql⟩ := S.own i l c h
    refine ⟨a, o, e1, e2, e3, r, .inr (.inr ⟨i, l, c, h, e1⟩), ?_⟩
    cases l with
    | true => rw [if_pos rfl]; exact .inr ⟨i, c, h, e1⟩
    | false => rw [if_neg (by decide)] at ql ⊢; exact ql
  sep := S.sep
/-- back -/
theorem Sta.leave {e : En} {F H F' H' : Hp} {ρ ρ' : List Slot} {σ σ' : L2.St} (S : Sta e F ρ σ H) (T : Sta S.sub_en F' ρ' σ' H') : Sta e F' ρ' σ' H' where
  sub := T.sub
  f0 := S.f0.trans T.f0
  new := fun a h => by
    rcases T.new a h with q | q
    · exact S.new a q
    · exact .inr (S.h0 q)
  keep := fun a o h hp => by
    refine T.keep a o (S.keep a o h hp) ?_
    rintro (z | ⟨i, l, c, h1, h2⟩)
    · exact hp z
    · obtain ⟨b, u, e1, _, _, _, q, _⟩ := S.own i l c h1
      rw [h2] at e1; cases e1
      rcases q with q | q
      · rw [h] at q; cases q
      · exact hp q
  there := fun a h => T.there a (S.there a h)
  len := T.len
  val := T.val
  own := fun i l c h => by
    obtain ⟨a, o, e1, e2, e3, r, q, ql⟩ := T.own i l c h
    have key : (∃ (i : Nat) (l : Bool) (c : Cont), ρ[i]? = some (.own l c) ∧ σ[i]? = some (some (.ref a))) → e.H0 a = none ∨ e.P a := fun ⟨j, lj, cj, h1, h2⟩ => by
      obtain ⟨b, u, f1, _, _, _, q, _⟩ := S.own j lj cj h1
      rw [h2] at f1; cases f1; exact q
    refine ⟨a, o, e1, e2, e3, r, ?_, ?_⟩
    · rcases q with q | q | q
      · exact .inl (S.h0 q)
      · exact .inr q
      · exact key q
    · cases l with
      | true =>
        rw [if_pos rfl] at ql ⊢
        rcases ql with q | ⟨j, cj, h1, h2⟩
        · exact .inl (S.h0 q)
        · obtain ⟨b, u, f1, _, _, _, _, z⟩ := S.own j true cj h1
          rw [h2] at f1; cases f1
          rw [if_pos rfl] at z; exact z
      | false => rw [if_neg (by decide)] at ql ⊢; exact ql
  sep := T.sep
/-- what stands apart is kept -/
theorem Sta.apart {e : En} {F H F' H' : Hp} {ρ ρ' : List Slot} {σ σ' : L2.St} (S : Sta e F ρ σ H) (T : Sta S.sub_en F' ρ' σ' H') {a : Addr} {o : HO} (h : H a = some o) (hp : e.H0 a = none) (hs : ∀ (j : Nat) l c', ρ[j]? = some (.own l c') → σ[j]? ≠ some (some (.ref a))) :
    H' a = some o ∧ (F a = none → F' a = none) := by
  refine ⟨T.keep a o h ?_, fun z => ?_⟩
  · rintro (z | ⟨i, l, c, h1, h2⟩)
    · exact e.pH a z hp
    · exact hs i l c h1 h2
  · cases y : F' a with
    | none => rfl
    | some u =>
      rcases T.new a (by rw [y]; simp) with q | q
      · exact absurd z q
      · have q : H a = none := q
        rw [h] at q; cases q

/-! ### what a reading comes to -/
inductive Out where
  | nx (ρ : List Slot)
  | rt (x : Val) (ρ : List Slot)
  | ro (c : Cont) (ρ : List Slot)
  | bk (ρ : List Slot)
  | ct (ρ : List Slot)
def Fin (e : En) (F : Hp) (D : Ends) : Out → Prop
  | .nx ρ => ∀ F' σ H, FSub F F' → Sta e F' ρ σ H → D.nx σ H
  | .bk ρ => ∀ F' σ H, FSub F F' → Sta e F' ρ σ H → D.bk σ H
  | .ct ρ => ∀ F' σ H, FSub F F' → Sta e F' ρ σ H → D.ct σ H
  | .rt x ρ => ∀ F' σ H v, FSub F F' → Sta e F' ρ σ H → RpV F' v x → D.rt v H
  | .ro c ρ => ∀ F' σ H a o, FSub F F' → Sta e F' ρ σ H → F' a = none → H a = some o → CRp F' c o → e.H0 a = none → D.rt (.ref a) H
theorem Fin.mono {e : En} {F F' : Hp} {D : Ends} (s : FSub F F') : ∀ {o : Out}, Fin e F D o → Fin e F' D o
  | .nx _, h => fun G σ H f S => h G σ H (s.trans f) S
  | .bk _, h => fun G σ H f S => h G σ H (s.trans f) S
  | .ct _, h => fun G σ H f S => h G σ H (s.trans f) S
  | .rt _ _, h => fun G σ H v f S r => h G σ H v (s.trans f) S r
  | .ro _ _, h => fun G σ H a o f S => h G σ H a o (s.trans f) S
def WP (t : TS) (ρ : List Slot) (P : Out → Prop) : Prop := ∀ e F σ H D, (∀ a, ¬ En.X e a) → Sta e F ρ σ H → (∀ o, P o → Fin e F D o) → t D σ H
def EV (t : TE) (ρ : List Slot) (x : Val) (ρ' : List Slot) : Prop := ∀ e F σ H (Q : VK), Sta e F ρ σ H → (∀ F' H' v, FSub F F' → Sta e F' ρ' σ H' → RpV F' v x → Q v H') → t σ H Q
def EO (t : TE) (ρ : List Slot) (c : Cont) (ρ' : List Slot) : Prop := ∀ e F σ H (Q : VK), Sta e F ρ σ H →
  (∀ F' H' a o, FSub F F' → Sta e F' ρ' σ H' → F' a = none → H' a = some o → CRp F' c o → e.H0 a = none → (∀ (j : Nat) l c', ρ'[j]? = some (.own l c') → σ[j]? ≠ some (some (.ref a))) → Q (.ref a) H') → t σ H Q
/-- a container that is looked at -/
def EW (t : TE) (ρ : List Slot) (c : Cont) (ρ' : List Slot) : Prop := ∀ e F σ H (Q : VK), Sta e F ρ σ H → (∀ F' H' a o, FSub F F' → Sta e F' ρ' σ H' → Rd H' a o → CRp F' c o → Q (.ref a) H') → t σ H Q
def ET (t : TT) (ρ : List Slot) (b : Bool) (ρ' : List Slot) : Prop := ∀ e F σ H (Q : Bool → Hp → Prop), Sta e F ρ σ H → (∀ F' H', FSub F F' → Sta e F' ρ' σ H' → Q b H') → t σ H Q
inductive Src where
  | d (x : Val)
  | s (i : Nat)
def SrcRp (F : Hp) (σ : L2.St) : Src → V → Prop
  | .d x, v => RpV F v x
  | .s i, v => σ[i]? = some (some v)
inductive Srcs (F : Hp) (σ : L2.St) : List Src → List V → Prop
  | nil : Srcs F σ [] []
  | cons {s : Src} {v : V} {ss : List Src} {vs : List V} : SrcRp F σ s v → Srcs F σ ss vs → Srcs F σ (s :: ss) (v :: vs)
def EA (t : TA) (ρ : List Slot) (ss : List Src) (ρ' : List Slot) : Prop := ∀ e F σ H (Q : List V → Hp → Prop), Sta e F ρ σ H → (∀ F' H' vs, FSub F F' → Sta e F' ρ' σ H' → Srcs F' σ ss vs → Q vs H') → t σ H Q
theorem SrcRp.mono {F F' : Hp} {σ : L2.St} (f : FSub F F') : ∀ {s : Src} {v : V}, SrcRp F σ s v → SrcRp F' σ s v
  | .d _, _, h => RpV.mono f h
  | .s _, _, h => h
theorem Srcs.mono {F F' : Hp} {σ : L2.St} (f : FSub F F') : ∀ {ss : List Src} {vs : List V}, Srcs F σ ss vs → Srcs F' σ ss vs
  | _, _, .nil => .nil
  | _, _, .cons a b => .cons (a.mono f) (b.mono f)
theorem Srcs.data {F : Hp} {σ : L2.St} : ∀ {ds : List PyData} {vs : List V}, Srcs F σ (ds.map fun d => Src.d (.d d)) vs → RpAll F vs ds
  | [], _, .nil => .nil
  | _ :: _, _, .cons a b => .cons a b.data

variable {ρ ρ1 ρ2 ρ3 : List Slot} {ta tb : TE} {x y z : Val} {P : Out → Prop}
theorem EV.le (h : EV ta ρ x ρ1) (l : Le ρ1 ρ2) : EV ta ρ x ρ2 := fun e F σ H Q S k => h e F σ H Q S fun F' H' v f S' r => k F' H' v f (S'.le l) r
theorem ev_var {i : Nat} (h : ρ[i]? = some (.val x)) : EV (tVar i) ρ x ρ := fun e F σ H Q S k => by
  obtain ⟨v, e1, r⟩ := S.val i x h
  exact ⟨v, e1, k F H v .rfl S r⟩
theorem ew_var {i : Nat} {l : Bool} {c : Cont} (h : ρ[i]? = some (.own l c)) : EW (tVar i) ρ c ρ := fun e F σ H Q S k => by
  obtain ⟨a, o, e1, e2, e3, r, q⟩ := S.own i l c h
  exact ⟨.ref a, e1, k F H a o .rfl S (.inl e3) r⟩
theorem EV.w {c : Cont} (h : EV ta ρ (.c c) ρ1) : EW ta ρ c ρ1 := fun e F σ H Q S k => h e F σ H Q S fun F' H' v f S' ⟨a, o, e1, e2, r⟩ => by
  subst e1
  exact k F' H' a o f S' (S'.sub.rd e2) r
theorem EV.wl {ds : List PyData} (h : EV ta ρ (.d (.list ds)) ρ1) : EW ta ρ (.lst ds) ρ1 := EV.w fun e F σ H Q S k => h e F σ H Q S fun F' H' v f S' r => k F' H' v f S' r.lst'
theorem EO.w {c : Cont} (h : EO ta ρ c ρ1) : EW ta ρ c ρ1 := fun e F σ H Q S k => h e F σ H Q S fun F' H' a o f S' _ e2 r _ _ => k F' H' a o f S' (.inl e2) r
theorem EO.v {c : Cont} (h : EO ta ρ c ρ1) : EV ta ρ (.c c) ρ1 := fun e F σ H Q S k => h e F σ H Q S fun F' H' a o f S' e1 e2 r e3 hs => by
  obtain ⟨fs, S2⟩ := S'.frz e1 e2 e3 hs
  exact k (upd F' a o) H' _ (f.trans fs) S2 ⟨a, o, rfl, upd_same, r.mono fs⟩
theorem EO.vl {ds : List PyData} (h : EO ta ρ (.lst ds) ρ1) : EV ta ρ (.d (.list ds)) ρ1 := fun e F σ H Q S k => h.v e F σ H Q S fun F' H' v f S' r => k F' H' v f S' r.lst
/-- constants -/
theorem ev_int {i : Int} : EV (tC (.int i)) ρ (.d (.int i)) ρ := fun e F σ H Q S k => k F H _ .rfl S (.int i)
theorem ev_bl {b : Bool} : EV (tC (.bl b)) ρ (.d (.bool b)) ρ := fun e F σ H Q S k => k F H _ .rfl S (.bl b)
theorem ev_non : EV (tC .non) ρ (.d .none) ρ := fun e F σ H Q S k => k F H _ .rfl S .non
theorem ev_str {s : Str} : EV (tC (.str s)) ρ (.d (.str s)) ρ := fun e F σ H Q S k => k F H _ .rfl S (.str s)
/-! ### operations by value -/
def OpD (r : R2) (a b c : PyData) : Prop := ∀ F H (Q : VK) v w, Sub F H → Rp F v a → Rp F w b → (∀ F' H' u, Al F H F' H' → Rp F' u c → Q u H') → r v w H Q
def UnD (r : V → Hp → VK → Prop) (a c : PyData) : Prop := ∀ F H (Q : VK) v, Sub F H → Rp F v a → (∀ F' H' u, Al F H F' H' → Rp F' u c → Q u H') → r v H Q
def CallD (r : List V → Hp → VK → Prop) (as : List PyData) (c : PyData) : Prop := ∀ F H (Q : VK) vs, Sub F H → RpAll F vs as → (∀ F' H' u, Al F H F' H' → Rp F' u c → Q u H') → r vs H Q
def CallW (r : List V → Hp → VK → Prop) (c : Cont) (d : PyData) : Prop := ∀ F H (Q : VK) a o, Sub F H → Rd H a o → CRp F c o → (∀ F' H' u, Al F H F' H' → Rp F' u d → Q u H') → r [.ref a] H Q
theorem ev_op {r : R2} {a b c : PyData} (h1 : EV ta ρ (.d a) ρ1) (h2 : EV tb ρ1 (.d b) ρ2) (h : OpD r a b c) : EV (tOp r ta tb) ρ (.d c) ρ2 := fun e F σ H Q S k =>
  h1 e F σ H _ S fun F1 H1 v f1 S1 r1 => h2 e F1 σ H1 _ S1 fun F2 H2 w f2 S2 r2 => h F2 H2 Q v w S2.sub (Rp.mono f2 r1) r2 fun F3 H3 u A r3 => k F3 H3 u ((f1.trans f2).trans A.f) (S2.al A) r3
theorem ev_un {r : V → Hp → VK → Prop} {a c : PyData} (h1 : EV ta ρ (.d a) ρ1) (h : UnD r a c) : EV (tUn r ta) ρ (.d c) ρ1 := fun e F σ H Q S k =>
  h1 e F σ H _ S fun F1 H1 v f1 S1 r1 => h F1 H1 Q v S1.sub r1 fun F3 H3 u A r3 => k F3 H3 u (f1.trans A.f) (S1.al A) r3
theorem ea_nil : EA tNil ρ [] ρ := fun e F σ H Q S k => k F H [] .rfl S .nil
theorem ea_cons {t : TA} {ss : List Src} (h1 : EV ta ρ x ρ1) (h2 : EA t ρ1 ss ρ2) : EA (tCons ta t) ρ (.d x :: ss) ρ2 := fun e F σ H Q S k =>
  h1 e F σ H _ S fun F1 H1 v f1 S1 r1 => h2 e F1 σ H1 _ S1 fun F2 H2 vs f2 S2 r2 => k F2 H2 (v :: vs) (f1.trans f2) S2 (.cons (RpV.mono f2 r1) r2)
theorem ea_ref {t : TA} {ss : List Src} {i : Nat} {l : Bool} {c : Cont} (h1 : ρ[i]? = some (.own l c)) (h2 : EA t ρ ss ρ2) : EA (tCons (tVar i) t) ρ (.s i :: ss) ρ2 := fun e F σ H Q S k => by
  obtain ⟨a, o, e1, _⟩ := S.own i l c h1
  exact ⟨.ref a, e1, h2 e F σ H _ S fun F2 H2 vs f2 S2 r2 => k F2 H2 (.ref a :: vs) f2 S2 (.cons e1 r2)⟩
theorem ev_cb {r : List V → Hp → VK → Prop} {t : TA} {as : List PyData} {c : PyData} (h1 : EA t ρ (as.map fun d => Src.d (.d d)) ρ1) (h : CallD r as c) : EV (tCB r t) ρ (.d c) ρ1 := fun e F σ H Q S k =>
  h1 e F σ H _ S fun F1 H1 vs f1 S1 r1 => h F1 H1 Q vs S1.sub r1.data fun F3 H3 u A r3 => k F3 H3 u (f1.trans A.f) (S1.al A) r3
theorem ev_cb1 {r : List V → Hp → VK → Prop} {a c : PyData} (h1 : EV ta ρ (.d a) ρ1) (h : CallD r [a] c) : EV (tCB r (tCons ta tNil)) ρ (.d c) ρ1 := ev_cb (as := [a]) (ea_cons h1 ea_nil) h
theorem ev_cb2 {r : List V → Hp → VK → Prop} {a b c : PyData} (h1 : EV ta ρ (.d a) ρ1) (h2 : EV tb ρ1 (.d b) ρ2) (h : CallD r [a, b] c) : EV (tCB r (tCons ta (tCons tb tNil))) ρ (.d c) ρ2 := ev_cb (as := [a, b]) (ea_cons h1 (ea_cons h2 ea_nil)) h
theorem ev_cw {r : List V → Hp → VK → Prop} {c : Cont} {d : PyData} (h1 : EW ta ρ c ρ1) (h : CallW r c d) : EV (tCB r (tCons ta tNil)) ρ (.d d) ρ1 := fun e F σ H Q S k =>
  h1 e F σ H _ S fun F1 H1 a o f1 S1 r1 q => h F1 H1 Q a o S1.sub r1 q fun F3 H3 u A r3 => k F3 H3 u (f1.trans A.f) (S1.al A) r3
/-- tests -/
theorem et_test {b : Bool} (h : EV ta ρ (.d (.bool b)) ρ1) : ET (tTest ta) ρ b ρ1 := fun e F σ H Q S k => h e F σ H _ S fun F' H' v f S' r => by cases r; exact ⟨b, rfl, k F' H' f S'⟩
theorem et_b {b : Bool} (h : EV ta ρ (.d (.bool b)) ρ1) : ET (tB ta) ρ b ρ1 := fun e F σ H Q S k => h e F σ H _ S fun F' H' v f S' r => by cases r; exact ⟨b, rfl, k F' H' f S'⟩
theorem et_not {t : TT} {b : Bool} (h : ET t ρ b ρ1) : ET (tNot t) ρ (!b) ρ1 := fun e F σ H Q S k => h e F σ H _ S fun F' H' f S' => k F' H' f S'
theorem et_and {t u : TT} {a b : Bool} (h1 : ET t ρ a ρ1) (h2 : a = true → ET u ρ1 b ρ2) : ET (tAnd t u) ρ (a && b) (bif a then ρ2 else ρ1) := fun e F σ H Q S k => h1 e F σ H _ S fun F1 H1 f1 S1 => by
  cases a with
  | true => rw [if_pos rfl]; exact h2 rfl e F1 σ H1 Q S1 fun F2 H2 f2 S2 => k F2 H2 (f1.trans f2) S2
  | false => rw [if_neg (by decide)]; exact k F1 H1 f1 S1
theorem et_or {t u : TT} {a b : Bool} (h1 : ET t ρ a ρ1) (h2 : a = false → ET u ρ1 b ρ2) : ET (tOr t u) ρ (a || b) (bif a then ρ1 else ρ2) := fun e F σ H Q S k => h1 e F σ H _ S fun F1 H1 f1 S1 => by
  cases a with
  | true => rw [if_pos rfl]; exact k F1 H1 f1 S1
  | false => rw [if_neg (by decide)]; exact h2 rfl e F1 σ H1 Q S1 fun F2 H2 f2 S2 => k F2 H2 (f1.trans f2) S2
theorem et_and0 {t u : TT} {a b : Bool} (h1 : ET t ρ a ρ) (h2 : a = true → ET u ρ b ρ) : ET (tAnd t u) ρ (a && b) ρ := by
  have := et_and h1 h2; cases a <;> exact this
theorem et_or0 {t u : TT} {a b : Bool} (h1 : ET t ρ a ρ) (h2 : a = false → ET u ρ b ρ) : ET (tOr t u) ρ (a || b) ρ := by
  have := et_or h1 h2; cases a <;> exact this
theorem ev_and {a b : Bool} (h1 : EV ta ρ (.d (.bool a)) ρ1) (h2 : a = true → EV tb ρ1 (.d (.bool b)) ρ2) : EV (tAndV ta tb) ρ (.d (.bool (a && b))) (bif a then ρ2 else ρ1) := fun e F σ H Q S k => h1 e F σ H _ S fun F1 H1 v f1 S1 r1 => by
  cases r1
  cases a with
  | true => exact ⟨true, rfl, by rw [if_pos rfl]; exact h2 rfl e F1 σ H1 Q S1 fun F2 H2 v f2 S2 r2 => k F2 H2 v (f1.trans f2) S2 r2⟩
  | false => exact ⟨false, rfl, by rw [if_neg (by decide)]; exact k F1 H1 _ f1 S1 (.bl false)⟩
theorem ev_or {a b : Bool} (h1 : EV ta ρ (.d (.bool a)) ρ1) (h2 : a = false → EV tb ρ1 (.d (.bool b)) ρ2) : EV (tOrV ta tb) ρ (.d (.bool (a || b))) (bif a then ρ1 else ρ2) := fun e F σ H Q S k => h1 e F σ H _ S fun F1 H1 v f1 S1 r1 => by
  cases r1
  cases a with
  | true => exact ⟨true, rfl, by rw [if_pos rfl]; exact k F1 H1 _ f1 S1 (.bl true)⟩
  | false => exact ⟨false, rfl, by rw [if_neg (by decide)]; exact h2 rfl e F1 σ H1 Q S1 fun F2 H2 v f2 S2 r2 => k F2 H2 v (f1.trans f2) S2 r2⟩
theorem ev_and0 {a b : Bool} (h1 : EV ta ρ (.d (.bool a)) ρ) (h2 : a = true → EV tb ρ (.d (.bool b)) ρ) : EV (tAndV ta tb) ρ (.d (.bool (a && b))) ρ := by
  have := ev_and h1 h2; cases a <;> exact this
theorem ev_or0 {a b : Bool} (h1 : EV ta ρ (.d (.bool a)) ρ) (h2 : a = false → EV tb ρ (.d (.bool b)) ρ) : EV (tOrV ta tb) ρ (.d (.bool (a || b))) ρ := by
  have := ev_or h1 h2; cases a <;> exact this
theorem ev_not {a : Bool} (h1 : EV ta ρ (.d (.bool a)) ρ1) : EV (tNotV ta) ρ (.d (.bool (!a))) ρ1 := fun e F σ H Q S k => h1 e F σ H _ S fun F1 H1 v f1 S1 r1 => by
  cases r1; exact ⟨a, rfl, k F1 H1 _ f1 S1 (.bl _)⟩
theorem ev_if {t : TT} {b : Bool} (h : ET t ρ b ρ1) (h1 : b = true → EV ta ρ1 x ρ2) (h2 : b = false → EV tb ρ1 x ρ2) : EV (tIf t ta tb) ρ x ρ2 := fun e F σ H Q S k => h e F σ H _ S fun F1 H1 f1 S1 => by
  cases b with
  | true => rw [if_pos rfl]; exact h1 rfl e F1 σ H1 Q S1 fun F2 H2 v f2 S2 r => k F2 H2 v (f1.trans f2) S2 r
  | false => rw [if_neg (by decide)]; exact h2 rfl e F1 σ H1 Q S1 fun F2 H2 v f2 S2 r => k F2 H2 v (f1.trans f2) S2 r
/-- displays -/
theorem ev_tup {t : TA} {ds : List PyData} (h : EA t ρ (ds.map fun d => Src.d (.d d)) ρ1) (hl : ds.length ≤ sizeLine) : EV (tTup t) ρ (.d (.tuple ds)) ρ1 := fun e F σ H Q S k => h e F σ H _ S fun F1 H1 vs f1 S1 r1 => by
  have r := r1.data
  refine ⟨by rw [r.length]; exact hl, fun p hp => ?_⟩
  have A := Al.one (o := .tup vs) S1.sub hp
  exact k _ _ _ (f1.trans A.f) (S1.al A) (.tup upd_same (r.mono A.f))
theorem Sta.fresh {e : En} {F H : Hp} {σ : L2.St} (S : Sta e F ρ σ H) {p : Addr} (hp : H p = none) : ∀ (j : Nat) l c', ρ[j]? = some (.own l c') → σ[j]? ≠ some (some (.ref p)) := fun j l c' h z => by
  obtain ⟨a, o, e1, e2, e3, _⟩ := S.own j l c' h
  rw [e1] at z; cases z
  rw [hp] at e3; cases e3
theorem eo_lst {t : TA} {ds : List PyData} (h : EA t ρ (ds.map fun d => Src.d (.d d)) ρ1) (hl : ds.length ≤ sizeLine) : EO (tLst t) ρ (.lst ds) ρ1 := fun e F σ H Q S k => h e F σ H _ S fun F1 H1 vs f1 S1 r1 => by
  have r := r1.data
  refine ⟨by rw [r.length]; exact hl, fun p hp => ?_⟩
  exact k F1 _ p _ f1 (S1.alloc hp) (S1.sub.none hp) upd_same ⟨vs, rfl, r⟩ (S1.h0 hp) (S1.fresh hp)
theorem eo_dk : EO tDNewK ρ (.dk []) ρ := fun e F σ H Q S k p hp => k F _ p _ .rfl (S.alloc hp) (S.sub.none hp) upd_same ⟨[], rfl, .nil⟩ (S.h0 hp) (S.fresh hp)
theorem eo_dt : EO tDNewT ρ (.dt []) ρ := fun e F σ H Q S k p hp => k F _ p _ .rfl (S.alloc hp) (S.sub.none hp) upd_same ⟨[], rfl, .nil⟩ (S.h0 hp) (S.fresh hp)
/-! ### statements -/
def sq (u : TS) (P : Out → Prop) : Out → Prop
  | .nx ρ => WP u ρ P
  | o => P o
theorem wp_seq {t u : TS} (h : WP t ρ (sq u P)) : WP (tSeq t u) ρ P := fun e F σ H D hX S k => h e F σ H _ hX S fun o ho => by
  cases o with
  | nx ρ' => exact fun F' σ' H' f S' => ho e F' σ' H' D hX S' fun o' p => (k o' p).mono f
  | bk ρ' => exact k _ ho
  | ct ρ' => exact k _ ho
  | rt x ρ' => exact k _ ho
  | ro x ρ' => exact k _ ho
theorem wp_next (h : P (.nx ρ)) : WP tNext ρ P := fun e F σ H D hX S k => k _ h F σ H .rfl S
theorem wp_break (h : P (.bk ρ)) : WP tBreak ρ P := fun e F σ H D hX S k => k _ h F σ H .rfl S
theorem wp_cont (h : P (.ct ρ)) : WP tCont ρ P := fun e F σ H D hX S k => k _ h F σ H .rfl S
theorem WP.imp {t : TS} {P' : Out → Prop} (h : WP t ρ P) (k : ∀ o, P o → P' o) : WP t ρ P' := fun e F σ H D hX S q => h e F σ H D hX S fun o p => q o (k o p)
theorem WP.le {t : TS} (h : WP t ρ1 P) (l : Le ρ ρ1) : WP t ρ P := fun e F σ H D hX S q => h e F σ H D hX (S.le l) q
theorem wp_freeze {t : TS} {i : Nat} {c : Cont} (hi : ρ[i]? = some (.own true c)) (h : WP t (ρ.set i (.val (.c c))) P) : WP t ρ P := fun e F σ H D hX S q => by
  obtain ⟨F', f, S'⟩ := S.freeze hi hX
  exact h e F' σ H D hX S' fun o p => (q o p).mono f
theorem wp_freezeL {t : TS} {i : Nat} {ds : List PyData} (hi : ρ[i]? = some (.own true (.lst ds))) (h : WP t (ρ.set i (.val (.d (.list ds)))) P) : WP t ρ P := fun e F σ H D hX S q => by
  obtain ⟨F', f, S'⟩ := S.freeze hi hX
  have hil : i < ρ.length := (List.getElem?_eq_some_iff.mp hi).1
  refine h e F' σ H D hX ?_ fun o p => (q o p).mono f
  exact { sub := S'.sub, f0 := S'.f0, new := S'.new, keep := S'.keep, there := S'.there
          len := by rw [S'.len]; simp
          val := fun j x hx => by
            rcases get_set hx with ⟨rfl, e1, hl⟩ | ⟨hn, e1⟩
            · cases e1
              obtain ⟨v, e2, r⟩ := S'.val i _ (List.getElem?_set_self hil)
              exact ⟨v, e2, r.lst⟩
            · exact S'.val j x (by rw [List.getElem?_set_ne hn]; exact e1)
          own := fun j l x hx => by
            rcases get_set hx with ⟨rfl, e1, hl⟩ | ⟨hn, e1⟩
            · cases e1
            · exact S'.own j l x (by rw [List.getElem?_set_ne hn]; exact e1)
          sep := fun j k lj lk cj ck h1 h2 hn => by
            rcases get_set h1 with ⟨_, e1, _⟩ | ⟨n1, e1⟩
            · cases e1
            rcases get_set h2 with ⟨_, e2, _⟩ | ⟨n2, e2⟩
            · cases e2
            exact S'.sep j k lj lk cj ck (by rw [List.getElem?_set_ne n1]; exact e1) (by rw [List.getElem?_set_ne n2]; exact e2) hn }
theorem wp_asg {i : Nat} (h : EV ta ρ x ρ1) (k : P (.nx (ρ1.set i (.val x)))) : WP (tAsg ta (gName i)) ρ P := fun e F σ H D hX S q => h e F σ H _ S fun F' H' v f S' r => q _ k F' _ H' f (S'.setV i r)
theorem wp_asgO {i : Nat} {c : Cont} (h : EO ta ρ c ρ1) (k : P (.nx (ρ1.set i (.own true c)))) : WP (tAsg ta (gName i)) ρ P := fun e F σ H D hX S q => h e F σ H _ S fun F' H' a o f S' e1 e2 r e3 hs =>
  q _ k F' _ H' f (S'.setO i e1 e2 r e3 hs)
theorem wp_ret (h : EV ta ρ x ρ1) (k : P (.rt x ρ1)) : WP (tRet ta) ρ P := fun e F σ H D hX S q => h e F σ H _ S fun F' H' v f S' r => q _ k F' σ H' v f S' r
theorem wp_retO {c : Cont} (h : EO ta ρ c ρ1) (k : P (.ro c ρ1)) : WP (tRet ta) ρ P := fun e F σ H D hX S q => h e F σ H _ S fun F' H' a o f S' e1 e2 r e3 hs => q _ k F' σ H' a o f S' e1 e2 r e3
theorem wp_retV {i : Nat} {c : Cont} (hi : ρ[i]? = some (.own true c)) (k : P (.ro c ρ)) : WP (tRet (tVar i)) ρ P := fun e F σ H D hX S q => by
  obtain ⟨a, o, e1, e2, e3, r, _, z⟩ := S.own i true c hi
  rw [if_pos rfl] at z
  refine ⟨.ref a, e1, q _ k F σ H a o .rfl S e2 e3 r ?_⟩
  rcases z with z | z
  · exact z
  · exact absurd z (hX a)
theorem wp_retN (k : P (.rt (.d .none) ρ)) : WP tRetN ρ P := fun e F σ H D hX S q => q _ k F σ H _ .rfl S Rp.non
theorem wp_drop (h : EV ta ρ x ρ1) (k : P (.nx ρ1)) : WP (tDrop ta) ρ P := fun e F σ H D hX S q => h e F σ H _ S fun F' H' v f S' r => q _ k F' σ H' f S'
theorem wp_if {c : TT} {t u : TS} {b : Bool} (h : ET c ρ b ρ1) (h1 : b = true → WP t ρ1 P) (h2 : b = false → WP u ρ1 P) : WP (tIfS c t u) ρ P := fun e F σ H D hX S q => h e F σ H _ S fun F' H' f S' => by
  cases b with
  | true => rw [if_pos rfl]; exact h1 rfl e F' σ H' D hX S' fun o p => (q o p).mono f
  | false => rw [if_neg (by decide)]; exact h2 rfl e F' σ H' D hX S' fun o p => (q o p).mono f
end Pw

set_option Elab.async false
set_option linter.all false
set_option maxRecDepth 100000
namespace Pw
open PySem L2
inductive Arg where
  | d (x : Val)
  | r (c : Cont)
inductive Ret where
  | v (x : Val)
  | o (c : Cont)
def ArgRp (F H : Hp) : Arg → V → Prop
  | .d x, v => RpV F v x
  | .r c, v => ∃ a o, v = .ref a ∧ F a = none ∧ H a = some o ∧ CRp F c o
inductive ArgsRp (F H : Hp) : List Arg → List V → Prop
  | nil : ArgsRp F H [] []
  | cons {x : Arg} {v : V} {as : List Arg} {vs : List V} : ArgRp F H x v → ArgsRp F H as vs → ArgsRp F H (x :: as) (v :: vs)
theorem ArgsRp.length {F H : Hp} : ∀ {as : List Arg} {vs : List V}, ArgsRp F H as vs → vs.length = as.length
  | _, _, .nil => rfl
  | _, _, .cons _ t => by simp [t.length]
/-- the i-th argument is handed in to be changed, at a -/
def RefAt (as : List Arg) (vs : List V) (i : Nat) (a : Addr) : Prop := (∃ c, as[i]? = some (.r c)) ∧ vs[i]? = some (.ref a)
def Sep (as : List Arg) (vs : List V) : Prop := ∀ i j a, RefAt as vs i a → RefAt as vs j a → i = j
/-- what the changed arguments hold behind the call: by place -/
def OutsRp (F' H' : Hp) (as : List Arg) (vs : List V) (outs : Nat → Cont) : Prop := ∀ i a, RefAt as vs i a → F' a = none ∧ ∃ o, H' a = some o ∧ CRp F' (outs i) o
def RetRp (F' H' H : Hp) : Ret → V → Prop
  | .v x, v => RpV F' v x
  | .o c, v => ∃ a o, v = .ref a ∧ F' a = none ∧ H a = none ∧ H' a = some o ∧ CRp F' c o
/-- a def's promise over data: g tells the answer, and what the changed arguments then hold -/
def spG (g : List Arg → Ret → (Nat → Cont) → Prop) : Sp := fun vs H Q _ => ∃ F as ret outs, Sub F H ∧ ArgsRp F H as vs ∧ Sep as vs ∧ g as ret outs ∧
  ∀ F' H' v, FSub F F' → (∀ a, F' a ≠ none → F a ≠ none ∨ H a = none) → Sub F' H' → (∀ a o, H a = some o → (¬ ∃ i, RefAt as vs i a) → H' a = some o) → (∀ a, H a ≠ none → H' a ≠ none) →
    RetRp F' H' H ret v → OutsRp F' H' as vs outs → Q v H'
def slotOf : Arg → Slot
  | .d x => .val x
  | .r c => .own false c
theorem ArgsRp.get {F H : Hp} : ∀ {as : List Arg} {vs : List V} {i : Nat} {x : Arg}, ArgsRp F H as vs → as[i]? = some x → ∃ v, vs[i]? = some v ∧ ArgRp F H x v
  | _, _, _, _, .nil, h => by simp at h
  | _, _, 0, _, .cons r _, h => by simp at h; subst h; exact ⟨_, rfl, r⟩
  | _, _, i + 1, _, .cons _ t, h => by
    obtain ⟨v, e, r⟩ := t.get (i := i) (by simpa using h)
    exact ⟨v, by simpa using e, r⟩
/-- the slots at a def's entry -/
def rho (N : List Str) (as : List Arg) : List Slot := as.map slotOf ++ List.replicate (N.length - as.length) .non
open Classical in
noncomputable def enOf (F H : Hp) (as : List Arg) (vs : List V) (A : ArgsRp F H as vs) : En where
  F0 := F
  H0 := H
  P := fun a => ∃ i, RefAt as vs i a
  X := fun _ => False
  Ad := fun i => if h : ∃ a, RefAt as vs i a then some h.choose else none
  pH := fun a ⟨i, ⟨c, h1⟩, h2⟩ => by
    obtain ⟨v, e, r⟩ := A.get h1
    rw [h2] at e; cases e
    obtain ⟨b, o, e, _, h, _⟩ := r
    cases e; rw [h]; simp
  xP := fun _ h => h.elim
  aP := fun i a h => by
    by_cases z : ∃ a, RefAt as vs i a
    · rw [dif_pos z] at h
      cases h
      exact ⟨i, z.choose_spec⟩
    · rw [dif_neg z] at h; cases h
open Classical in
theorem enOf_ad {F H : Hp} {as : List Arg} {vs : List V} {A : ArgsRp F H as vs} {i : Nat} {a : Addr} (h : RefAt as vs i a) : (enOf F H as vs A).Ad i = some a := by
  have z : ∃ a, RefAt as vs i a := ⟨a, h⟩
  show (if h : ∃ a, RefAt as vs i a then some h.choose else none) = some a
  rw [dif_pos z]
  have y := z.choose_spec.2
  rw [h.2] at y
  cases y
  rfl
theorem rho_get {N : List Str} {as : List Arg} {i : Nat} {s : Slot} (h : (rho N as)[i]? = some s) (hs : s ≠ .non) : ∃ x, as[i]? = some x ∧ s = slotOf x := by
  unfold rho at h
  by_cases z : i < (as.map slotOf).length
  · rw [List.getElem?_append_left z, List.getElem?_map] at h
    cases y : as[i]? with
    | none => rw [y] at h; cases h
    | some x => rw [y] at h; exact ⟨x, rfl, (Option.some.inj h).symm⟩
  · rw [List.getElem?_append_right (Nat.le_of_not_lt z)] at h
    exact absurd (List.eq_of_mem_replicate (List.mem_of_getElem? h)) hs
theorem start_get {N : List Str} {vs : List V} {i : Nat} {v : V} (h : vs[i]? = some v) : (L2.start N vs)[i]? = some (some v) := by
  unfold L2.start
  have z : i < (vs.map some).length := by
    rw [List.length_map]; exact (List.getElem?_eq_some_iff.mp h).1
  rw [List.getElem?_append_left z, List.getElem?_map, h]; rfl
theorem sta0 {F H : Hp} {as : List Arg} {vs : List V} {N : List Str} (S : Sub F H) (A : ArgsRp F H as vs) (sp : Sep as vs) : Sta (enOf F H as vs A) F (rho N as) (L2.start N vs) H where
  sub := S
  f0 := .rfl
  new := fun a h => .inl h
  keep := fun a o h _ => h
  there := fun a h => h
  len := by
    unfold L2.start rho
    rw [List.length_append, List.length_append, List.length_map, List.length_map, List.length_replicate, List.length_replicate, A.length]
  val := fun i x h => by
    obtain ⟨y, e, es⟩ := rho_get h (by simp)
    obtain ⟨v, e2, r⟩ := A.get e
    cases y with
    | d z => cases es; exact ⟨v, start_get e2, r⟩
    | r c => cases es
  own := fun i l c h => by
    obtain ⟨y, e, es⟩ := rho_get h (by simp)
    obtain ⟨v, e2, r⟩ := A.get e
    cases y with
    | d z => cases es
    | r c =>
      cases es
      obtain ⟨a, o, ev, h1, h2, h3⟩ := r
      subst ev
      have ra : RefAt as vs i a := ⟨⟨c, e⟩, e2⟩
      exact ⟨a, o, start_get e2, h1, h2, h3, .inr ⟨i, ra⟩, by rw [if_neg (by decide)]; exact enOf_ad ra⟩
  sep := fun i j li lj ci cj h1 h2 hn => by
    obtain ⟨y1, e1, es1⟩ := rho_get h1 (by simp)
    obtain ⟨y2, e2, es2⟩ := rho_get h2 (by simp)
    obtain ⟨v1, f1, r1⟩ := A.get e1
    obtain ⟨v2, f2, r2⟩ := A.get e2
    cases y1 with
    | d z => cases es1
    | r c1 =>
    cases y2 with
    | d z => cases es2
    | r c2 =>
    obtain ⟨a, o, ev, _⟩ := r1
    obtain ⟨b, u, ew, _⟩ := r2
    subst ev; subst ew
    rw [start_get f1, start_get f2]
    intro q
    cases q
    exact hn (sp i j a ⟨⟨c1, e1⟩, f1⟩ ⟨⟨c2, e2⟩, f2⟩)
/-- what a def's run must come to -/
def Good (as : List Arg) (ret : Ret) (outs : Nat → Cont) : Out → Prop
  | .rt x ρ => ret = .v x ∧ ∀ (i : Nat) c, as[i]? = some (.r c) → ρ[i]? = some (.own false (outs i))
  | .ro c ρ => (ret = .o c ∨ ret = .v (.c c) ∨ ∃ ds, c = .lst ds ∧ ret = .v (.d (.list ds))) ∧ ∀ (i : Nat) c, as[i]? = some (.r c) → ρ[i]? = some (.own false (outs i))
  | .nx ρ => ret = .v (.d .none) ∧ ∀ (i : Nat) c, as[i]? = some (.r c) → ρ[i]? = some (.own false (outs i))
  | .bk _ => False
  | .ct _ => False
theorem wp_def {g : List Arg → Ret → (Nat → Cont) → Prop} {vs : List V} {H : Hp} {Q : VK} {E : XK} {N : List Str} {t : TS} (h : spG g vs H Q E)
    (hb : ∀ as ret outs, g as ret outs → as.length = vs.length → WP t (rho N as) (Good as ret outs)) : t { nx := fun _ H' => Q .non H', rt := Q } (L2.start N vs) H := by
  obtain ⟨F, as, ret, outs, S, A, sp, hg, k⟩ := h
  have outs_of : ∀ {F' H' : Hp} {ρ : List Slot} {σ : L2.St}, Sta (enOf F H as vs A) F' ρ σ H' → (∀ (i : Nat) c, as[i]? = some (.r c) → ρ[i]? = some (.own false (outs i))) → OutsRp F' H' as vs outs := fun S' ho i a ⟨⟨c, h1⟩, h2⟩ => by
    obtain ⟨b, o, e1, e2, e3, r, _, z⟩ := S'.own i false _ (ho i c h1)
    rw [if_neg (by decide), enOf_ad ⟨⟨c, h1⟩, h2⟩] at z
    cases z
    exact ⟨e2, o, e3, r⟩
  refine hb as ret outs hg A.length.symm (enOf F H as vs A) F (L2.start N vs) H _ (fun _ z => z) (sta0 S A sp) fun o ho => ?_
  cases o with
  | bk _ => exact ho.elim
  | ct _ => exact ho.elim
  | nx ρ =>
    intro F' σ' H' f S'
    obtain ⟨e, ho⟩ := ho
    subst e
    exact k F' H' _ f S'.new S'.sub S'.keep S'.there Rp.non (outs_of S' ho)
  | rt x ρ =>
    intro F' σ' H' v f S' r
    obtain ⟨e, ho⟩ := ho
    subst e
    exact k F' H' _ f S'.new S'.sub S'.keep S'.there r (outs_of S' ho)
  | ro c ρ =>
    intro F' σ' H' a o f S' e1 e2 r e3
    obtain ⟨e, ho⟩ := ho
    have key : ∀ x, RpV (upd F' a o) (.ref a) x → ret = .v x → Q (.ref a) H' := fun x rx ex => by
      subst ex
      have fs : FSub F' (upd F' a o) := fun b u h => by rw [upd_ne (ne_of_none h e1)]; exact h
      refine k (upd F' a o) H' _ (f.trans fs) (fun b h => ?_) (fun b u h => ?_) S'.keep S'.there rx fun i b rb => ?_
      · by_cases z : b = a
        · subst z; exact .inr e3
        · rw [upd_ne z] at h; exact S'.new b h
      · by_cases z : b = a
        · subst z; rw [upd_same] at h; cases h; exact .inl e2
        · rw [upd_ne z] at h; exact S'.sub b u h
      · obtain ⟨g1, u, g2, g3⟩ := outs_of S' ho i b rb
        have z : b ≠ a := fun z => by
          subst z
          exact (enOf F H as vs A).pH b ⟨i, rb⟩ e3
        exact ⟨by rw [upd_ne z]; exact g1, u, g2, g3.mono fs⟩
    have fs : FSub F' (upd F' a o) := fun b u h => by rw [upd_ne (ne_of_none h e1)]; exact h
    rcases e with e | e | ⟨ds, ec, e⟩
    · subst e
      exact k F' H' _ f S'.new S'.sub S'.keep S'.there ⟨a, o, rfl, e1, e3, e2, r⟩ (outs_of S' ho)
    · exact key (.c c) (show RpV (upd F' a o) (.ref a) (.c c) from ⟨a, o, rfl, upd_same, r.mono fs⟩) e
    · subst ec
      exact key _ (RpV.lst (show RpV (upd F' a o) (.ref a) (.c (.lst ds)) from ⟨a, o, rfl, upd_same, r.mono fs⟩)) e

/-! ### the caller's side -/
def argOf (ρ : List Slot) : Src → Arg
  | .d x => .d x
  | .s i => match ρ[i]? with
    | some (.own _ c) => .r c
    | _ => .d (.d .none)
/-- the slots that are handed over to be changed are one's own, each once -/
def SrcOk (ρ : List Slot) (ss : List Src) : Prop := (∀ (k i : Nat), ss[k]? = some (.s i) → ∃ l c, ρ[i]? = some (.own l c)) ∧ ∀ (j k i : Nat), ss[j]? = some (.s i) → ss[k]? = some (.s i) → j = k
/-- the slots behind the call -/
def putOuts (outs : Nat → Cont) : Nat → List Src → List Slot → List Slot
  | _, [], ρ => ρ
  | k, .d _ :: ss, ρ => putOuts outs (k + 1) ss ρ
  | k, .s i :: ss, ρ => putOuts outs (k + 1) ss (match ρ[i]? with
    | some (.own l _) => ρ.set i (.own l (outs k))
    | _ => ρ)
theorem putOuts_len {outs : Nat → Cont} : ∀ {ss : List Src} {k : Nat} {ρ : List Slot}, (putOuts outs k ss ρ).length = ρ.length
  | [], _, _ => rfl
  | .d _ :: ss, k, ρ => putOuts_len (ss := ss)
  | .s i :: ss, k, ρ => by
    unfold putOuts
    rw [putOuts_len (ss := ss)]
    split <;> simp
/-- slot i behind: untouched, or the out of the last place that names it -/
theorem putOuts_get {outs : Nat → Cont} : ∀ {ss : List Src} {k : Nat} {ρ : List Slot} {i : Nat} {s : Slot}, (putOuts outs k ss ρ)[i]? = some s →
    (ρ[i]? = some s ∧ ∀ (j : Nat), ss[j]? = some (Src.s i) → ∀ l c, ρ[i]? ≠ some (Slot.own l c)) ∨ ∃ (j : Nat) (l : Bool) (c : Cont), ss[j]? = some (Src.s i) ∧ ρ[i]? = some (.own l c) ∧ s = .own l (outs (k + j)) := by
  intro ss
  induction ss with
  | nil => intro k ρ i s h; exact .inl ⟨h, fun j z => by simp at z⟩
  | cons x ss ih =>
    intro k ρ i s h
    cases x with
    | d y =>
      rcases ih (k := k + 1) h with ⟨h1, h2⟩ | ⟨j, l, c, h1, h2, h3⟩
      · refine .inl ⟨h1, fun j z => ?_⟩
        cases j with
        | zero => simp at z
        | succ j => exact h2 j (by simpa using z)
      · exact .inr ⟨j + 1, l, c, by simpa using h1, h2, by rw [h3]; congr 2; omega⟩
    | s m =>
      unfold putOuts at h
      cases hm : ρ[m]? with
      | none =>
        rw [hm] at h
        rcases ih (k := k + 1) h with ⟨h1, h2⟩ | ⟨j, l, c, h1, h2, h3⟩
        · refine .inl ⟨h1, fun j z => ?_⟩
          cases j with
          | zero => simp at z; subst z; rw [hm]; simp
          | succ j => exact h2 j (by simpa using z)
        · exact .inr ⟨j + 1, l, c, by simpa using h1, h2, by rw [h3]; congr 2; omega⟩
      | some w =>
        cases w with
        | non =>
          rw [hm] at h
          rcases ih (k := k + 1) h with ⟨h1, h2⟩ | ⟨j, l, c, h1, h2, h3⟩
          · refine .inl ⟨h1, fun j z => ?_⟩
            cases j with
            | zero => simp at z; subst z; rw [hm]; simp
            | succ j => exact h2 j (by simpa using z)
          · exact .inr ⟨j + 1, l, c, by simpa using h1, h2, by rw [h3]; congr 2; omega⟩
        | val v =>
          rw [hm] at h
          rcases ih (k := k + 1) h with ⟨h1, h2⟩ | ⟨j, l, c, h1, h2, h3⟩
          · refine .inl ⟨h1, fun j z => ?_⟩
            cases j with
            | zero => simp at z; subst z; rw [hm]; simp
            | succ j => exact h2 j (by simpa using z)
          · exact .inr ⟨j + 1, l, c, by simpa using h1, h2, by rw [h3]; congr 2; omega⟩
        | own l0 c0 =>
          rw [hm] at h
          have hml : m < ρ.length := (List.getElem?_eq_some_iff.mp hm).1
          rcases ih (k := k + 1) h with ⟨h1, h2⟩ | ⟨j, l, c, h1, h2, h3⟩
          · rcases get_set h1 with ⟨rfl, e, _⟩ | ⟨n, e⟩
            · exact .inr ⟨0, l0, c0, rfl, hm, by rw [e]; rfl⟩
            · refine .inl ⟨e, fun j z => ?_⟩
              cases j with
              | zero => simp at z; exact absurd z n
              | succ j =>
                have := h2 j (by simpa using z)
                rw [List.getElem?_set_ne n] at this
                exact this
          · rcases get_set h2 with ⟨rfl, e, _⟩ | ⟨n, e⟩
            · cases e
              exact .inr ⟨j + 1, l0, c0, by simpa using h1, hm, by rw [h3]; congr 2; omega⟩
            · exact .inr ⟨j + 1, l, c, by simpa using h1, e, by rw [h3]; congr 2; omega⟩
theorem Srcs.args {e : En} {F H : Hp} {ρ : List Slot} {σ : L2.St} (S : Sta e F ρ σ H) : ∀ {ss : List Src} {vs : List V}, Srcs F σ ss vs → (∀ (k i : Nat), ss[k]? = some (.s i) → ∃ l c, ρ[i]? = some (.own l c)) → ArgsRp F H (ss.map (argOf ρ)) vs
  | _, _, .nil, _ => .nil
  | .d x :: ss, _, .cons r t, h => .cons r (t.args S fun k i z => h (k + 1) i (by simpa using z))
  | .s i :: ss, _, .cons (v := v) r t, h => by
    obtain ⟨l, c, hi⟩ := h 0 i rfl
    obtain ⟨a, o, e1, e2, e3, q, _⟩ := S.own i l c hi
    have r : σ[i]? = some (some v) := r
    rw [r] at e1
    cases e1
    refine .cons ?_ (t.args S fun k i z => h (k + 1) i (by simpa using z))
    show ArgRp F H (match ρ[i]? with
    | some (.own _ c) => .r c
    | _ => .d (.d .none)) (.ref a)
    rw [hi]
    exact ⟨a, o, rfl, e2, e3, q⟩
theorem Srcs.get {F : Hp} {σ : L2.St} : ∀ {ss : List Src} {vs : List V} {k : Nat} {v : V}, Srcs F σ ss vs → vs[k]? = some v → ∃ s, ss[k]? = some s ∧ SrcRp F σ s v
  | _, _, _, _, .nil, h => by simp at h
  | _, _, 0, _, .cons r _, h => by simp at h; subst h; exact ⟨_, rfl, r⟩
  | _, _, k + 1, _, .cons _ t, h => by
    obtain ⟨s, e, r⟩ := t.get (k := k) (by simpa using h)
    exact ⟨s, by simpa using e, r⟩
theorem Srcs.get' {F : Hp} {σ : L2.St} : ∀ {ss : List Src} {vs : List V} {k : Nat} {s : Src}, Srcs F σ ss vs → ss[k]? = some s → ∃ v, vs[k]? = some v ∧ SrcRp F σ s v
  | _, _, _, _, .nil, h => by simp at h
  | _, _, 0, _, .cons r _, h => by simp at h; subst h; exact ⟨_, rfl, r⟩
  | _, _, k + 1, _, .cons _ t, h => by
    obtain ⟨s, e, r⟩ := t.get' (k := k) (by simpa using h)
    exact ⟨s, by simpa using e, r⟩
theorem refAt_src {F : Hp} {ρ : List Slot} {σ : L2.St} {ss : List Src} {vs : List V} (hs : Srcs F σ ss vs) {k : Nat} {a : Addr} (h : RefAt (ss.map (argOf ρ)) vs k a) : ∃ i l c, ss[k]? = some (.s i) ∧ ρ[i]? = some (.own l c) ∧ σ[i]? = some (some (.ref a)) := by
  obtain ⟨⟨c, h1⟩, h2⟩ := h
  obtain ⟨s, e, r⟩ := hs.get h2
  rw [List.getElem?_map, e] at h1
  cases s with
  | d x => cases h1
  | s i =>
    have h1 : argOf ρ (.s i) = .r c := Option.some.inj h1
    have h1 : (match ρ[i]? with
    | some (.own _ c) => Arg.r c
    | _ => .d (.d .none)) = .r c := h1
    cases hi : ρ[i]? with
    | none => rw [hi] at h1; cases h1
    | some w =>
      rw [hi] at h1
      cases w with
      | non => cases h1
      | val _ => cases h1
      | own l c' => exact ⟨i, l, c', e, hi, r⟩
/-- behind a call -/
theorem Sta.call {e : En} {F H F' H' : Hp} {ρ : List Slot} {σ : L2.St} {ss : List Src} {vs : List V} {outs : Nat → Cont} (S : Sta e F ρ σ H) (hs : Srcs F σ ss vs) (ok : SrcOk ρ ss)
    (f : FSub F F') (new : ∀ a, F' a ≠ none → F a ≠ none ∨ H a = none) (sub : Sub F' H') (keep : ∀ a o, H a = some o → (¬ ∃ i, RefAt (ss.map (argOf ρ)) vs i a) → H' a = some o) (there : ∀ a, H a ≠ none → H' a ≠ none)
    (ho : OutsRp F' H' (ss.map (argOf ρ)) vs outs) : Sta e F' (putOuts outs 0 ss ρ) σ H' where
  sub := sub
  f0 := S.f0.trans f
  new := fun a h => by
    rcases new a h with q | q
    · exact S.new a q
    · exact .inr (S.h0 q)
  keep := fun a o h hp => by
    refine keep a o (S.keep a o h hp) fun ⟨k, hk⟩ => ?_
    obtain ⟨i, l, c, h1, h2, h3⟩ := refAt_src hs hk
    obtain ⟨b, u, e1, _, _, _, q, _⟩ := S.own i l c h2
    rw [h3] at e1; cases e1
    rcases q with q | q
    · rw [h] at q; cases q
    · exact hp q
  there := fun a h => there a (S.there a h)
  len := by rw [putOuts_len]; exact S.len
  val := fun i x h => by
    rcases putOuts_get h with ⟨h1, _⟩ | ⟨j, l, c, h1, h2, h3⟩
    · obtain ⟨v, e1, r⟩ := S.val i x h1
      exact ⟨v, e1, r.mono f⟩
    · cases h3
  own := fun i l c h => by
    rcases putOuts_get h with ⟨h1, h2⟩ | ⟨j, l', c', h1, h2, h3⟩
    · obtain ⟨a, o, e1, e2, e3, r, q⟩ := S.own i l c h1
      have nr : ¬ ∃ k, RefAt (ss.map (argOf ρ)) vs k a := fun ⟨k, hk⟩ => by
        obtain ⟨m, lm, cm, f1, f2, f3⟩ := refAt_src hs hk
        by_cases z : i = m
        · subst z; exact h2 k f1 l c h1
        · exact S.sep i m l lm c cm h1 f2 z (by rw [e1, f3])
      refine ⟨a, o, e1, ?_, keep a o e3 nr, r.mono f, q⟩
      cases y : F' a with
      | none => rfl
      | some u =>
        rcases new a (by rw [y]; simp) with q | q
        · exact absurd e2 q
        · rw [q] at e3; cases e3
    · cases h3
      obtain ⟨a, o, e1, e2, e3, r, q⟩ := S.own i l c' h2
      obtain ⟨v, f1, f2⟩ := hs.get' h1
      have f2 : σ[i]? = some (some v) := f2
      rw [f2] at e1; cases e1
      have ra : RefAt (ss.map (argOf ρ)) vs j a := ⟨⟨c', by rw [List.getElem?_map, h1]; show some (match ρ[i]? with | some (.own _ c) => Arg.r c | _ => .d (.d .none)) = some (Arg.r c'); rw [h2]⟩, f1⟩
      obtain ⟨g1, u, g2, g3⟩ := ho j a ra
      exact ⟨a, u, f2, g1, g2, by rw [Nat.zero_add]; exact g3, q⟩
  sep := fun i j li lj ci cj h1 h2 hn => by
    have k1 : ∃ l1 c1, ρ[i]? = some (.own l1 c1) := by
      rcases putOuts_get h1 with ⟨q, _⟩ | ⟨_, l, c, _, q, _⟩
      · exact ⟨_, _, q⟩
      · exact ⟨_, _, q⟩
    have k2 : ∃ l1 c1, ρ[j]? = some (.own l1 c1) := by
      rcases putOuts_get h2 with ⟨q, _⟩ | ⟨_, l, c, _, q, _⟩
      · exact ⟨_, _, q⟩
      · exact ⟨_, _, q⟩
    obtain ⟨l1, c1, z1⟩ := k1
    obtain ⟨l2, c2, z2⟩ := k2
    exact S.sep i j l1 l2 c1 c2 z1 z2 hn
theorem sep_of {e : En} {F H : Hp} {ρ : List Slot} {σ : L2.St} {ss : List Src} {vs : List V} (S : Sta e F ρ σ H) (hs : Srcs F σ ss vs) (ok : SrcOk ρ ss) : Sep (ss.map (argOf ρ)) vs := fun j k a h1 h2 => by
  obtain ⟨i, l, c, e1, e2, e3⟩ := refAt_src hs h1
  obtain ⟨m, lm, cm, f1, f2, f3⟩ := refAt_src hs h2
  by_cases z : i = m
  · subst z; exact ok.2 j k i e1 f1
  · exact absurd (by rw [e3, f3]) (S.sep i m l lm c cm e2 f2 z)
variable {ρ ρ1 ρ2 : List Slot} {x : Val} {t : TA} {E : XK} {ss : List Src} {g : List Arg → Ret → (Nat → Cont) → Prop} {outs : Nat → Cont}
theorem ev_call (ha : EA t ρ ss ρ1) (ok : SrcOk ρ1 ss) (hg : g (ss.map (argOf ρ1)) (.v x) outs) : EV (tCall (spG g) [] E t) ρ x (putOuts outs 0 ss ρ1) := fun e F σ H Q S k =>
  ha e F σ H _ S fun F1 H1 vs f1 S1 hs => by
    show spG g (vs ++ []) H1 Q E
    rw [List.append_nil]
    exact ⟨F1, _, _, _, S1.sub, hs.args S1 ok.1, sep_of S1 hs ok, hg, fun F' H' v f new sub keep there r ho => k F' H' v (f1.trans f) (S1.call hs ok f new sub keep there ho) r⟩
theorem eo_call {c : Cont} (ha : EA t ρ ss ρ1) (ok : SrcOk ρ1 ss) (hg : g (ss.map (argOf ρ1)) (.o c) outs) : EO (tCall (spG g) [] E t) ρ c (putOuts outs 0 ss ρ1) := fun e F σ H Q S k =>
  ha e F σ H _ S fun F1 H1 vs f1 S1 hs => by
    show spG g (vs ++ []) H1 Q E
    rw [List.append_nil]
    refine ⟨F1, _, _, _, S1.sub, hs.args S1 ok.1, sep_of S1 hs ok, hg, fun F' H' v f new sub keep there r ho => ?_⟩
    obtain ⟨a, o, e1, e2, e3, e4, r⟩ := r
    subst e1
    have S2 := S1.call hs ok f new sub keep there ho
    refine k F' H' a o (f1.trans f) S2 e2 e4 r (S1.h0 e3) fun j l c' h z => ?_
    have k1 : ∃ l1 c1, ρ1[j]? = some (.own l1 c1) := by
      rcases putOuts_get h with ⟨q, _⟩ | ⟨_, l, c, _, q, _⟩
      · exact ⟨_, _, q⟩
      · exact ⟨_, _, q⟩
    obtain ⟨l1, c1, z1⟩ := k1
    exact S1.fresh e3 j l1 c1 z1 z
/-- a def of data alone -/
def pureG (f : List PyData → PyData → Prop) : List Arg → Ret → (Nat → Cont) → Prop := fun as ret _ => ∃ ds y, as = (ds.map fun d => Arg.d (.d d)) ∧ f ds y ∧ ret = .v (.d y)
theorem putOuts_data {outs : Nat → Cont} : ∀ {ds : List PyData} {k : Nat} {ρ : List Slot}, putOuts outs k (ds.map fun d => Src.d (.d d)) ρ = ρ
  | [], _, _ => rfl
  | _ :: ds, k, ρ => putOuts_data (ds := ds)
theorem srcOk_data {ds : List PyData} : SrcOk ρ (ds.map fun d => Src.d (.d d)) := by
  have z : ∀ (k i : Nat), (ds.map fun d => Src.d (.d d))[k]? ≠ some (Src.s i) := fun k i h => by
    rw [List.getElem?_map] at h
    cases y : ds[k]? with
    | none => rw [y] at h; cases h
    | some w => rw [y] at h; cases h
  exact ⟨fun k i h => absurd h (z k i), fun j k i h => absurd h (z j i)⟩
theorem ev_pure {f : List PyData → PyData → Prop} {ds : List PyData} {y : PyData} (ha : EA t ρ (ds.map fun d => Src.d (.d d)) ρ1) (hf : f ds y) : EV (tCall (spG (pureG f)) [] E t) ρ (.d y) ρ1 := by
  have h := ev_call (E := E) (g := pureG f) (x := .d y) (outs := fun _ => .lst []) ha srcOk_data ⟨ds, y, by rw [List.map_map]; rfl, hf, rfl⟩
  rw [putOuts_data] at h
  exact h
def GoodP (y : PyData) : Out → Prop
  | .rt x _ => x = .d y
  | .ro (.lst ds) _ => y = .list ds
  | .nx _ => y = .none
  | _ => False
def rhoD (N : List Str) (ds : List PyData) : List Slot := ds.map (fun d => Slot.val (.d d)) ++ List.replicate (N.length - ds.length) .non
theorem wp_pure {f : List PyData → PyData → Prop} {vs : List V} {H : Hp} {Q : VK} {E : XK} {N : List Str} {t : TS} (h : spG (pureG f) vs H Q E)
    (hb : ∀ ds y, f ds y → ds.length = vs.length → WP t (rhoD N ds) (GoodP y)) : t { nx := fun _ H' => Q .non H', rt := Q } (L2.start N vs) H := by
  refine wp_def h fun as ret outs hg hl => ?_
  obtain ⟨ds, y, e1, e2, e3⟩ := hg
  subst e1; subst e3
  have e : rho N (ds.map fun d => Arg.d (.d d)) = rhoD N ds := by
    unfold rho rhoD
    rw [List.map_map, List.length_map]; rfl
  rw [e]
  refine (hb ds y e2 (by simpa using hl)).imp fun o ho => ?_
  have nr : ∀ (i : Nat) c, (ds.map fun d => Arg.d (.d d))[i]? ≠ some (Arg.r c) := fun i c h => by
    rw [List.getElem?_map] at h
    cases y : ds[i]? with
    | none => rw [y] at h; cases h
    | some w => rw [y] at h; cases h
  cases o with
  | nx ρ => exact ⟨by rw [show y = .none from ho], fun i c h => absurd h (nr i c)⟩
  | rt x ρ => exact ⟨by rw [show x = .d y from ho], fun i c h => absurd h (nr i c)⟩
  | ro c ρ => cases c with
    | lst zs =>
      have ho : y = .list zs := ho
      subst ho
      exact ⟨.inr (.inr ⟨zs, rfl, rfl⟩), fun i c h => absurd h (nr i c)⟩
    | dk _ => exact ho.elim
    | dt _ => exact ho.elim
  | bk ρ => exact ho.elim
  | ct ρ => exact ho.elim
end Pw

set_option Elab.async false
set_option linter.all false
set_option maxRecDepth 100000
namespace Pw
open PySem L2
/-! ### targets -/
inductive RpVs (F : Hp) : List V → List Val → Prop
  | nil : RpVs F [] []
  | cons {v : V} {x : Val} {vs : List V} {xs : List Val} : RpV F v x → RpVs F vs xs → RpVs F (v :: vs) (x :: xs)
def sets : L2.St → List Nat → List V → L2.St
  | σ, i :: is, v :: vs => sets (σ.set i (some v)) is vs
  | σ, _, _ => σ
def setsR : List Slot → List Nat → List Val → List Slot
  | ρ, i :: is, x :: xs => setsR (ρ.set i (.val x)) is xs
  | ρ, _, _ => ρ
theorem Sta.sets {e : En} {F H : Hp} : ∀ {is : List Nat} {vs : List V} {xs : List Val} {ρ : List Slot} {σ : L2.St}, Sta e F ρ σ H → RpVs F vs xs → Sta e F (setsR ρ is xs) (Pw.sets σ is vs) H
  | [], _, _, _, _, S, _ => S
  | _ :: _, _, _, _, _, S, .nil => S
  | i :: is, _, _, _, _, S, .cons r t => Sta.sets (is := is) (S.setV i r) t
/-- the target g stores into the slots is; x falls into ys -/
def GT (g : TG) (is : List Nat) (x : Val) (ys : List Val) : Prop := ∀ F H v (Q : L2.St → Hp → Prop) σ, Sub F H → RpV F v x → (∀ vs, RpVs F vs ys → vs.length = is.length → Q (sets σ is vs) H) → g v σ H Q
def GTs (g : TGs) (is : List Nat) (xs : List Val) (ys : List Val) : Prop := ∀ F H vs (Q : L2.St → Hp → Prop) σ, Sub F H → RpVs F vs xs → (∀ ws, RpVs F ws ys → ws.length = is.length → Q (sets σ is ws) H) → g vs σ H Q
theorem gt_name {i : Nat} {x : Val} : GT (gName i) [i] x [x] := fun F H v Q σ _ r k => k [v] (.cons r .nil) rfl
theorem gts_nil : GTs gNil [] [] [] := fun F H vs Q σ _ r k => by cases r; exact ⟨rfl, k [] .nil rfl⟩
theorem sets_app : ∀ {is js : List Nat} {vs ws : List V} {σ : L2.St}, vs.length = is.length → sets (sets σ is vs) js ws = sets σ (is ++ js) (vs ++ ws)
  | [], _, [], _, _, _ => rfl
  | i :: is, _, v :: vs, _, _, h => sets_app (is := is) (by simpa using h)
theorem RpVs.append {F : Hp} : ∀ {vs ws : List V} {xs ys : List Val}, RpVs F vs xs → RpVs F ws ys → RpVs F (vs ++ ws) (xs ++ ys)
  | _, _, _, _, .nil, s => s
  | _, _, _, _, .cons r t, s => .cons r (t.append s)
theorem gts_cons {g : TG} {u : TGs} {is js : List Nat} {x : Val} {xs ys zs : List Val} (h1 : GT g is x ys) (h2 : GTs u js xs zs) : GTs (gCons g u) (is ++ js) (x :: xs) (ys ++ zs) := fun F H vs Q σ S r k => by
  cases r with
  | cons r t =>
    refine ⟨_, _, rfl, h1 F H _ _ σ S r fun vs1 r1 l1 => h2 F H _ _ _ S t fun vs2 r2 l2 => ?_⟩
    rw [sets_app l1]
    exact k _ (r1.append r2) (by simp [l1, l2])
theorem RpAll.vs {F : Hp} : ∀ {ds : List PyData} {vs : List V}, RpAll F vs ds → RpVs F vs (ds.map .d)
  | [], _, .nil => .nil
  | _ :: _, _, .cons a b => .cons a b.vs
theorem gt_tup {K : PySem.W.Frag} {n : Nat} {t : TGs} {is : List Nat} {ds : List PyData} {ys : List Val} (h : GTs t is (ds.map .d) ys) (hl : ds.length = n) : GT (gTup K n t) is (.d (.tuple ds)) ys := fun F H v Q σ S r k => by
  cases r with
  | tup e r => exact ⟨_, _, rfl, SqT.of (S.tup e), by rw [r.length, hl], h F H _ Q σ S r.vs k⟩
theorem gt_lst {K : PySem.W.Frag} {n : Nat} {t : TGs} {is : List Nat} {ds : List PyData} {ys : List Val} (h : GTs t is (ds.map .d) ys) (hl : ds.length = n) : GT (gLst K n t) is (.d (.list ds)) ys := fun F H v Q σ S r k => by
  cases r with
  | lst e r => exact ⟨_, _, rfl, SqL.of (S.lst e), by rw [r.length, hl], h F H _ Q σ S r.vs k⟩
/-- a target for tuples and lists -/
def gOr (g h : TG) : TG := fun v σ H Q => g v σ H Q ∨ h v σ H Q
theorem pg_or {X : Cx} {e : Expr} {g h : TG} (h1 : PG X e g) (h2 : PG X e h) : PG X e (gOr g h) := ⟨fun pins s σ H v u Q I r hw => by
  rcases hw with hw | hw
  · exact h1.run pins s σ H v u Q I r hw
  · exact h2.run pins s σ H v u Q I r hw⟩
theorem gt_or1 {g h : TG} {is : List Nat} {x : Val} {ys : List Val} (a : GT g is x ys) : GT (gOr g h) is x ys := fun F H v Q σ S r k => .inl (a F H v Q σ S r k)
theorem gt_or2 {g h : TG} {is : List Nat} {x : Val} {ys : List Val} (a : GT h is x ys) : GT (gOr g h) is x ys := fun F H v Q σ S r k => .inr (a F H v Q σ S r k)
variable {ρ ρ1 ρ2 ρ3 : List Slot} {ta tb : TE} {x y z : Val} {P : Out → Prop}
theorem wp_asgG {g : TG} {is : List Nat} {ys : List Val} (h : EV ta ρ x ρ1) (hg : GT g is x ys) (k : P (.nx (setsR ρ1 is ys))) : WP (tAsg ta g) ρ P := fun e F σ H D hX S q => h e F σ H _ S fun F' H' v f S' r =>
  hg F' H' v _ σ S'.sub r fun vs rv _ => q _ k F' _ H' f (S'.sets rv)

/-! ### what is walked -/
structure SI (J : It) (F : Hp) (C : Hp → Hp → Prop) (xs : List Val) : Prop where
  go : ∀ F' H i, FSub F F' → Sub F' H → C F' H → i < xs.length → J.go i H
  stop : ∀ F' H i, FSub F F' → Sub F' H → C F' H → xs.length ≤ i → J.stop i H
  yld : ∀ F' H i v H', FSub F F' → Sub F' H → C F' H → J.yld i H v H' → i < xs.length → ∃ F'' x, Al F' H F'' H' ∧ xs[i]? = some x ∧ RpV F'' v x
abbrev C0 : Hp → Hp → Prop := fun _ _ => True
def EI (wi : TI) (ρ : List Slot) (xs : List Val) (ρ' : List Slot) : Prop := ∀ e F σ H (R : It → Hp → Prop), Sta e F ρ σ H → (∀ F' H' J, FSub F F' → Sta e F' ρ' σ H' → SI J F' C0 xs → R J H') → wi σ H R
/-- .. or a slot's own container, for what leaves it as it is -/
def CW (σ : L2.St) : Option (Nat × Cont) → Hp → Hp → Prop
  | none => C0
  | some (i, c) => fun F H => ∃ a o, σ[i]? = some (some (.ref a)) ∧ H a = some o ∧ CRp F c o
def EIC (wi : TI) (ρ : List Slot) (xs : List Val) (ρ' : List Slot) (ws : Option (Nat × Cont)) : Prop :=
  (∀ i c, ws = some (i, c) → ∃ l, ρ'[i]? = some (.own l c)) ∧ ∀ e F σ H (R : It → Hp → Prop), Sta e F ρ σ H → (∀ F' H' J, FSub F F' → Sta e F' ρ' σ H' → SI J F' (CW σ ws) xs → R J H') → wi σ H R
theorem EI.c {wi : TI} {xs : List Val} (h : EI wi ρ xs ρ1) : EIC wi ρ xs ρ1 none := ⟨fun _ _ h => (by cases h), h⟩
theorem si_list {K : PySem.W.Frag} {F : Hp} {a : Addr} {vs : List V} {ds : List PyData} {C : Hp → Hp → Prop} (e : ∀ F' H, FSub F F' → Sub F' H → C F' H → ∃ vs, H a = some (.lst vs) ∧ RpAll F' vs ds) : SI (Itl K a) F C (ds.map .d) where
  go := fun F' H i f S c h => by
    obtain ⟨vs, q, r⟩ := e F' H f S c
    rw [List.length_map] at h
    have hl : i < vs.length := by rw [r.length]; exact h
    exact ⟨vs, vs[i], SqL.of q, by simp [hl]⟩
  stop := fun F' H i f S c h => by
    obtain ⟨vs, q, r⟩ := e F' H f S c
    rw [List.length_map] at h
    exact ⟨vs, SqL.of q, by rw [r.length]; exact h⟩
  yld := fun F' H i v H' f S c y h => by
    obtain ⟨rfl, y⟩ := y
    obtain ⟨vs, q, r⟩ := e F' _ f S c
    obtain ⟨d, hd, rd⟩ := r.get (y vs (SqL.of q))
    exact ⟨F', .d d, .rfl S, by rw [List.getElem?_map, hd]; rfl, rd⟩
theorem si_tup {K : PySem.W.Frag} {F : Hp} {a : Addr} {vs : List V} {ds : List PyData} (e : F a = some (.tup vs)) (r : RpAll F vs ds) : SI (Itt K a) F C0 (ds.map .d) where
  go := fun F' H i f S c h => by
    rw [List.length_map] at h
    have hl : i < vs.length := by rw [r.length]; exact h
    exact ⟨vs, vs[i], SqT.of (S.tup (f _ _ e)), by simp [hl]⟩
  stop := fun F' H i f S c h => by
    rw [List.length_map] at h
    exact ⟨vs, SqT.of (S.tup (f _ _ e)), by rw [r.length]; exact h⟩
  yld := fun F' H i v H' f S c y h => by
    obtain ⟨rfl, y⟩ := y
    obtain ⟨d, hd, rd⟩ := (r.mono f).get (y vs (SqT.of (S.tup (f _ _ e))))
    exact ⟨F', .d d, .rfl S, by rw [List.getElem?_map, hd]; rfl, rd⟩
def rangeD (lo : Int) (n : Nat) : List Val := (List.range n).map fun k : Nat => .d (.int (lo + k))
theorem si_range {lo : Int} {n : Nat} {F : Hp} : SI (Itr lo n) F C0 (rangeD lo n) where
  go := fun F' H i f S c h => show i < n by simpa [rangeD] using h
  stop := fun F' H i f S c h => show n ≤ i by simpa [rangeD] using h
  yld := fun F' H i v H' f S c y h => by
    obtain ⟨rfl, rfl⟩ := y
    have h : i < n := by simpa [rangeD] using h
    exact ⟨F', .d (.int (lo + i)), .rfl S, by unfold rangeD; rw [List.getElem?_map, List.getElem?_range h]; rfl, Rp.int _⟩
theorem ei_list {K : PySem.W.Frag} {tl : TE} {ds : List PyData} (h : EV tl ρ (.d (.list ds)) ρ1) : EI (iList K tl) ρ (ds.map .d) ρ1 := fun e F σ H R S k => h e F σ H _ S fun F' H' v f S' r => by
  cases r with
  | lst q r =>
    refine ⟨_, rfl, ⟨_, SqL.of (S'.sub.lst q)⟩, k F' H' _ f S' (si_list (vs := []) fun G L g T _ => ⟨_, T.lst (g _ _ q), r.mono g⟩)⟩
theorem ei_tup {K : PySem.W.Frag} {tl : TE} {ds : List PyData} (h : EV tl ρ (.d (.tuple ds)) ρ1) : EI (iTup K tl) ρ (ds.map .d) ρ1 := fun e F σ H R S k => h e F σ H _ S fun F' H' v f S' r => by
  cases r with
  | tup q r => exact ⟨_, rfl, ⟨_, SqT.of (S'.sub.tup q)⟩, k F' H' _ f S' (si_tup q r)⟩
/-- a source that may be a list or a tuple -/
def iOr (a b : TI) : TI := fun σ H R => a σ H R ∨ b σ H R
theorem pi_or {X : Cx} {tg e : Expr} {a b : TI} (h1 : PI X tg e a) (h2 : PI X tg e b) : PI X tg e (iOr a b) := ⟨fun pins s σ H R I h => by
  rcases h with h | h
  · exact h1.run pins s σ H R I h
  · exact h2.run pins s σ H R I h⟩
theorem ei_or1 {a b : TI} {xs : List Val} (h : EI a ρ xs ρ1) : EI (iOr a b) ρ xs ρ1 := fun e F σ H R S k => .inl (h e F σ H R S k)
theorem ei_or2 {a b : TI} {xs : List Val} (h : EI b ρ xs ρ1) : EI (iOr a b) ρ xs ρ1 := fun e F σ H R S k => .inr (h e F σ H R S k)
theorem ei_own {K : PySem.W.Frag} {i : Nat} {l : Bool} {ds : List PyData} (h : ρ[i]? = some (.own l (.lst ds))) : EIC (iList K (tVar i)) ρ (ds.map .d) ρ (some (i, .lst ds)) := by
  refine ⟨fun j c q => by cases q; exact ⟨l, h⟩, fun e F σ H R S k => ?_⟩
  obtain ⟨a, o, e1, e2, e3, ⟨vs, ev, r⟩, _⟩ := S.own i l _ h
  subst ev
  refine ⟨_, e1, a, rfl, ⟨vs, SqL.of e3⟩, k F H _ .rfl S (si_list (vs := []) fun G L g T ⟨b, u, q1, q2, ws, q3, q4⟩ => ?_)⟩
  rw [e1] at q1; cases q1; subst q3
  exact ⟨ws, q2, q4⟩
theorem ei_range1 {ta : TA} {j : Int} (h : EA ta ρ [.d (.d (.int j))] ρ1) (h1 : -(2 ^ 62) ≤ j) (h2 : j < 2 ^ 62) : EI (iRng1 ta) ρ (rangeD 0 j.toNat) ρ1 := fun e F σ H R S k => h e F σ H _ S fun F' H' vs f S' r => by
  cases r with
  | cons r t => cases r; cases t; exact ⟨j, rfl, h1, h2, k F' H' _ f S' si_range⟩
theorem ei_range2 {ta : TA} {i j : Int} (h : EA ta ρ [.d (.d (.int i)), .d (.d (.int j))] ρ1) (h1 : -(2 ^ 62) ≤ i ∧ i < 2 ^ 62 ∧ -(2 ^ 62) ≤ j ∧ j < 2 ^ 62) : EI (iRng2 ta) ρ (rangeD i (j - i).toNat) ρ1 := fun e F σ H R S k => h e F σ H _ S fun F' H' vs f S' r => by
  cases r with
  | cons r t => cases r; cases t with
    | cons r t => cases r; cases t; exact ⟨i, j, rfl, h1, k F' H' _ f S' si_range⟩

/-! ### for -/
def LoopP (I : List Slot → Prop) (P : Out → Prop) : Out → Prop
  | .nx ρ => I ρ
  | .ct ρ => I ρ
  | .bk ρ => P (.nx ρ)
  | o => P o
theorem wp_for {wi : TI} {g : TG} {tb : TS} {xs : List Val} {is : List Nat} (I : Nat → List Slot → Prop) (hi : EI wi ρ xs ρ1) (h0 : I 0 ρ1)
    (hs : ∀ i x ρ, xs[i]? = some x → I i ρ → ∃ ys, GT g is x ys ∧ WP tb (setsR ρ is ys) (LoopP (I (i + 1)) P)) (hd : ∀ ρ, I xs.length ρ → P (.nx ρ)) : WP (tFor wi g tb) ρ P := fun e F σ H D hX S q =>
  hi e F σ H _ S fun F1 H1 J f1 S1 si => by
    refine ⟨fun i m σ H => m = xs.length - i ∧ i ≤ xs.length ∧ ∃ F' ρ, FSub F1 F' ∧ Sta e F' ρ σ H ∧ I i ρ, ⟨xs.length, by simp, Nat.zero_le _, F1, ρ1, .rfl, S1, h0⟩, ?_⟩
    rintro i m σ' H' ⟨rfl, hle, F2, ρ2, f2, S2, p⟩
    by_cases hlt : i < xs.length
    · refine .inr ⟨si.go F2 H' i f2 S2.sub trivial hlt, fun σ'' H'' => ∃ F' ρ, FSub F1 F' ∧ Sta e F' ρ σ'' H'' ∧ I (i + 1) ρ, fun σ'' H'' ⟨F', ρ', a, b, c⟩ => ⟨xs.length - (i + 1), by omega, rfl, hlt, F', ρ', a, b, c⟩, fun v H'' y => ?_⟩
      obtain ⟨F3, x, A, hx, rx⟩ := si.yld F2 H' i v H'' f2 S2.sub trivial y hlt
      have S3 := S2.al A
      obtain ⟨ys, hg, hw⟩ := hs i x ρ2 hx p
      refine hg F3 H'' v _ σ' S3.sub rx fun vs rv _ => ?_
      refine hw e F3 _ H'' _ hX (S3.sets rv) fun o ho => ?_
      have f3 : FSub F1 F3 := f2.trans A.f
      cases o with
      | nx ρ' => exact fun F' σ'' H'' f S' => ⟨F', ρ', f3.trans f, S', ho⟩
      | ct ρ' => exact fun F' σ'' H'' f S' => ⟨F', ρ', f3.trans f, S', ho⟩
      | bk ρ' => exact fun F' σ'' H'' f S' => q _ (show P (.nx ρ') from ho) F' σ'' H'' ((f1.trans f3).trans f) S'
      | rt y ρ' => exact fun F' σ'' H'' v f S' r => q _ (show P (.rt y ρ') from ho) F' σ'' H'' v ((f1.trans f3).trans f) S' r
      | ro c ρ' => exact fun F' σ'' H'' a u f S' => q _ (show P (.ro c ρ') from ho) F' σ'' H'' a u ((f1.trans f3).trans f) S'
    · have e' : i = xs.length := by omega
      subst e'
      exact .inl ⟨si.stop F2 H' _ f2 S2.sub trivial (Nat.le_refl _), q _ (hd ρ2 p) F2 σ' H' (f1.trans f2) S2⟩

/-! ### comprehensions -/
def wipeR (ρ : List Slot) : List Nat → List Slot
  | [] => ρ
  | v :: vs => (wipeR ρ vs).set v .non
theorem Sta.wipe {e : En} {F H : Hp} {ρ : List Slot} {σ : L2.St} (S : Sta e F ρ σ H) : ∀ vs : List Nat, Sta e F (wipeR ρ vs) (L2.wipe σ vs) H
  | [] => S
  | v :: vs => (S.wipe vs).setN v
theorem wipeR_get {ρ : List Slot} : ∀ {vs : List Nat} {j : Nat}, j ∉ vs → (wipeR ρ vs)[j]? = ρ[j]?
  | [], _, _ => rfl
  | v :: vs, j, h => by
    have h1 : v ≠ j := fun z => h (by simp [z])
    have h2 : j ∉ vs := fun z => h (by simp [z])
    unfold wipeR; rw [List.getElem?_set_ne h1]; exact wipeR_get h2
theorem wipe_get {σ : L2.St} : ∀ {vs : List Nat} {j : Nat}, j ∉ vs → (L2.wipe σ vs)[j]? = σ[j]?
  | [], _, _ => rfl
  | v :: vs, j, h => by
    have h1 : v ≠ j := fun z => h (by simp [z])
    have h2 : j ∉ vs := fun z => h (by simp [z])
    unfold L2.wipe; rw [List.getElem?_set_ne h1]; exact wipe_get h2
theorem wipe_in {σ : L2.St} : ∀ {vs : List Nat} {j : Nat}, j ∈ vs → (L2.wipe σ vs)[j]? = if j < σ.length then some none else none
  | v :: vs, j, h => by
    unfold L2.wipe
    by_cases z : v = j
    · subst z
      rw [List.getElem?_set]
      simp [wipe_length]
    · rw [List.getElem?_set_ne z]
      exact wipe_in (by rcases List.mem_cons.mp h with q | q; exact absurd q.symm z; exact q)
theorem sets_get : ∀ {is : List Nat} {vs : List V} {σ : L2.St} {j : Nat}, j ∉ is → (sets σ is vs)[j]? = σ[j]?
  | [], _, _, _, _ => by unfold sets; rfl
  | i :: is, [], _, _, _ => by unfold sets; rfl
  | i :: is, v :: vs, σ, j, h => by
    have h1 : i ≠ j := fun z => h (by simp [z])
    have h2 : j ∉ is := fun z => h (by simp [z])
    unfold sets; rw [sets_get h2, List.getElem?_set_ne h1]
theorem setsR_get : ∀ {is : List Nat} {vs : List Val} {ρ : List Slot} {j : Nat}, j ∉ is → (setsR ρ is vs)[j]? = ρ[j]?
  | [], _, _, _, _ => by unfold setsR; rfl
  | i :: is, [], _, _, _ => by unfold setsR; rfl
  | i :: is, v :: vs, σ, j, h => by
    have h1 : i ≠ j := fun z => h (by simp [z])
    have h2 : j ∉ is := fun z => h (by simp [z])
    unfold setsR; rw [setsR_get h2, List.getElem?_set_ne h1]
theorem sets_length : ∀ {is : List Nat} {vs : List V} {σ : L2.St}, (sets σ is vs).length = σ.length
  | [], _, _ => by unfold sets; rfl
  | i :: is, [], _ => by unfold sets; rfl
  | i :: is, v :: vs, σ => by unfold sets; rw [sets_length]; simp
theorem setsR_length : ∀ {is : List Nat} {vs : List Val} {ρ : List Slot}, (setsR ρ is vs).length = ρ.length
  | [], _, _ => by unfold setsR; rfl
  | i :: is, [], _ => by unfold setsR; rfl
  | i :: is, v :: vs, σ => by unfold setsR; rw [setsR_length]; simp
theorem wipeR_length {ρ : List Slot} : ∀ {vs : List Nat}, (wipeR ρ vs).length = ρ.length
  | [] => rfl
  | v :: vs => by unfold wipeR; rw [List.length_set, wipeR_length]
/-- the slots that a block's names hide forget what was stored there -/
theorem wipe_sets {σ : L2.St} {vs is : List Nat} {ws : List V} (h : ∀ i ∈ is, i ∈ vs) : L2.wipe (sets (L2.wipe σ vs) is ws) vs = L2.wipe σ vs := by
  apply List.ext_getElem?
  intro j
  by_cases z : j ∈ vs
  · rw [wipe_in z, wipe_in z, sets_length, wipe_length]
  · rw [wipe_get z, sets_get (fun q => z (h j q))]
/-- out of a block: what it did not hide is as it stands, what it hid as it was -/
theorem Sta.unwipe {e : En} {F H F' H' : Hp} {ρ ρ' ρ1 : List Slot} {σ σ1 : L2.St} {vs : List Nat} (S : Sta e F ρ σ H) (T : Sta e F' ρ1 σ1 H') (f : FSub F F') (hσ : ∀ j, j ∉ vs → σ1[j]? = σ[j]?) (hv : ∀ j ∈ vs, ∀ l c, ρ[j]? ≠ some (.own l c))
    (hl : ρ'.length = ρ.length) (hi : ∀ j ∈ vs, ρ'[j]? = ρ[j]?) (ho : ∀ j, j ∉ vs → ρ'[j]? = ρ1[j]?) : Sta e F' ρ' σ H' where
  sub := T.sub
  f0 := S.f0.trans f
  new := T.new
  keep := T.keep
  there := T.there
  len := by rw [S.len, hl]
  val := fun i x h => by
    by_cases z : i ∈ vs
    · rw [hi i z] at h
      obtain ⟨v, e1, r⟩ := S.val i x h
      exact ⟨v, e1, r.mono f⟩
    · rw [ho i z] at h
      obtain ⟨v, e1, r⟩ := T.val i x h
      exact ⟨v, by rw [← hσ i z]; exact e1, r⟩
  own := fun i l c h => by
    by_cases z : i ∈ vs
    · rw [hi i z] at h
      exact absurd h (hv i z l c)
    · rw [ho i z] at h
      obtain ⟨a, o, e1, r⟩ := T.own i l c h
      exact ⟨a, o, by rw [← hσ i z]; exact e1, r⟩
  sep := fun i j li lj ci cj h1 h2 hn => by
    by_cases z : i ∈ vs
    · rw [hi i z] at h1; exact absurd h1 (hv i z li ci)
    by_cases y : j ∈ vs
    · rw [hi j y] at h2; exact absurd h2 (hv j y lj cj)
    rw [ho i z] at h1
    rw [ho j y] at h2
    rw [← hσ i z, ← hσ j y]
    exact T.sep i j li lj ci cj h1 h2 hn
/-- one turn of a comprehension: from R i by the item x to R (i + 1), the list made so far from A to A' -/
structure Turn1 (g : TG) (tt : TT) (te : TE) (vs : List Nat) (x : Val) (r r' : List Slot) (A A' : List PyData) : Prop where
  turn : ∃ is ys b ρ2, (∀ i ∈ is, i ∈ vs) ∧ GT g is x ys ∧ ET tt (setsR (wipeR r vs) is ys) b ρ2 ∧
    (if b = true then ∃ y ρ3, EV te ρ2 (.d y) ρ3 ∧ A' = A ++ [y] ∧ ∀ j, j ∉ vs → r'[j]? = ρ3[j]? else A' = A ∧ ∀ j, j ∉ vs → r'[j]? = ρ2[j]?)
theorem eo_lc {wi : TI} {g : TG} {tt : TT} {te : TE} {vs : List Nat} {xs : List Val} {ws : Option (Nat × Cont)} (R : Nat → List Slot) (A : Nat → List PyData) (hi : EIC wi ρ xs (R 0) ws) (hA : A 0 = [])
    (hv : ∀ i, i ≤ xs.length → ∀ j ∈ vs, ((R i)[j]? = (R 0)[j]? ∧ ∀ l c, (R i)[j]? ≠ some (.own l c))) (hl : ∀ i, i ≤ xs.length → (R i).length = (R 0).length) (hw : ∀ i k c, i ≤ xs.length → ws = some (k, c) → ∃ l, (R i)[k]? = some (.own l c))
    (hz : xs.length < sizeLine) (hs : ∀ i x, xs[i]? = some x → Turn1 g tt te vs x (R i) (R (i + 1)) (A i) (A (i + 1))) : EO (tLc wi g tt te vs) ρ (.lst (A xs.length)) (R xs.length) := fun e F σ H Q S k =>
  hi.2 e F σ H _ S fun F1 H1 J f1 S1 si D hD => by
    have hlen : ∀ i, i ≤ xs.length → (A i).length ≤ i := by
      intro i
      induction i with
      | zero => intro _; rw [hA]; exact Nat.le_refl _
      | succ i ih =>
        intro h
        have h1 := ih (by omega)
        obtain ⟨x, hx⟩ : ∃ x, xs[i]? = some x := ⟨xs[i], by simp⟩
        obtain ⟨is, ys, b, ρ2, _, _, _, q⟩ := (hs i x hx).turn
        cases b with
        | true =>
          rw [if_pos rfl] at q
          obtain ⟨y, ρ3, _, e, _⟩ := q
          rw [e]; simp; exact h1
        | false =>
          rw [if_neg (by decide)] at q
          rw [q.1]; omega
    refine ⟨fun i m H => m = xs.length - i ∧ i ≤ xs.length ∧ ∃ F' vs', FSub F1 F' ∧ Sta e F' (R i) σ H ∧ F' D = none ∧ H D = some (.lst vs') ∧ RpAll F' vs' (A i) ∧ (∀ (j : Nat) l c', (R i)[j]? = some (.own l c') → σ[j]? ≠ some (some (.ref D))),
      ⟨xs.length, by simp, Nat.zero_le _, F1, [], .rfl, S1.alloc hD, S1.sub.none hD, upd_same, by rw [hA]; exact .nil, S1.fresh hD⟩, ?_⟩
    rintro i m H2 ⟨rfl, hle, F2, vs', f2, S2, hF2, hH2, hr2, hf2⟩
    have cw : ∀ {F' H'}, Sta e F' (R i) σ H' → CW σ ws F' H' := fun {F' H'} T => by
      cases hws : ws with
      | none => trivial
      | some p =>
        obtain ⟨k, c⟩ := p
        obtain ⟨l, hk⟩ := hw i k c hle hws
        obtain ⟨a, o, e1, _, e3, r, _⟩ := T.own k l c hk
        exact ⟨a, o, e1, e3, r⟩
    by_cases hlt : i < xs.length
    · refine .inr ⟨si.go F2 H2 i f2 S2.sub (cw S2) hlt, fun H' => ∃ F' vs', FSub F1 F' ∧ Sta e F' (R (i + 1)) σ H' ∧ F' D = none ∧ H' D = some (.lst vs') ∧ RpAll F' vs' (A (i + 1)) ∧ (∀ (j : Nat) l c', (R (i + 1))[j]? = some (.own l c') → σ[j]? ≠ some (some (.ref D))),
        fun H' ⟨F', vs', q⟩ => ⟨xs.length - (i + 1), by omega, rfl, hlt, F', vs', q⟩, fun v H3 y => ?_⟩
      obtain ⟨F3, x, Ax, hx, rx⟩ := si.yld F2 H2 i v H3 f2 S2.sub (cw S2) y hlt
      have S3 := S2.al Ax
      have hH3 := Ax.h _ _ hH2
      have hF3 : F3 D = none := by
        cases z : F3 D with
        | none => rfl
        | some u =>
          rcases Ax.new D (by rw [z]; simp) with q | q
          · exact absurd hF2 q
          · rw [hH2] at q; cases q
      obtain ⟨is, ys, b, ρ2, hsub, hg, ht, hrest⟩ := (hs i x hx).turn
      -- within the block
      have W : Sta e F3 (wipeR (R i) vs) (L2.wipe σ vs) H3 := S3.wipe vs
      have W1 := W.enter
      refine hg F3 H3 v _ _ S3.sub rx fun ws' rw' hlw => ⟨wipe_sets hsub, ?_⟩
      have W2 : Sta W.sub_en F3 (setsR (wipeR (R i) vs) is ys) (sets (L2.wipe σ vs) is ws') H3 := W1.sets rw'
      refine ht _ F3 _ H3 _ W2 fun F4 H4 f4 S4 => ?_
      have hσ : ∀ j, j ∉ vs → (sets (L2.wipe σ vs) is ws')[j]? = σ[j]? := fun j hj => by
        rw [sets_get (fun q => hj (hsub j q)), wipe_get hj]
      have hfw : ∀ (j : Nat) l c', (wipeR (R i) vs)[j]? = some (.own l c') → (L2.wipe σ vs)[j]? ≠ some (some (.ref D)) := fun j l c' h => by
        by_cases z : j ∈ vs
        · rw [wipe_in z]; split <;> simp
        · rw [wipe_get z]; rw [wipeR_get z] at h; exact hf2 j l c' h
      have hp : e.H0 D = none := by
        cases z : e.H0 D with
        | none => rfl
        | some o => exact absurd hD (S1.there D (by rw [z]; simp))
      -- the end of a turn
      have fin : ∀ {F' H' ρ'}, FSub F3 F' → Sta W.sub_en F' ρ' (sets (L2.wipe σ vs) is ws') H' → (∀ j, j ∉ vs → (R (i + 1))[j]? = ρ'[j]?) → Sta e F' (R (i + 1)) σ H' ∧ H' D = some (.lst vs') ∧ F' D = none := fun {F' H' ρ'} f T q => by
        have T2 := W.leave T
        obtain ⟨g1, g2⟩ := W.apart T hH3 hp hfw
        refine ⟨S3.unwipe (vs := vs) T2 f hσ (fun j hj l c => (hv i hle j hj).2 l c) ?_ (fun j hj => ?_) q, g1, g2 hF3⟩
        · rw [hl (i + 1) hlt, hl i hle]
        · rw [(hv (i + 1) hlt j hj).1, (hv i hle j hj).1]
      have hf' : ∀ {F' H'}, Sta e F' (R (i + 1)) σ H' → F' D = none → (∀ (j : Nat) l c', (R (i + 1))[j]? = some (.own l c') → σ[j]? ≠ some (some (.ref D))) → True := fun _ _ _ => trivial
      have own_back : ∀ {F' H' ρ'}, Sta W.sub_en F' ρ' (sets (L2.wipe σ vs) is ws') H' → (∀ j, j ∉ vs → (R (i + 1))[j]? = ρ'[j]?) → ∀ (j : Nat) l c', (R (i + 1))[j]? = some (.own l c') → σ[j]? ≠ some (some (.ref D)) := fun {F' H' ρ'} T q j l c' h z => by
        by_cases y : j ∈ vs
        · exact (hv (i + 1) hlt j y).2 l c' h
        · rw [q j y] at h
          obtain ⟨a, o, e1, e2, e3, r, hq, _⟩ := T.own j l c' h
          rw [hσ j y, z] at e1
          cases e1
          have hq : H3 D = none ∨ W.sub_en.P D := hq
          rcases hq with hq | hq | ⟨i', l', c'', h1, h2⟩
          · rw [hH3] at hq; cases hq
          · exact e.pH D hq hp
          · exact hfw i' l' c'' h1 h2
      cases b with
      | true =>
        rw [if_pos rfl] at hrest ⊢
        obtain ⟨y0, ρ3, hev, hA', hR'⟩ := hrest
        refine hev _ F4 _ H4 _ S4 fun F5 H5 v5 f5 S5 r5 => ?_
        obtain ⟨T, gH, gF⟩ := fin (f4.trans f5) S5 hR'
        have own5 := own_back S5 hR'
        have r5 : Rp F5 v5 y0 := r5
        refine ⟨vs', gH, ?_, ?_⟩
        · rw [hr2.length]
          exact Nat.lt_of_le_of_lt (hlen i hle) (by omega)
        · refine ⟨F5, vs' ++ [v5], (f2.trans Ax.f).trans (f4.trans f5), ?_, gF, upd_same, ?_, own5⟩
          · exact { sub := fun b u h => by
                      rw [upd_ne (ne_of_none h gF)]; exact T.sub b u h
                    f0 := T.f0, new := T.new
                    keep := fun a o h hpp => by
                      have z : a ≠ D := fun z => by subst z; rw [hp] at h; cases h
                      rw [upd_ne z]; exact T.keep a o h hpp
                    there := fun a h => by
                      by_cases z : a = D
                      · subst z; rw [upd_same]; simp
                      · rw [upd_ne z]; exact T.there a h
                    len := T.len, val := T.val
                    own := fun j l c h => by
                      obtain ⟨a, o, e1, e2, e3, q⟩ := T.own j l c h
                      have z : a ≠ D := fun z => by subst z; exact own5 j l c h e1
                      exact ⟨a, o, e1, e2, by rw [upd_ne z]; exact e3, q⟩
                    sep := T.sep }
          · rw [hA']
            exact (hr2.mono (Ax.f.trans (f4.trans f5))).append (.cons r5 .nil)
      | false =>
        rw [if_neg (by decide)] at hrest ⊢
        obtain ⟨hA', hR'⟩ := hrest
        obtain ⟨T, gH, gF⟩ := fin f4 S4 hR'
        exact ⟨F4, vs', (f2.trans Ax.f).trans f4, T, gF, gH, by rw [hA']; exact hr2.mono (Ax.f.trans f4), own_back S4 hR'⟩
    · have e' : i = xs.length := by omega
      subst e'
      have hp : e.H0 D = none := by
        cases z : e.H0 D with
        | none => rfl
        | some o => exact absurd hD (S1.there D (by rw [z]; simp))
      exact .inl ⟨si.stop F2 H2 _ f2 S2.sub (cw S2) (Nat.le_refl _), k F2 H2 D _ (f1.trans f2) S2 hF2 hH2 ⟨vs', rfl, hr2⟩ hp hf2⟩
/-- .. that changes nothing -/
theorem eo_lc0 {α : Type} {wi : TI} {g : TG} {tt : TT} {te : TE} {vs is : List Nat} {ws : Option (Nat × Cont)} (zs : List α) (inj : α → Val) (p : α → Bool) (f : α → PyData) (ys : α → List Val) (hi : EIC wi ρ (zs.map inj) ρ1 ws) (hsub : ∀ i ∈ is, i ∈ vs)
    (hv : ∀ j ∈ vs, ∀ l c, ρ1[j]? ≠ some (.own l c)) (hz : zs.length < sizeLine)
    (hs : ∀ z ∈ zs, GT g is (inj z) (ys z) ∧ ET tt (setsR (wipeR ρ1 vs) is (ys z)) (p z) (setsR (wipeR ρ1 vs) is (ys z)) ∧ (p z = true → EV te (setsR (wipeR ρ1 vs) is (ys z)) (.d (f z)) (setsR (wipeR ρ1 vs) is (ys z)))) :
    EO (tLc wi g tt te vs) ρ (.lst ((zs.filter p).map f)) ρ1 := by
  have back : ∀ z j, j ∉ vs → ρ1[j]? = (setsR (wipeR ρ1 vs) is (ys z))[j]? := fun z j hj => by
    rw [setsR_get (fun q => hj (hsub j q)), wipeR_get hj]
  have h := eo_lc (ρ := ρ) (vs := vs) (R := fun _ => ρ1) (A := fun i => ((zs.take i).filter p).map f) hi rfl (fun i _ j hj => ⟨rfl, hv j hj⟩) (fun _ _ => rfl) (fun i k c _ hw => hi.1 k c hw) (by rw [List.length_map]; exact hz) (g := g) (tt := tt) (te := te) fun i x hx => by
    rw [List.getElem?_map] at hx
    cases hz : zs[i]? with
    | none => rw [hz] at hx; cases hx
    | some z =>
      rw [hz] at hx
      cases hx
      obtain ⟨h1, h2, h3⟩ := hs z (List.mem_of_getElem? hz)
      refine ⟨is, ys z, p z, _, hsub, h1, h2, ?_⟩
      have tk : zs.take (i + 1) = zs.take i ++ [z] := by rw [List.take_add_one, hz]; rfl
      cases hp : p z with
      | true =>
        rw [if_pos rfl]
        exact ⟨f z, _, h3 hp, by rw [tk, List.filter_append, List.map_append]; simp [hp], back z⟩
      | false =>
        rw [if_neg (by decide)]
        exact ⟨by rw [tk, List.filter_append, List.map_append]; simp [hp], back z⟩
  have e : ((zs.take (zs.map inj).length).filter p).map f = (zs.filter p).map f := by rw [List.length_map, List.take_length]
  have h : EO (tLc wi g tt te vs) ρ (.lst (((zs.take (zs.map inj).length).filter p).map f)) ρ1 := h
  rw [e] at h
  exact h
theorem et_yes : ET tYes ρ true ρ := fun e F σ H Q S k => k F H .rfl S
/-- .. without a test -/
theorem eo_lc1 {α : Type} {wi : TI} {g : TG} {te : TE} {vs is : List Nat} {ws : Option (Nat × Cont)} (zs : List α) (inj : α → Val) (f : α → PyData) (ys : α → List Val) (hi : EIC wi ρ (zs.map inj) ρ1 ws) (hsub : ∀ i ∈ is, i ∈ vs)
    (hv : ∀ j ∈ vs, ∀ l c, ρ1[j]? ≠ some (.own l c)) (hz : zs.length < sizeLine)
    (hs : ∀ z ∈ zs, GT g is (inj z) (ys z) ∧ EV te (setsR (wipeR ρ1 vs) is (ys z)) (.d (f z)) (setsR (wipeR ρ1 vs) is (ys z))) :
    EO (tLc wi g tYes te vs) ρ (.lst (zs.map f)) ρ1 := by
  have h := eo_lc0 (ρ := ρ) zs inj (fun _ => true) f ys hi hsub hv hz (tt := tYes) fun z hz => ⟨(hs z hz).1, et_yes, fun _ => (hs z hz).2⟩
  rw [List.filter_eq_self.mpr (fun _ _ => rfl)] at h
  exact h
end Pw

set_option Elab.async false
set_option linter.all false
set_option maxRecDepth 100000
namespace Pw
open PySem L2
section
variable {X : Cx}
theorem OpR.or {f : Value → Value → Sem Value} {r r' : R2} (h : OpR X f r) (h' : OpR X f r') : OpR X f (fun x y H Q => r x y H Q ∨ r' x y H Q) := fun pins s σ H x y v u Q I rx ry q => by
  rcases q with q | q
  · exact h pins s σ H x y v u Q I rx ry q
  · exact h' pins s σ H x y v u Q I rx ry q
theorem CallR.or {f : Value} {r r' : List V → Hp → VK → Prop} (h : CallR X f r) (h' : CallR X f r') : CallR X f (fun x H Q => r x H Q ∨ r' x H Q) := fun pins s σ H x u Q I rx q => by
  rcases q with q | q
  · exact h pins s σ H x u Q I rx q
  · exact h' pins s σ H x u Q I rx q
theorem SlR.or {r r' : V → Option Int → Option Int → Hp → VK → Prop} (h : SlR X r) (h' : SlR X r') : SlR X (fun x l u H Q => r x l u H Q ∨ r' x l u H Q) := by
  intro pins s σ H x v vl vu lo hi sl Q I rx hs pl pu q
  rcases q with q | q
  · exact h pins s σ H x v vl vu lo hi sl Q I rx hs pl pu q
  · exact h' pins s σ H x v vl vu lo hi sl Q I rx hs pl pu q
abbrev rStrCat : R2 := fun x y H Q => ∃ i j, x = .str i ∧ y = .str j ∧ i.length + j.length ≤ sizeLine ∧ Q (.str (i ++ j)) H
/-- + of whatever kind -/
abbrev rPlus (K : PySem.W.Frag) : R2 := fun x y H Q => (rI0 (fun i j => .int (i + j)) x y H Q) ∨ (rCatA K x y H Q ∨ (rCat x y H Q ∨ rStrCat x y H Q))
theorem op_plus : OpR X (binaryOp .Add) (rPlus X.K) := OpR.or op_add (OpR.or op_catA (OpR.or op_cat op_add_str))
abbrev rEqU (K : PySem.W.Frag) : R2 := fun x y H Q => rEq x y H Q ∨ rEqD K x y H Q
abbrev rNeU (K : PySem.W.Frag) : R2 := fun x y H Q => rNe x y H Q ∨ rNeD K x y H Q
theorem op_eqU (hu : X.A.units + 64 < cLine) : OpR X (compareOp .Eq) (rEqU X.K) := OpR.or op_eq (op_eqD hu)
theorem op_neU (hu : X.A.units + 64 < cLine) : OpR X (compareOp .NotEq) (rNeU X.K) := OpR.or op_ne (op_neD hu)
/-- in a tuple of data -/
def rInT (K : PySem.W.Frag) : R2 := fun x y H Q => ∃ d ds, Dp K H x d ∧ Dp K H y (.tuple ds) ∧ SeqAt.shaped d = true ∧ SeqAt.shaped (.tuple ds) = true ∧ Q (.bl (ds.any fun z => PyData.eqv z d)) H
def rNotInT (K : PySem.W.Frag) : R2 := fun x y H Q => ∃ d ds, Dp K H x d ∧ Dp K H y (.tuple ds) ∧ SeqAt.shaped d = true ∧ SeqAt.shaped (.tuple ds) = true ∧ Q (.bl (!ds.any fun z => PyData.eqv z d)) H
open PyProof.Rows in
theorem op_inT (hu : X.A.units + 65 < cLine) : OpR X (compareOp .In) (rInT X.K) := by
  intro pins s σ H x y v u Q I rx ry h
  obtain ⟨d, ds, hd, he, sd, se, q⟩ := h
  obtain ⟨as, r1⟩ := Dp.reads I d x v hd rx
  obtain ⟨bs, r2⟩ := Dp.reads I (.tuple ds) y u he ry
  exact SeqAt.in_tuple_reads r2 r1 (SeqAt.canLay_of_shaped se) (SeqAt.canLay_of_shaped sd) (PyProof.Rows.room_in_shaped sd hu) ⟨.bl _, H, I, rfl, q⟩
open PyProof.Rows in
theorem op_notInT (hu : X.A.units + 65 < cLine) : OpR X (compareOp .NotIn) (rNotInT X.K) := by
  intro pins s σ H x y v u Q I rx ry h
  obtain ⟨d, ds, hd, he, sd, se, q⟩ := h
  obtain ⟨as, r1⟩ := Dp.reads I d x v hd rx
  obtain ⟨bs, r2⟩ := Dp.reads I (.tuple ds) y u he ry
  exact SeqAt.notIn_tuple_reads r2 r1 (SeqAt.canLay_of_shaped se) (SeqAt.canLay_of_shaped sd) (PyProof.Rows.room_in_shaped sd hu) ⟨.bl _, H, I, rfl, q⟩
abbrev rSign : R2 := fun x y H Q => ∃ (c : Nat) (z : Str), x = .str ⟨#[c]⟩ ∧ y = .str z ∧ Q (.bl (decide (c ∈ z.cps.toList))) H
abbrev rNotSign : R2 := fun x y H Q => ∃ (c : Nat) (z : Str), x = .str ⟨#[c]⟩ ∧ y = .str z ∧ Q (.bl (!decide (c ∈ z.cps.toList))) H
abbrev rInU (K : PySem.W.Frag) : R2 := fun x y H Q => rIn K false x y H Q ∨ (rInD K x y H Q ∨ (rInT K x y H Q ∨ rSign x y H Q))
abbrev rNotInU (K : PySem.W.Frag) : R2 := fun x y H Q => rIn K true x y H Q ∨ (rNotInD K x y H Q ∨ (rNotInT K x y H Q ∨ rNotSign x y H Q))
theorem op_inU (hu : X.A.units + 65 < cLine) : OpR X (compareOp .In) (rInU X.K) := OpR.or op_in_seq (OpR.or (op_inD hu) (OpR.or (op_inT hu) op_in_sign))
theorem op_notInU (hu : X.A.units + 65 < cLine) : OpR X (compareOp .NotIn) (rNotInU X.K) := OpR.or op_notIn_seq (OpR.or (op_notInD hu) (OpR.or (op_notInT hu) op_notIn_sign))
abbrev rSlU (K : PySem.W.Frag) : V → Option Int → Option Int → Hp → VK → Prop := fun x l u H Q => rSlL K x l u H Q ∨ (rSlA K x l u H Q ∨ rSlS x l u H Q)
theorem sl_any : SlR X (rSlU X.K) := SlR.or sl_list (SlR.or sl_tupA sl_str)
theorem hu64 {A : Around} {k : Nat} (hr : Room k A) : A.units + 64 < cLine := hr.units
theorem hu65 {A : Around} {k : Nat} (hr : Room k A) : A.units + 65 < cLine := by have := hr.un; omega
end

section
variable {K : PySem.W.Frag}
theorem opd_add {i j : Int} : OpD (rPlus K) (.int i) (.int j) (.int (i + j)) := fun F H Q v w S r1 r2 k => by
  cases r1; cases r2
  exact .inl ⟨i, j, rfl, rfl, k F H _ (.rfl S) (.int _)⟩
theorem opd_cat_str {i j : Str} (h : i.length + j.length ≤ sizeLine) : OpD (rPlus K) (.str i) (.str j) (.str (i ++ j)) := fun F H Q v w S r1 r2 k => by
  cases r1; cases r2
  exact .inr (.inr (.inr ⟨i, j, rfl, rfl, h, k F H _ (.rfl S) (.str _)⟩))
theorem opd_cat_tup {xs ys : List PyData} (h : xs.length + ys.length ≤ sizeLine) : OpD (rPlus K) (.tuple xs) (.tuple ys) (.tuple (xs ++ ys)) := fun F H Q v w S r1 r2 k => by
  cases r1 with
  | tup e1 r1 => cases r2 with
    | tup e2 r2 =>
      refine .inr (.inl ⟨_, _, _, _, rfl, rfl, SqT.of (S.tup e1), SqT.of (S.tup e2), by rw [r1.length, r2.length]; exact h, fun z => ?_, fun _ z => ?_, fun _ _ p hp => ?_⟩)
      · subst z; cases r1; exact k F H _ (.rfl S) (.tup e2 r2)
      · subst z; cases r2; rw [List.append_nil] at k; exact k F H _ (.rfl S) (.tup e1 r1)
      · exact k _ _ _ (Al.one S hp) (.tup upd_same ((r1.append r2).mono (Al.one S hp).f))
theorem opd_cat_lst {xs ys : List PyData} (h : xs.length + ys.length ≤ sizeLine) : OpD (rPlus K) (.list xs) (.list ys) (.list (xs ++ ys)) := fun F H Q v w S r1 r2 k => by
  cases r1 with
  | lst e1 r1 => cases r2 with
    | lst e2 r2 =>
      refine .inr (.inr (.inl ⟨_, _, _, _, rfl, rfl, S.lst e1, S.lst e2, by rw [r1.length, r2.length]; exact h, fun p hp => ?_⟩))
      exact k _ _ _ (Al.one S hp) (.lst upd_same ((r1.append r2).mono (Al.one S hp).f))
theorem opd_I0 {g : Int → Int → Int} {i j : Int} : OpD (rI0 fun i j => .int (g i j)) (.int i) (.int j) (.int (g i j)) := fun F H Q v w S r1 r2 k => by
  cases r1; cases r2
  exact ⟨i, j, rfl, rfl, k F H _ (.rfl S) (.int _)⟩
theorem opd_sub {i j : Int} : OpD (rI0 fun i j => .int (i - j)) (.int i) (.int j) (.int (i - j)) := opd_I0
theorem opd_I {C : Int → Int → Prop} {g : Int → Int → Int} {i j : Int} (h : C i j) : OpD (rI C fun i j => .int (g i j)) (.int i) (.int j) (.int (g i j)) := fun F H Q v w S r1 r2 k => by
  cases r1; cases r2
  exact ⟨i, j, rfl, rfl, h, k F H _ (.rfl S) (.int _)⟩
theorem opd_mul {i j : Int} (h : CMul i j) : OpD (rI CMul fun i j => .int (i * j)) (.int i) (.int j) (.int (i * j)) := opd_I h
theorem opd_fdiv {i j : Int} (h : CDiv i j) : OpD (rI CDiv fun i j => .int (i / j)) (.int i) (.int j) (.int (i / j)) := opd_I h
theorem opd_mod {i j : Int} (h : 0 < j) : OpD (rI (fun _ j => 0 < j) fun i j => .int (i % j)) (.int i) (.int j) (.int (i % j)) := opd_I h
theorem opd_cmp {p : Int → Int → Bool} {i j : Int} : OpD (rI0 fun i j => .bl (p i j)) (.int i) (.int j) (.bool (p i j)) := fun F H Q v w S r1 r2 k => by
  cases r1; cases r2
  exact ⟨i, j, rfl, rfl, k F H _ (.rfl S) (.bl _)⟩
theorem opd_lt {i j : Int} : OpD (rI0 fun i j => .bl (decide (i < j))) (.int i) (.int j) (.bool (decide (i < j))) := opd_cmp
theorem opd_le {i j : Int} : OpD (rI0 fun i j => .bl (decide (i ≤ j))) (.int i) (.int j) (.bool (decide (i ≤ j))) := opd_cmp
theorem opd_gt {i j : Int} : OpD (rI0 fun i j => .bl (decide (j < i))) (.int i) (.int j) (.bool (decide (j < i))) := opd_cmp
theorem opd_ge {i j : Int} : OpD (rI0 fun i j => .bl (decide (j ≤ i))) (.int i) (.int j) (.bool (decide (j ≤ i))) := opd_cmp
theorem und_neg {i : Int} : UnD (rU fun i => .int (-i)) (.int i) (.int (-i)) := fun F H Q v S r1 k => by
  cases r1; exact ⟨i, rfl, k F H _ (.rfl S) (.int _)⟩
theorem opd_eq_int {i j : Int} : OpD (rEqU K) (.int i) (.int j) (.bool (decide (i = j))) := fun F H Q v w S r1 r2 k => by
  cases r1; cases r2
  refine .inl ⟨rfl, ?_⟩
  have e : decide (V.int i = V.int j) = decide (i = j) := by simp
  rw [e]; exact k F H _ (.rfl S) (.bl _)
theorem opd_eq_str {i j : Str} : OpD (rEqU K) (.str i) (.str j) (.bool (decide (i = j))) := fun F H Q v w S r1 r2 k => by
  cases r1; cases r2
  refine .inl ⟨rfl, ?_⟩
  have e : decide (V.str i = V.str j) = decide (i = j) := by simp
  rw [e]; exact k F H _ (.rfl S) (.bl _)
theorem opd_eq_bl {i j : Bool} : OpD (rEqU K) (.bool i) (.bool j) (.bool (decide (i = j))) := fun F H Q v w S r1 r2 k => by
  cases r1; cases r2
  refine .inl ⟨rfl, ?_⟩
  have e : decide (V.bl i = V.bl j) = decide (i = j) := by simp
  rw [e]; exact k F H _ (.rfl S) (.bl _)
theorem opd_ne_int {i j : Int} : OpD (rNeU K) (.int i) (.int j) (.bool (!decide (i = j))) := fun F H Q v w S r1 r2 k => by
  cases r1; cases r2
  refine .inl ⟨rfl, ?_⟩
  have e : decide (V.int i = V.int j) = decide (i = j) := by simp
  rw [e]; exact k F H _ (.rfl S) (.bl _)
theorem opd_ne_str {i j : Str} : OpD (rNeU K) (.str i) (.str j) (.bool (!decide (i = j))) := fun F H Q v w S r1 r2 k => by
  cases r1; cases r2
  refine .inl ⟨rfl, ?_⟩
  have e : decide (V.str i = V.str j) = decide (i = j) := by simp
  rw [e]; exact k F H _ (.rfl S) (.bl _)
theorem opd_eqD {a b : PyData} (ha : SeqAt.shaped a = true) (hb : SeqAt.shaped b = true) : OpD (rEqU K) a b (.bool (PyData.eqv a b)) := fun F H Q v w S r1 r2 k =>
  .inr ⟨a, b, r1.dp S, r2.dp S, ha, hb, k F H _ (.rfl S) (.bl _)⟩
theorem opd_neD {a b : PyData} (ha : SeqAt.shaped a = true) (hb : SeqAt.shaped b = true) : OpD (rNeU K) a b (.bool (!PyData.eqv a b)) := fun F H Q v w S r1 r2 k =>
  .inr ⟨a, b, r1.dp S, r2.dp S, ha, hb, k F H _ (.rfl S) (.bl _)⟩
theorem opd_inL {d : PyData} {ds : List PyData} (ha : SeqAt.shaped d = true) (hb : SeqAt.shaped (.list ds) = true) : OpD (rInU K) d (.list ds) (.bool (ds.any fun z => PyData.eqv z d)) := fun F H Q v w S r1 r2 k =>
  .inr (.inl ⟨d, ds, r1.dp S, r2.dp S, ha, hb, k F H _ (.rfl S) (.bl _)⟩)
theorem opd_inT {d : PyData} {ds : List PyData} (ha : SeqAt.shaped d = true) (hb : SeqAt.shaped (.tuple ds) = true) : OpD (rInU K) d (.tuple ds) (.bool (ds.any fun z => PyData.eqv z d)) := fun F H Q v w S r1 r2 k =>
  .inr (.inr (.inl ⟨d, ds, r1.dp S, r2.dp S, ha, hb, k F H _ (.rfl S) (.bl _)⟩))
theorem opd_notInL {d : PyData} {ds : List PyData} (ha : SeqAt.shaped d = true) (hb : SeqAt.shaped (.list ds) = true) : OpD (rNotInU K) d (.list ds) (.bool (!ds.any fun z => PyData.eqv z d)) := fun F H Q v w S r1 r2 k =>
  .inr (.inl ⟨d, ds, r1.dp S, r2.dp S, ha, hb, k F H _ (.rfl S) (.bl _)⟩)
theorem opd_notInT {d : PyData} {ds : List PyData} (ha : SeqAt.shaped d = true) (hb : SeqAt.shaped (.tuple ds) = true) : OpD (rNotInU K) d (.tuple ds) (.bool (!ds.any fun z => PyData.eqv z d)) := fun F H Q v w S r1 r2 k =>
  .inr (.inr (.inl ⟨d, ds, r1.dp S, r2.dp S, ha, hb, k F H _ (.rfl S) (.bl _)⟩))
theorem opd_sign {c : Nat} {z : Str} : OpD (rInU K) (.str ⟨#[c]⟩) (.str z) (.bool (decide (c ∈ z.cps.toList))) := fun F H Q v w S r1 r2 k => by
  cases r1; cases r2
  exact .inr (.inr (.inr ⟨c, z, rfl, rfl, k F H _ (.rfl S) (.bl _)⟩))
theorem opd_notSign {c : Nat} {z : Str} : OpD (rNotInU K) (.str ⟨#[c]⟩) (.str z) (.bool (!decide (c ∈ z.cps.toList))) := fun F H Q v w S r1 r2 k => by
  cases r1; cases r2
  exact .inr (.inr (.inr ⟨c, z, rfl, rfl, k F H _ (.rfl S) (.bl _)⟩))
/-- flat data: nothing, truths, numbers, texts -/
def flatD : PyData → Bool
  | .none => true | .bool _ => true | .int _ => true | .str _ => true | _ => false
theorem flat_rp {F : Hp} {v : V} {d : PyData} (r : Rp F v d) (h : flatD d = true) : flatV v = true := by
  cases r <;> first | rfl | cases h
theorem flats_rp {F : Hp} : ∀ {ds : List PyData} {vs : List V}, RpAll F vs ds → ds.all flatD = true → vs.all flatV = true
  | [], _, .nil, _ => rfl
  | d :: ds, _, .cons r t, h => by
    rw [List.all_cons, Bool.and_eq_true] at h
    rw [List.all_cons, flat_rp r h.1, flats_rp t h.2]; rfl
theorem eqV_rp {F : Hp} {v w : V} {a b : PyData} (r : Rp F v a) (q : Rp F w b) (ha : flatD a = true) (hb : flatD b = true) : eqV v w = PyData.eqv a b := by
  cases r <;> cases q <;> first | rfl | cases ha | cases hb
theorem inV_rp {F : Hp} {v : V} {d : PyData} (r : Rp F v d) (hd : flatD d = true) : ∀ {ds : List PyData} {vs : List V}, RpAll F vs ds → ds.all flatD = true → inV v vs = ds.any fun z => PyData.eqv z d
  | [], _, .nil, _ => rfl
  | e :: ds, _, .cons q t, h => by
    rw [List.all_cons, Bool.and_eq_true] at h
    show (List.any _ _) = _
    rw [List.any_cons, List.any_cons, eqV_rp q r h.1 hd]
    congr 1
    exact inV_rp r hd t h.2
theorem opd_inF {d : PyData} {ds : List PyData} (hd : flatD d = true) (hs : ds.all flatD = true) : OpD (rInU K) d (.list ds) (.bool (ds.any fun z => PyData.eqv z d)) := fun F H Q v w S r1 r2 k => by
  cases r2 with
  | lst e r =>
    refine .inl ⟨_, _, rfl, .inl (SqL.of (S.lst e)), flat_rp r1 hd, flats_rp r hs, ?_⟩
    rw [if_neg (by decide), inV_rp r1 hd r hs]
    exact k F H _ (.rfl S) (.bl _)
theorem opd_notInF {d : PyData} {ds : List PyData} (hd : flatD d = true) (hs : ds.all flatD = true) : OpD (rNotInU K) d (.list ds) (.bool (!ds.any fun z => PyData.eqv z d)) := fun F H Q v w S r1 r2 k => by
  cases r2 with
  | lst e r =>
    refine .inl ⟨_, _, rfl, .inl (SqL.of (S.lst e)), flat_rp r1 hd, flats_rp r hs, ?_⟩
    rw [if_pos rfl, inV_rp r1 hd r hs]
    exact k F H _ (.rfl S) (.bl _)
theorem opd_inFT {d : PyData} {ds : List PyData} (hd : flatD d = true) (hs : ds.all flatD = true) : OpD (rInU K) d (.tuple ds) (.bool (ds.any fun z => PyData.eqv z d)) := fun F H Q v w S r1 r2 k => by
  cases r2 with
  | tup e r =>
    refine .inl ⟨_, _, rfl, .inr (SqT.of (S.tup e)), flat_rp r1 hd, flats_rp r hs, ?_⟩
    rw [if_neg (by decide), inV_rp r1 hd r hs]
    exact k F H _ (.rfl S) (.bl _)
/-! ### items -/
theorem ixN_len {α β : Type} {xs : List α} {ys : List β} (h : xs.length = ys.length) (i : Int) : ixN xs.length i = ixN ys.length i := by rw [h]
theorem atI_rp {F : Hp} {vs : List V} {ds : List PyData} {i : Int} {d : PyData} (r : RpAll F vs ds) (h : atI ds i = some d) : ∃ v, atI vs i = some v ∧ Rp F v d := by
  unfold atI at h ⊢
  rw [ixN_len r.length]
  cases z : ixN ds.length i with
  | none => rw [z] at h; cases h
  | some j =>
    rw [z] at h
    exact r.get' h
theorem opd_ixT {ds : List PyData} {i : Int} {d : PyData} (h : atI ds i = some d) : OpD (rIx K) (.tuple ds) (.int i) d := fun F H Q v w S r1 r2 k => by
  cases r2
  cases r1 with
  | tup e r =>
    obtain ⟨u, h1, h2⟩ := atI_rp r h
    exact .inr (.inl ⟨_, _, i, u, rfl, rfl, SqT.of (S.tup e), h1, k F H u (.rfl S) h2⟩)
theorem opd_ixL {ds : List PyData} {i : Int} {d : PyData} (h : atI ds i = some d) : OpD (rIx K) (.list ds) (.int i) d := fun F H Q v w S r1 r2 k => by
  cases r2
  cases r1 with
  | lst e r =>
    obtain ⟨u, h1, h2⟩ := atI_rp r h
    exact .inl ⟨_, _, i, u, rfl, rfl, SqL.of (S.lst e), h1, k F H u (.rfl S) h2⟩
theorem opd_ixS {z : Str} {i : Int} {c : Nat} (hz : z.length ≤ sizeLine) (h : atI z.cps.toList i = some c) : OpD (rIx K) (.str z) (.int i) (.str ⟨#[c]⟩) := fun F H Q v w S r1 r2 k => by
  cases r2; cases r1
  exact .inr (.inr ⟨z, i, c, rfl, rfl, hz, h, k F H _ (.rfl S) (.str _)⟩)
theorem atI_nat {α : Type} {xs : List α} {i : Nat} {d : α} (h : xs[i]? = some d) : atI xs (i : Int) = some d := by
  have hl : i < xs.length := (List.getElem?_eq_some_iff.mp h).1
  unfold atI ixN
  rw [if_pos (by omega), if_pos (by omega)]
  show xs[(i : Int).toNat]? = some d
  rw [Int.toNat_natCast]; exact h
/-! items at written places -/
theorem opd_ix0T {a : PyData} {l : List PyData} : OpD (rIx K) (.tuple (a :: l)) (.int 0) a := opd_ixT (atI_nat (i := 0) rfl)
theorem opd_ix0L {a : PyData} {l : List PyData} : OpD (rIx K) (.list (a :: l)) (.int 0) a := opd_ixL (atI_nat (i := 0) rfl)
theorem opd_ix1T {a b : PyData} {l : List PyData} : OpD (rIx K) (.tuple (a :: b :: l)) (.int 1) b := opd_ixT (atI_nat (i := 1) rfl)
theorem opd_ix1L {a b : PyData} {l : List PyData} : OpD (rIx K) (.list (a :: b :: l)) (.int 1) b := opd_ixL (atI_nat (i := 1) rfl)
theorem opd_ix2T {a b c : PyData} {l : List PyData} : OpD (rIx K) (.tuple (a :: b :: c :: l)) (.int 2) c := opd_ixT (atI_nat (i := 2) rfl)
theorem opd_ix2L {a b c : PyData} {l : List PyData} : OpD (rIx K) (.list (a :: b :: c :: l)) (.int 2) c := opd_ixL (atI_nat (i := 2) rfl)
theorem opd_ix3T {a b c d : PyData} {l : List PyData} : OpD (rIx K) (.tuple (a :: b :: c :: d :: l)) (.int 3) d := opd_ixT (atI_nat (i := 3) rfl)
theorem opd_ix3L {a b c d : PyData} {l : List PyData} : OpD (rIx K) (.list (a :: b :: c :: d :: l)) (.int 3) d := opd_ixL (atI_nat (i := 3) rfl)
theorem opd_ix4T {a b c d e : PyData} {l : List PyData} : OpD (rIx K) (.tuple (a :: b :: c :: d :: e :: l)) (.int 4) e := opd_ixT (atI_nat (i := 4) rfl)
theorem opd_ix4L {a b c d e : PyData} {l : List PyData} : OpD (rIx K) (.list (a :: b :: c :: d :: e :: l)) (.int 4) e := opd_ixL (atI_nat (i := 4) rfl)
/-! ### slices -/
def cutD (xs : List PyData) (lo hi : Option Int) : List PyData := (xs.drop (HT.sIx xs.length 0 lo)).take (HT.sIx xs.length xs.length hi - HT.sIx xs.length 0 lo)
theorem cut_rp {F : Hp} {vs : List V} {ds : List PyData} (r : RpAll F vs ds) (lo hi : Option Int) : RpAll F (cutV vs lo hi) (cutD ds lo hi) := by
  unfold cutV cutD
  rw [r.length]
  exact (r.drop _).take _
variable {ρ ρ1 ρ2 ρ3 : List Slot} {ta tb : TE} {x y z : Val} {P : Out → Prop}
def EO1 (t : TO) (ρ : List Slot) (o : Option Int) (ρ' : List Slot) : Prop := ∀ e F σ H (Q : Option Int → Hp → Prop), Sta e F ρ σ H → (∀ F' H', FSub F F' → Sta e F' ρ' σ H' → Q o H') → t σ H Q
theorem eo_none : EO1 tNoPart ρ none ρ := fun e F σ H Q S k => k F H .rfl S
theorem eo_some {i : Int} (h : EV ta ρ (.d (.int i)) ρ1) : EO1 (tPart ta) ρ (some i) ρ1 := fun e F σ H Q S k => h e F σ H _ S fun F' H' v f S' r => by
  cases r; exact ⟨i, rfl, k F' H' f S'⟩
theorem ev_slT {tl th : TO} {ds : List PyData} {lo hi : Option Int} (h : EV ta ρ (.d (.tuple ds)) ρ1) (h1 : EO1 tl ρ1 lo ρ2) (h2 : EO1 th ρ2 hi ρ3) : EV (tSl (rSlU K) ta tl th) ρ (.d (.tuple (cutD ds lo hi))) ρ3 := fun e F σ H Q S k =>
  h e F σ H _ S fun F1 H1 v f1 S1 r1 => h1 e F1 σ H1 _ S1 fun F2 H2 f2 S2 => h2 e F2 σ H2 _ S2 fun F3 H3 f3 S3 => by
    have r : Rp F3 v (.tuple ds) := (Rp.mono f2 r1).mono f3
    cases r with
    | tup e r =>
      refine .inr (.inl ⟨_, _, rfl, SqT.of (S3.sub.tup e), fun hw => ?_, fun hw p hp => ?_⟩)
      · have hcut : cutD ds lo hi = ds := by
          unfold cutD
          rw [r.length] at hw
          rw [hw.1, hw.2]; simp
        rw [hcut] at k
        exact k F3 H3 _ ((f1.trans f2).trans f3) S3 (Rp.tup e r)
      · exact k _ _ _ (((f1.trans f2).trans f3).trans (Al.one S3.sub hp).f) (S3.al (Al.one S3.sub hp)) (Rp.tup upd_same ((cut_rp r lo hi).mono (Al.one S3.sub hp).f))
theorem eo_slL {tl th : TO} {ds : List PyData} {lo hi : Option Int} (h : EV ta ρ (.d (.list ds)) ρ1) (h1 : EO1 tl ρ1 lo ρ2) (h2 : EO1 th ρ2 hi ρ3) : EO (tSl (rSlU K) ta tl th) ρ (.lst (cutD ds lo hi)) ρ3 := fun e F σ H Q S k =>
  h e F σ H _ S fun F1 H1 v f1 S1 r1 => h1 e F1 σ H1 _ S1 fun F2 H2 f2 S2 => h2 e F2 σ H2 _ S2 fun F3 H3 f3 S3 => by
    have r : Rp F3 v (.list ds) := (Rp.mono f2 r1).mono f3
    cases r with
    | lst e r =>
      refine .inl ⟨_, _, rfl, SqL.of (S3.sub.lst e), fun p hp => ?_⟩
      exact k F3 _ p _ ((f1.trans f2).trans f3) (S3.alloc hp) (S3.sub.none hp) upd_same ⟨_, rfl, cut_rp r lo hi⟩ (S3.h0 hp) (S3.fresh hp)
theorem ev_slS {tl th : TO} {zs : Str} {lo hi : Option Int} (hz : zs.length ≤ sizeLine) (h : EV ta ρ (.d (.str zs)) ρ1) (h1 : EO1 tl ρ1 lo ρ2) (h2 : EO1 th ρ2 hi ρ3) : EV (tSl (rSlU K) ta tl th) ρ (.d (.str (cutS zs lo hi))) ρ3 := fun e F σ H Q S k =>
  h e F σ H _ S fun F1 H1 v f1 S1 r1 => h1 e F1 σ H1 _ S1 fun F2 H2 f2 S2 => h2 e F2 σ H2 _ S2 fun F3 H3 f3 S3 => by
    cases r1
    exact .inr (.inr ⟨zs, rfl, hz, k F3 H3 _ ((f1.trans f2).trans f3) S3 (Rp.str _)⟩)
/-! ### built-ins -/
abbrev rLen (K : PySem.W.Frag) : List V → Hp → VK → Prop := fun xs H Q => ∃ x n, xs = [x] ∧ LenV K x H n ∧ Q (.int n) H
theorem call_lenU {X : Cx} : CallR X (.builtin "len") (rLen X.K) := call_len
theorem cd_lenT {ds : List PyData} : CallD (rLen K) [.tuple ds] (.int ds.length) := fun F H Q vs S r k => by
  cases r with
  | cons r t => cases t; cases r with
    | tup e r =>
      refine ⟨_, _, rfl, .inr ⟨_, SqT.of (S.tup e), rfl⟩, ?_⟩
      rw [r.length]; exact k F H _ (.rfl S) (.int _)
theorem cd_lenL {ds : List PyData} : CallD (rLen K) [.list ds] (.int ds.length) := fun F H Q vs S r k => by
  cases r with
  | cons r t => cases t; cases r with
    | lst e r =>
      refine ⟨_, _, rfl, .inl ⟨_, SqL.of (S.lst e), rfl⟩, ?_⟩
      rw [r.length]; exact k F H _ (.rfl S) (.int _)
theorem cd_lenS {z : Str} (h : z.length ≤ sizeLine) : CallD (rLen K) [.str z] (.int z.length) := fun F H Q vs S r k => by
  cases r with
  | cons r t => cases t; cases r; exact ⟨_, _, rfl, ⟨h, rfl⟩, k F H _ (.rfl S) (.int _)⟩
theorem cw_len {ds : List PyData} : CallW (rLen K) (.lst ds) (.int ds.length) := fun F H Q a o S hr ⟨vs, e, r⟩ k => by
  subst e
  refine ⟨_, _, rfl, .inl ⟨_, .inl hr, rfl⟩, ?_⟩
  rw [r.length]; exact k F H _ (.rfl S) (.int _)
/-- the item of a slot's own list -/
theorem ev_ixO {i : Nat} {l : Bool} {ds : List PyData} {j : Int} {d : PyData} (h : EV tb ρ (.d (.int j)) ρ1) (h0 : ∃ l c, ρ[i]? = some (.own l c)) (h1 : ρ1[i]? = some (.own l (.lst ds))) (hd : atI ds j = some d) : EV (tOp (rIx K) (tVar i) tb) ρ (.d d) ρ1 := fun e F σ H Q S k => by
  obtain ⟨l0, c0, h0⟩ := h0
  obtain ⟨a, o, e1, _⟩ := S.own i l0 c0 h0
  refine ⟨.ref a, e1, h e F σ H _ S fun F1 H1 v f1 S1 r1 => ?_⟩
  cases r1
  obtain ⟨b, u, g1, g2, g3, ⟨vs, gv, gr⟩, _⟩ := S1.own i l _ h1
  rw [e1] at g1; cases g1; subst gv
  obtain ⟨w, h5, h6⟩ := atI_rp gr hd
  exact .inl ⟨_, _, j, w, rfl, rfl, SqL.of g3, h5, k F1 H1 w f1 S1 h6⟩
/-- is None -/
def isNone : PyData → Bool
  | .none => true
  | _ => false
theorem decNone {F : Hp} {v : V} {a : PyData} (r : Rp F v a) : decide (v = .non) = isNone a := by cases r <;> simp [isNone]
theorem ev_isN {a : PyData} (h : EV ta ρ (.d a) ρ1) : EV (tIsN ta) ρ (.d (.bool (isNone a))) ρ1 := fun e F σ H Q S k => h e F σ H _ S fun F' H' v f S' r => by
  rw [decNone r]; exact k F' H' _ f S' (Rp.bl _)
theorem ev_notN {a : PyData} (h : EV ta ρ (.d a) ρ1) : EV (tNotN ta) ρ (.d (.bool (!isNone a))) ρ1 := fun e F σ H Q S k => h e F σ H _ S fun F' H' v f S' r => by
  rw [decNone r]; exact k F' H' _ f S' (Rp.bl _)
/-! ### isinstance -/
def tyName : PyData → String
  | .none => "NoneType" | .bool _ => "bool" | .int _ => "int" | .str _ => "str" | .list _ => "list" | .tuple _ => "tuple" | .dict _ => "dict"
theorem tyx_rp {F H : Hp} {v : V} {d : PyData} (S : Sub F H) (r : Rp F v d) : TyX K H v (.type (tyName d)) := by
  cases r with
  | non => exact .base .non
  | bl b => exact .base (.bl b)
  | int i => exact .base (.int i)
  | str x => exact .base (.str x)
  | lst e _ => exact .base (.lst (S.lst e))
  | tup e _ => exact .base (.tup (S.tup e))
theorem ev_isi {d : PyData} {n : String} {b : Bool} (h : EV ta ρ (.d d) ρ1) (hb : kitB (tyName d) n = some b) : EV (tCB (rIsi K) (tCons ta (tCons (tC (.ty n)) tNil))) ρ (.d (.bool b)) ρ1 := fun e F σ H Q S k => h e F σ H _ S fun F' H' v f S' r =>
  ⟨v, .ty n, .type (tyName d), .type n, b, rfl, .ty n, tyx_rp S'.sub r, kit_ty hb, k F' H' _ f S' (Rp.bl _)⟩
theorem ev_isiT2 {d : PyData} {n m : String} {b c : Bool} (h : EV ta ρ (.d d) ρ1) (hb : kitB (tyName d) n = some b) (hc : kitB (tyName d) m = some c) : EV (tCB (rIsiT K) (tCons ta (tCons (tTup (tCons (tC (.ty n)) (tCons (tC (.ty m)) tNil))) tNil))) ρ (.d (.bool (b || c))) ρ1 := fun e F σ H Q S k => h e F σ H _ S fun F' H' v f S' r => by
  refine ⟨(show 2 ≤ sizeLine by decide), fun p hp => ?_⟩
  have A := Al.one (o := .tup [.ty n, .ty m]) S'.sub hp
  refine ⟨v, p, [.ty n, .ty m], .type (tyName d), [.type n, .type m], (b || c), rfl, upd_same, .cons (.ty n) (.cons (.ty m) .nil), tyx_rp A.sub (Rp.mono A.f r), ?_, k _ _ _ (f.trans A.f) (S'.al A) (Rp.bl _)⟩
  refine kitAny_cons (kit_ty hb) (fun z => kitAny_cons (kit_ty hc) (fun y => ?_) fun y => ?_) fun z => ?_
  · subst z; subst y; exact kitAny_nil
  · subst z; subst y; rfl
  · subst z; rfl
end
end Pw

set_option Elab.async false
set_option linter.all false
set_option maxRecDepth 100000
namespace Pw
open PySem L2
def keyD : Key → PyData
  | .inl i => .int i
  | .inr s => .str s
theorem key_rp {F : Hp} {v : V} : ∀ {k : Key}, Rp F v (keyD k) → v = kV k
  | .inl _, h => by cases h; rfl
  | .inr _, h => by cases h; rfl
theorem keys_rp {F : Hp} : ∀ {ks : List Key} {vs : List V}, RpAll F vs (ks.map keyD) → vs = ks.map kV
  | [], _, .nil => rfl
  | k :: ks, _, .cons r t => by rw [key_rp r, keys_rp t]; rfl
section
variable {κ : Type} [DecidableEq κ]
def getD (kvs : List (κ × PyData)) (k : κ) : Option PyData := (kvs.find? fun kv => decide (kv.1 = k)).map (·.2)
def putD (kvs : List (κ × PyData)) (k : κ) (v : PyData) : List (κ × PyData) :=
  if (kvs.any fun kv => decide (kv.1 = k)) = true then kvs.map (fun kv => if kv.1 = k then (kv.1, v) else kv) else kvs ++ [(k, v)]
theorem KRp.get {F : Hp} {k : κ} : ∀ {ws : List (κ × V)} {kvs : List (κ × PyData)}, KRp F ws kvs → match getD kvs k with
    | some d => ∃ v, valV ws k = some v ∧ Rp F v d
    | none => valV ws k = none
  | _, _, .nil => rfl
  | _, _, .cons (k := k') (v := v) (d := d) (ws := ws) (kvs := kvs) r t => by
    have ih := KRp.get (k := k) t
    unfold getD valV at ih ⊢
    rw [List.find?_cons, List.find?_cons]
    by_cases h : k' = k
    · simp only [h, decide_true]; exact ⟨v, rfl, r⟩
    · simp only [h, decide_false]; exact ih
theorem KRp.any {F : Hp} {k : κ} : ∀ {ws : List (κ × V)} {kvs : List (κ × PyData)}, KRp F ws kvs → (ws.any fun kv => decide (kv.1 = k)) = (kvs.any fun kv => decide (kv.1 = k))
  | _, _, .nil => rfl
  | _, _, .cons r t => by rw [List.any_cons, List.any_cons, KRp.any t]
theorem KRp.app {F : Hp} : ∀ {ws ws' : List (κ × V)} {kvs kvs' : List (κ × PyData)}, KRp F ws kvs → KRp F ws' kvs' → KRp F (ws ++ ws') (kvs ++ kvs')
  | _, _, _, _, .nil, s => s
  | _, _, _, _, .cons r t, s => .cons r (KRp.app t s)
theorem KRp.mapSet {F : Hp} {k : κ} {v : V} {d : PyData} (r : Rp F v d) : ∀ {ws : List (κ × V)} {kvs : List (κ × PyData)}, KRp F ws kvs → KRp F (ws.map (fun kv => if kv.1 = k then (kv.1, v) else kv)) (kvs.map (fun kv => if kv.1 = k then (kv.1, d) else kv))
  | _, _, .nil => .nil
  | _, _, .cons (k := k') q t => by
    rw [List.map_cons, List.map_cons]
    by_cases h : k' = k
    · simp only [h, if_true]; exact .cons r (KRp.mapSet r t)
    · simp only [h, if_false]; exact .cons q (KRp.mapSet r t)
theorem KRp.put {F : Hp} {k : κ} {v : V} {d : PyData} (r : Rp F v d) {ws : List (κ × V)} {kvs : List (κ × PyData)} (t : KRp F ws kvs) : KRp F (putK ws k v) (putD kvs k d) := by
  unfold putK putD
  rw [t.any]
  split
  · exact t.mapSet r
  · exact t.app (.cons r .nil)
end
section
variable {K : PySem.W.Frag} {ρ ρ1 ρ2 ρ3 : List Slot} {ta tb tc : TE} {x y z : Val} {P : Out → Prop} {i : Nat} {l : Bool}
/-! ### changes of one's own containers -/
theorem wp_append {ds ds' : List PyData} {d : PyData} (h0 : ρ[i]? = some (.own l (.lst ds))) (h : EV ta ρ (.d d) ρ1) (h1 : ρ1[i]? = some (.own l (.lst ds'))) (hz : ds'.length < sizeLine) (k : P (.nx (ρ1.set i (.own l (.lst (ds' ++ [d])))))) :
    WP (tDrop (tBM K "list" rAppend (tVar i) (tCons ta tNil))) ρ P := fun e F σ H D hX S q => by
  obtain ⟨a, o, e1, e2, e3, ⟨vs, ev, r⟩, _⟩ := S.own i l _ h0
  subst ev
  refine ⟨.ref a, e1, .inl ⟨rfl, _, SqL.of e3⟩, h e F σ H _ S fun F1 H1 v f1 S1 r1 => ?_⟩
  obtain ⟨b, u, g1, g2, g3, ⟨ws, gv, gr⟩, _⟩ := S1.own i l _ h1
  rw [e1] at g1; cases g1; subst gv
  refine ⟨a, ws, v, rfl, rfl, g3, by rw [gr.length]; exact hz, ?_⟩
  exact q _ k F1 σ _ f1 (S1.mut h1 e1 ⟨_, rfl, gr.append (.cons r1 .nil)⟩)
theorem wp_insert {ds ds' : List PyData} {d : PyData} {j : Nat} (h0 : ρ[i]? = some (.own l (.lst ds))) (ha : EV ta ρ (.d (.int j)) ρ1) (h : EV tb ρ1 (.d d) ρ2) (h1 : ρ2[i]? = some (.own l (.lst ds'))) (hz : ds'.length < sizeLine) (hj : j ≤ sizeLine)
    (k : P (.nx (ρ2.set i (.own l (.lst (ds'.take j ++ [d] ++ ds'.drop j)))))) :
    WP (tDrop (tBM K "list" (fun x vs H Q => ∃ (l : Addr) (xs : List V) (i : Int) (y : V), x = .ref l ∧ vs = [.int i, y] ∧ H l = some (.lst xs) ∧ xs.length < sizeLine ∧ 0 ≤ i ∧ i < 2 ^ 63 ∧
    Q .non (upd H l (.lst (xs.take i.toNat ++ [y] ++ xs.drop i.toNat)))) (tVar i) (tCons ta (tCons tb tNil)))) ρ P := fun e F σ H D hX S q => by
  obtain ⟨a, o, e1, e2, e3, ⟨vs, ev, r⟩, _⟩ := S.own i l _ h0
  subst ev
  refine ⟨.ref a, e1, .inl ⟨rfl, _, SqL.of e3⟩, ha e F σ H _ S fun F1 H1 v1 f1 S1 r1 => h e F1 σ H1 _ S1 fun F2 H2 v f2 S2 r2 => ?_⟩
  cases r1
  obtain ⟨b, u, g1, g2, g3, ⟨ws, gv, gr⟩, _⟩ := S2.own i l _ h1
  rw [e1] at g1; cases g1; subst gv
  have hj2 : (j : Int) < 2 ^ 63 := by
    have : sizeLine = 2 ^ 24 := rfl
    omega
  refine ⟨a, ws, j, v, rfl, rfl, g3, by rw [gr.length]; exact hz, Int.natCast_nonneg _, hj2, ?_⟩
  rw [Int.toNat_natCast]
  exact q _ k F2 σ _ (f1.trans f2) (S2.mut h1 e1 ⟨_, rfl, ((gr.take j).append (.cons r2 .nil)).append (gr.drop j)⟩)
/-- xs[j] = e -/
theorem wp_setL {ds : List PyData} {d : PyData} {j : Int} {m : Nat} (h : EV ta ρ (.d d) ρ1) (h0 : ∃ l c, ρ1[i]? = some (.own l c)) (hi : EV tb ρ1 (.d (.int j)) ρ2) (h1 : ρ2[i]? = some (.own l (.lst ds))) (hj : ixN ds.length j = some m)
    (k : P (.nx (ρ2.set i (.own l (.lst (ds.set m d)))))) : WP (tAsg ta (gSub (tVar i) tb rSetL)) ρ P := fun e F σ H D hX S q => h e F σ H _ S fun F1 H1 v f1 S1 r1 => by
  obtain ⟨l0, c0, h0⟩ := h0
  obtain ⟨a, o, e1, _⟩ := S1.own i l0 c0 h0
  refine ⟨.ref a, e1, hi e F1 σ H1 _ S1 fun F2 H2 w f2 S2 r2 => ?_⟩
  cases r2
  obtain ⟨b, u, g1, g2, g3, ⟨ws, gv, gr⟩, _⟩ := S2.own i l _ h1
  rw [e1] at g1; cases g1; subst gv
  refine ⟨a, ws, j, m, rfl, rfl, g3, by rw [gr.length]; exact hj, ?_⟩
  exact q _ k F2 σ _ (f1.trans f2) (S2.mut h1 e1 ⟨_, rfl, gr.set (Rp.mono f2 r1) m⟩)
/-- xs.pop(j) -/
theorem ev_popAt {ds ds' : List PyData} {d : PyData} {j : Nat} (h0 : ρ[i]? = some (.own l (.lst ds))) (ha : EV ta ρ (.d (.int j)) ρ1) (h1 : ρ1[i]? = some (.own l (.lst ds'))) (hz : ds'.length ≤ sizeLine) (hd : ds'[j]? = some d) :
    EV (tBM K "list" rPopAt (tVar i) (tCons ta tNil)) ρ (.d d) (ρ1.set i (.own l (.lst (ds'.eraseIdx j)))) := fun e F σ H Q S k => by
  obtain ⟨a, o, e1, e2, e3, ⟨vs, ev, r⟩, _⟩ := S.own i l _ h0
  subst ev
  refine ⟨.ref a, e1, .inl ⟨rfl, _, SqL.of e3⟩, ha e F σ H _ S fun F1 H1 v1 f1 S1 r1 => ?_⟩
  cases r1
  obtain ⟨b, u, g1, g2, g3, ⟨ws, gv, gr⟩, _⟩ := S1.own i l _ h1
  rw [e1] at g1; cases g1; subst gv
  obtain ⟨w, hw1, hw2⟩ := gr.get' hd
  have hjl : j < ds'.length := (List.getElem?_eq_some_iff.mp hd).1
  have hj2 : (j : Int) < 2 ^ 63 := by
    have : sizeLine = 2 ^ 24 := rfl
    omega
  refine ⟨a, ws, j, j, w, rfl, rfl, g3, by omega, hj2, ?_, hw1, k F1 _ w f1 (S1.mut h1 e1 ⟨_, rfl, gr.eraseIdx j⟩) hw2⟩
  unfold seqIndex?
  simp [gr.length]
  omega
/-! ### dicts -/
theorem wp_dputK {kvs kvs0 : List (Key × PyData)} {k0 : Key} {d : PyData} (h : EV ta ρ (.d d) ρ1) (h0 : ρ1[i]? = some (.own l (.dk kvs0))) (hk : EV tb ρ1 (.d (keyD k0)) ρ2) (h1 : ρ2[i]? = some (.own l (.dk kvs))) (hz : kvs.length < sizeLine)
    (k : P (.nx (ρ2.set i (.own l (.dk (putD kvs k0 d)))))) : WP (sDPut (tVar i) tb ta) ρ P := fun e F σ H D hX S q => h e F σ H _ S fun F1 H1 v f1 S1 r1 => by
  obtain ⟨a, o, e1, _⟩ := S1.own i l _ h0
  refine ⟨.ref a, e1, hk e F1 σ H1 _ S1 fun F2 H2 w f2 S2 r2 => ?_⟩
  have ew := key_rp r2
  subst ew
  obtain ⟨b, u, g1, g2, g3, ⟨ws, gv, gr⟩, _⟩ := S2.own i l _ h1
  rw [e1] at g1; cases g1; subst gv
  refine ⟨a, _, rfl, DPut.k g3 (by rw [gr.length]; exact hz), ?_⟩
  exact q _ k F2 σ _ (f1.trans f2) (S2.mut h1 e1 ⟨_, rfl, gr.put (Rp.mono f2 r1)⟩)
theorem wp_dputT {kvs kvs0 : List (List Key × PyData)} {k0 : List Key} {d : PyData} (h : EV ta ρ (.d d) ρ1) (h0 : ρ1[i]? = some (.own l (.dt kvs0))) (hk : EV tb ρ1 (.d (.tuple (k0.map keyD))) ρ2) (h1 : ρ2[i]? = some (.own l (.dt kvs))) (hz : kvs.length < sizeLine)
    (k : P (.nx (ρ2.set i (.own l (.dt (putD kvs k0 d)))))) : WP (sDPut (tVar i) tb ta) ρ P := fun e F σ H D hX S q => h e F σ H _ S fun F1 H1 v f1 S1 r1 => by
  obtain ⟨a, o, e1, _⟩ := S1.own i l _ h0
  refine ⟨.ref a, e1, hk e F1 σ H1 _ S1 fun F2 H2 w f2 S2 r2 => ?_⟩
  cases r2 with
  | tup q2 r2 =>
    have ew := keys_rp r2
    subst ew
    obtain ⟨b, u, g1, g2, g3, ⟨ws, gv, gr⟩, _⟩ := S2.own i l _ h1
    rw [e1] at g1; cases g1; subst gv
    refine ⟨a, _, rfl, DPut.t g3 (S2.sub.tup q2) (by rw [gr.length]; exact hz), ?_⟩
    exact q _ k F2 σ _ (f1.trans f2) (S2.mut h1 e1 ⟨_, rfl, gr.put (Rp.mono f2 r1)⟩)
/-- what a look into a dict that may be read gives -/
theorem dget_k {F H : Hp} {a : Addr} {ws : List (Key × V)} {kvs : List (Key × PyData)} {k0 : Key} {v : V} (rd : Rd H a (.dK ws)) (gr : KRp F ws kvs) (r : Rp F v (keyD k0)) : match getD kvs k0 with
    | some d => ∃ w, DGet H a v (some w) ∧ Rp F w d
    | none => DGet H a v none := by
  have ew := key_rp r
  subst ew
  have h := gr.get (k := k0)
  cases hg : getD kvs k0 with
  | none => rw [hg] at h; exact .inl ⟨ws, k0, rd, rfl, h.symm⟩
  | some d => rw [hg] at h; obtain ⟨w, h1, h2⟩ := h; exact ⟨w, .inl ⟨ws, k0, rd, rfl, h1.symm⟩, h2⟩
theorem dget_t {F H : Hp} {a : Addr} {ws : List (List Key × V)} {kvs : List (List Key × PyData)} {k0 : List Key} {v : V} (S : Sub F H) (rd : Rd H a (.dT ws)) (gr : KRp F ws kvs) (r : Rp F v (.tuple (k0.map keyD))) : match getD kvs k0 with
    | some d => ∃ w, DGet H a v (some w) ∧ Rp F w d
    | none => DGet H a v none := by
  cases r with
  | tup q r =>
    have ew := keys_rp r
    subst ew
    have h := gr.get (k := k0)
    cases hg : getD kvs k0 with
    | none => rw [hg] at h; exact .inr ⟨ws, k0, _, rd, rfl, S.tup q, h.symm⟩
    | some d => rw [hg] at h; obtain ⟨w, h1, h2⟩ := h; exact ⟨w, .inr ⟨ws, k0, _, rd, rfl, S.tup q, h1.symm⟩, h2⟩
/-- d[k], d frozen -/
theorem ev_dgetK {kvs : List (Key × PyData)} {k0 : Key} {d : PyData} (h : EV ta ρ (.c (.dk kvs)) ρ1) (hk : EV tb ρ1 (.d (keyD k0)) ρ2) (hd : getD kvs k0 = some d) : EV (tDGet ta tb) ρ (.d d) ρ2 := fun e F σ H Q S k =>
  h e F σ H _ S fun F1 H1 v f1 S1 ⟨a, o, ea, eo, ⟨ws, ew, gr⟩⟩ => hk e F1 σ H1 _ S1 fun F2 H2 w f2 S2 r2 => by
    subst ea; subst ew
    have z := dget_k (S2.sub.rd (f2 _ _ eo)) (gr.mono f2) r2
    rw [hd] at z
    obtain ⟨u, z1, z2⟩ := z
    exact ⟨a, u, rfl, z1, k F2 H2 u (f1.trans f2) S2 z2⟩
theorem ev_dgetT {kvs : List (List Key × PyData)} {k0 : List Key} {d : PyData} (h : EV ta ρ (.c (.dt kvs)) ρ1) (hk : EV tb ρ1 (.d (.tuple (k0.map keyD))) ρ2) (hd : getD kvs k0 = some d) : EV (tDGet ta tb) ρ (.d d) ρ2 := fun e F σ H Q S k =>
  h e F σ H _ S fun F1 H1 v f1 S1 ⟨a, o, ea, eo, ⟨ws, ew, gr⟩⟩ => hk e F1 σ H1 _ S1 fun F2 H2 w f2 S2 r2 => by
    subst ea; subst ew
    have z := dget_t S2.sub (S2.sub.rd (f2 _ _ eo)) (gr.mono f2) r2
    rw [hd] at z
    obtain ⟨u, z1, z2⟩ := z
    exact ⟨a, u, rfl, z1, k F2 H2 u (f1.trans f2) S2 z2⟩
/-- d[k], d a slot's own -/
theorem ev_dgetKO {kvs : List (Key × PyData)} {k0 : Key} {d : PyData} (h0 : ρ[i]? = some (.own l (.dk kvs))) (hk : EV tb ρ (.d (keyD k0)) ρ) (hd : getD kvs k0 = some d) : EV (tDGet (tVar i) tb) ρ (.d d) ρ := fun e F σ H Q S k => by
  obtain ⟨a, o, e1, e2, e3, ⟨ws, ev, r⟩, _⟩ := S.own i l _ h0
  refine ⟨.ref a, e1, hk e F σ H _ S fun F2 H2 w f2 S2 r2 => ?_⟩
  obtain ⟨b, u, g1, g2, g3, ⟨ws, gv, gr⟩, _⟩ := S2.own i l _ h0
  rw [e1] at g1; cases g1; subst gv
  have z := dget_k (.inl g3) gr r2
  rw [hd] at z
  obtain ⟨u, z1, z2⟩ := z
  exact ⟨a, u, rfl, z1, k F2 H2 u f2 S2 z2⟩
theorem ev_dgetTO {kvs : List (List Key × PyData)} {k0 : List Key} {d : PyData} (h0 : ρ[i]? = some (.own l (.dt kvs))) (hk : EV tb ρ (.d (.tuple (k0.map keyD))) ρ) (hd : getD kvs k0 = some d) : EV (tDGet (tVar i) tb) ρ (.d d) ρ := fun e F σ H Q S k => by
  obtain ⟨a, o, e1, e2, e3, ⟨ws, ev, r⟩, _⟩ := S.own i l _ h0
  refine ⟨.ref a, e1, hk e F σ H _ S fun F2 H2 w f2 S2 r2 => ?_⟩
  obtain ⟨b, u, g1, g2, g3, ⟨ws, gv, gr⟩, _⟩ := S2.own i l _ h0
  rw [e1] at g1; cases g1; subst gv
  have z := dget_t S2.sub (.inl g3) gr r2
  rw [hd] at z
  obtain ⟨u, z1, z2⟩ := z
  exact ⟨a, u, rfl, z1, k F2 H2 u f2 S2 z2⟩
theorem ev_dinK {kvs : List (Key × PyData)} {k0 : Key} (hk : EV tb ρ (.d (keyD k0)) ρ1) (h : EW ta ρ1 (.dk kvs) ρ2) : EV (tDIn tb ta) ρ (.d (.bool (getD kvs k0).isSome)) ρ2 := fun e F σ H Q S k =>
  hk e F σ H _ S fun F1 H1 v f1 S1 r1 => h e F1 σ H1 _ S1 fun F2 H2 a o f2 S2 rd ⟨ws, ew, gr⟩ => by
    subst ew
    have z := dget_k rd gr (Rp.mono f2 r1)
    cases hg : getD kvs k0 with
    | none => rw [hg] at z k; exact ⟨a, none, rfl, z, k F2 H2 _ (f1.trans f2) S2 (Rp.bl _)⟩
    | some d => rw [hg] at z k; obtain ⟨w, z1, _⟩ := z; exact ⟨a, some w, rfl, z1, k F2 H2 _ (f1.trans f2) S2 (Rp.bl _)⟩
theorem ev_dinT {kvs : List (List Key × PyData)} {k0 : List Key} (hk : EV tb ρ (.d (.tuple (k0.map keyD))) ρ1) (h : EW ta ρ1 (.dt kvs) ρ2) : EV (tDIn tb ta) ρ (.d (.bool (getD kvs k0).isSome)) ρ2 := fun e F σ H Q S k =>
  hk e F σ H _ S fun F1 H1 v f1 S1 r1 => h e F1 σ H1 _ S1 fun F2 H2 a o f2 S2 rd ⟨ws, ew, gr⟩ => by
    subst ew
    have z := dget_t S2.sub rd gr (Rp.mono f2 r1)
    cases hg : getD kvs k0 with
    | none => rw [hg] at z k; exact ⟨a, none, rfl, z, k F2 H2 _ (f1.trans f2) S2 (Rp.bl _)⟩
    | some d => rw [hg] at z k; obtain ⟨w, z1, _⟩ := z; exact ⟨a, some w, rfl, z1, k F2 H2 _ (f1.trans f2) S2 (Rp.bl _)⟩
theorem ev_dniK {kvs : List (Key × PyData)} {k0 : Key} (hk : EV tb ρ (.d (keyD k0)) ρ1) (h : EW ta ρ1 (.dk kvs) ρ2) : EV (tDNotIn tb ta) ρ (.d (.bool (!(getD kvs k0).isSome))) ρ2 := fun e F σ H Q S k =>
  hk e F σ H _ S fun F1 H1 v f1 S1 r1 => h e F1 σ H1 _ S1 fun F2 H2 a o f2 S2 rd ⟨ws, ew, gr⟩ => by
    subst ew
    have z := dget_k rd gr (Rp.mono f2 r1)
    cases hg : getD kvs k0 with
    | none => rw [hg] at z k; exact ⟨a, none, rfl, z, k F2 H2 _ (f1.trans f2) S2 (Rp.bl _)⟩
    | some d => rw [hg] at z k; obtain ⟨w, z1, _⟩ := z; exact ⟨a, some w, rfl, z1, k F2 H2 _ (f1.trans f2) S2 (Rp.bl _)⟩
/-! ### further built-ins -/
abbrev rTupOf (K : PySem.W.Frag) : List V → Hp → VK → Prop := fun xs H Q => ∃ p ys, xs = [.ref p] ∧ ((SqL K H p ys ∧ ∀ l, H l = none → Q (.ref l) (upd H l (.tup ys))) ∨ (SqT K H p ys ∧ Q (.ref p) H))
theorem call_tupU {X : Cx} : CallR X (.type "tuple") (rTupOf X.K) := call_tuple_of
theorem cw_tuple {ds : List PyData} : CallW (rTupOf K) (.lst ds) (.tuple ds) := fun F H Q a o S hr ⟨vs, e, r⟩ k => by
  subst e
  exact ⟨a, vs, rfl, .inl ⟨.inl hr, fun p hp => k _ _ _ (Al.one S hp) (.tup upd_same (r.mono (Al.one S hp).f))⟩⟩
theorem cd_tupT {ds : List PyData} : CallD (rTupOf K) [.tuple ds] (.tuple ds) := fun F H Q vs S r k => by
  cases r with
  | cons r t => cases t; cases r with
    | tup e r => exact ⟨_, _, rfl, .inr ⟨SqT.of (S.tup e), k F H _ (.rfl S) (.tup e r)⟩⟩
abbrev rLstOf (K : PySem.W.Frag) : List V → Hp → VK → Prop := fun xs H Q => ∃ p ys, xs = [.ref p] ∧ (SqL K H p ys ∨ SqT K H p ys) ∧ ∀ l, H l = none → Q (.ref l) (upd H l (.lst ys))
theorem call_lstU {X : Cx} : CallR X (.type "list") (rLstOf X.K) := call_list_of
theorem eo_listT {ds : List PyData} (h : EV ta ρ (.d (.tuple ds)) ρ1) : EO (tCB (rLstOf K) (tCons ta tNil)) ρ (.lst ds) ρ1 := fun e F σ H Q S k => h e F σ H _ S fun F1 H1 v f1 S1 r => by
  cases r with
  | tup q r => exact ⟨_, _, rfl, .inr (SqT.of (S1.sub.tup q)), fun p hp => k F1 _ p _ f1 (S1.alloc hp) (S1.sub.none hp) upd_same ⟨_, rfl, r⟩ (S1.h0 hp) (S1.fresh hp)⟩
theorem eo_listL {ds : List PyData} (h : EW ta ρ (.lst ds) ρ1) : EO (tCB (rLstOf K) (tCons ta tNil)) ρ (.lst ds) ρ1 := fun e F σ H Q S k => h e F σ H _ S fun F1 H1 a o f1 S1 hr ⟨vs, e1, r⟩ => by
  subst e1
  exact ⟨_, _, rfl, .inl (.inl hr), fun p hp => k F1 _ p _ f1 (S1.alloc hp) (S1.sub.none hp) upd_same ⟨_, rfl, r⟩ (S1.h0 hp) (S1.fresh hp)⟩
theorem cw_all {bs : List Bool} : CallW (rAll K) (.lst (bs.map .bool)) (.bool (bs.all id)) := fun F H Q a o S hr ⟨vs, e, r⟩ k => by
  subst e
  rw [r.bools] at hr
  exact ⟨a, bs, rfl, .inl hr, k F H _ (.rfl S) (.bl _)⟩
theorem cw_any {bs : List Bool} : CallW (rAny K) (.lst (bs.map .bool)) (.bool (bs.any id)) := fun F H Q a o S hr ⟨vs, e, r⟩ k => by
  subst e
  rw [r.bools] at hr
  exact ⟨a, bs, rfl, .inl hr, k F H _ (.rfl S) (.bl _)⟩
theorem cw_sum {ns : List Int} : CallW (rSum K) (.lst (ns.map .int)) (.int ns.sum) := fun F H Q a o S hr ⟨vs, e, r⟩ k => by
  subst e
  rw [r.ints] at hr
  exact ⟨a, ns, rfl, .inl hr, k F H _ (.rfl S) (.int _)⟩
theorem rpAll_strs {F : Hp} : ∀ zs : List Str, RpAll F (zs.map V.str) (zs.map PyData.str)
  | [] => .nil
  | z :: zs => .cons (.str z) (rpAll_strs zs)
theorem eo_sortedS {xs : List Str} {Rf : List Slot → List Str → Prop} (hz : xs.length < 64) (h : EW ta ρ (.lst (xs.map .str)) ρ1) (ys : List Str) (hy : ∀ zs : List Str, zs.Perm xs → PyProof.Rows.sortedS zs = true → zs = ys) : EO (tCB (rSortedS K) (tCons ta tNil)) ρ (.lst (ys.map .str)) ρ1 := fun e F σ H Q S k => h e F σ H _ S fun F1 H1 a o f1 S1 hr ⟨vs, e1, r⟩ => by
  subst e1
  rw [r.strs] at hr
  refine ⟨a, xs, rfl, .inl hr, hz, fun zs p hp hs hn => ?_⟩
  have e := hy zs hp hs
  subst e
  exact k F1 _ p _ f1 (S1.alloc hn) (S1.sub.none hn) upd_same ⟨_, rfl, rpAll_strs zs⟩ (S1.h0 hn) (S1.fresh hn)
abbrev rInt1 : List V → Hp → VK → Prop := fun xs H Q => (∃ i, xs = [.int i] ∧ Q (.int i) H) ∨ ∃ k, xs = [.bl k] ∧ Q (.int (if k then 1 else 0)) H
theorem cd_int {i : Int} : CallD rInt1 [.int i] (.int i) := fun F H Q vs S r k => by
  cases r with
  | cons r t => cases t; cases r; exact .inl ⟨i, rfl, k F H _ (.rfl S) (.int _)⟩
abbrev rAbs : List V → Hp → VK → Prop := fun xs H Q => ∃ i, xs = [.int i] ∧ Q (.int (if i < 0 then -i else i)) H
theorem cd_abs {i : Int} : CallD rAbs [.int i] (.int (if i < 0 then -i else i)) := fun F H Q vs S r k => by
  cases r with
  | cons r t => cases t; cases r; exact ⟨i, rfl, k F H _ (.rfl S) (.int _)⟩
abbrev rMax2 : List V → Hp → VK → Prop := fun xs H Q => ∃ i j, xs = [.int i, .int j] ∧ Q (.int (if j > i then j else i)) H
abbrev rMin2 : List V → Hp → VK → Prop := fun xs H Q => ∃ i j, xs = [.int i, .int j] ∧ Q (.int (if j < i then j else i)) H
theorem cd_max2 {i j : Int} : CallD rMax2 [.int i, .int j] (.int (max i j)) := fun F H Q vs S r k => by
  have e : max i j = if j > i then j else i := by omega
  cases r with
  | cons r t => cases r; cases t with
    | cons r t => cases t; cases r; exact ⟨i, j, rfl, by rw [← e]; exact k F H _ (.rfl S) (.int _)⟩
theorem cd_min2 {i j : Int} : CallD rMin2 [.int i, .int j] (.int (min i j)) := fun F H Q vs S r k => by
  have e : min i j = if j < i then j else i := by omega
  cases r with
  | cons r t => cases r; cases t with
    | cons r t => cases t; cases r; exact ⟨i, j, rfl, by rw [← e]; exact k F H _ (.rfl S) (.int _)⟩
/-- a <= b <= c -/
theorem ev_chain {r r' : R2} {a b c : PyData} {p q : Bool} (h1 : EV ta ρ (.d a) ρ) (h2 : EV tb ρ (.d b) ρ) (h3 : p = true → EV tc ρ (.d c) ρ) (o1 : OpD r a b (.bool p)) (o2 : p = true → OpD r' b c (.bool q)) : EV (tChain r r' ta tb tc) ρ (.d (.bool (p && q))) ρ := fun e F σ H Q S k =>
  h1 e F σ H _ S fun F1 H1 v f1 S1 r1 => h2 e F1 σ H1 _ S1 fun F2 H2 w f2 S2 r2 => o1 F2 H2 _ v w S2.sub (Rp.mono f2 r1) r2 fun F3 H3 u A r3 => by
    cases r3
    refine ⟨p, rfl, ?_⟩
    have f3 := (f1.trans f2).trans A.f
    cases p with
    | false => rw [if_neg (by decide)]; exact k F3 H3 _ f3 (S2.al A) (Rp.bl _)
    | true =>
      rw [if_pos rfl]
      exact h3 rfl e F3 σ H3 _ (S2.al A) fun F4 H4 z f4 S4 r4 => o2 rfl F4 H4 _ w z S4.sub ((Rp.mono A.f r2).mono f4) r4 fun F5 H5 u5 A5 r5 => k F5 H5 u5 ((f3.trans f4).trans A5.f) (S4.al A5) r5
end
end Pw

set_option Elab.async false
set_option linter.all false
set_option maxRecDepth 100000
namespace Pw
open PySem L2
section
variable {P : Program} {w : World} {K : PySem.W.Frag} {mg : Str → Option Value} {base : Heap}
/-- a def of the text under its name -/
def Df (K : PySem.W.Frag) (mg : Str → Option Value) (x : Str) (s : Stmt) : Prop := ∃ (f : Addr) (fd : FuncData), FunD K x x (defArgs s) (defBody s) (defScope s) [] [] f fd ∧ mg x = some (.ref f)
/-- a def that keeps its promise, called by its name -/
def Cal (P : Program) (w : World) (K : PySem.W.Frag) (mg : Str → Option Value) (base : Heap) (k : Nat) (x : Str) (ps : List Str) (sp : Sp) : Prop :=
  ∃ (f : Addr) (fd : FuncData), FnOk P w K mg base CX0 k f fd ps sp ∧ mg x = some (.ref f) ∧ PySem.W.keepIn K (.ref f) = true ∧ Binds K fd ps []
theorem Cal.mono {j k : Nat} {x : Str} {ps : List Str} {sp : Sp} (c : Cal P w K mg base j x ps sp) (h : j ≤ k) : Cal P w K mg base k x ps sp := by
  obtain ⟨f, fd, F, r⟩ := c
  exact ⟨f, fd, F.mono h, r⟩
theorem Cal.imp {k : Nat} {x : Str} {ps : List Str} {sp sp' : Sp} (c : Cal P w K mg base k x ps sp) (h : ∀ vs H Q E, sp' vs H Q E → sp vs H Q E) : Cal P w K mg base k x ps sp' := by
  obtain ⟨f, fd, F, r⟩ := c
  exact ⟨f, fd, F.imp h, r⟩
theorem cal_mk {x : Str} {s : Stmt} {N ps : List Str} {k : Nat} {sp : Sp} (D : Df K mg x s) (S : FnScope N ps (defScope s)) (len : ∀ vs H Q E, sp vs H Q E → vs.length = ps.length)
    (hb : ∀ (kV doc pm : Value) (an : Option Addr) (cdv ct : Value) (us : List Value), us.length = ps.length → bindArgs (PySem.W.fnOf x x (defArgs s) (defBody s) (defScope s) .none kV doc pm an cdv ct) ⟨us, []⟩ = pure (ps.zip us))
    (hbody : ∀ (f : Addr) (cdv : Value) (A : Around) (outer : List Env) (st : Shared) (H : Hp) (vs : List V) (Q : VK) (E : XK), Room k (A.deeper (PyProof.Rows.envOfC x (defScope s) st.heap.objs.size f cdv)) → sp vs H Q E →
      ∃ t, PSs (cxOf CX0 P w K mg base N x (defScope s) f cdv A outer st H E).nox (defBody s) t ∧ t { nx := fun _ H' => Q .non H', rt := Q } (L2.start N vs) H) : Cal P w K mg base (k + 1) x ps sp := by
  obtain ⟨f, fd, F, hm⟩ := D
  refine ⟨f, fd, F.ok S len fun cdv A outer st H vs Q E hr h => ?_, hm, F.kp, F.bindsN hb⟩
  obtain ⟨t, h1, h2⟩ := hbody f cdv A outer st H vs Q E hr h
  exact ⟨t, h1.nox, h2⟩
end
section
variable {X : Cx} {j k : Nat} {x : Str} {ps : List Str} {sp : Sp} {p pos : Pos} {e : Expr} {es : List Expr} {t : TA}
theorem pe_cal (c : Cal X.prog X.w X.K X.mg X.base k x ps sp) (hr : Room j X.A) (hk : k ≤ j) (hg : Gl X x) (ha : PA X (e :: es) t) (hdb : (x == ("__debug__" : Str)) = false := by decide)
    (he : starEach (e :: es) X.env = (false, eval e X.env) :: starEach es X.env := by rfl) (hpl : (backTo pos (starEach es X.env)).any (·.1) = false := by rfl) : PE X (.Call (.Name x p) (e :: es) [] pos) (tCall sp [] E0 t) := by
  obtain ⟨f, fd, F, hm, kp, b⟩ := c
  exact pe_call F (hr.mono hk) hg hm kp b .nil pass0 ha hdb he hpl
end
/-- defs of data alone, by the number of arguments -/
inductive G1 (f : PyData → PyData → Prop) : List PyData → PyData → Prop
  | mk {a y : PyData} (h : f a y) : G1 f [a] y
inductive G2 (f : PyData → PyData → PyData → Prop) : List PyData → PyData → Prop
  | mk {a b y : PyData} (h : f a b y) : G2 f [a, b] y
inductive G3 (f : PyData → PyData → PyData → PyData → Prop) : List PyData → PyData → Prop
  | mk {a b c y : PyData} (h : f a b c y) : G3 f [a, b, c] y
inductive G4 (f : PyData → PyData → PyData → PyData → PyData → Prop) : List PyData → PyData → Prop
  | mk {a b c d y : PyData} (h : f a b c d y) : G4 f [a, b, c, d] y
abbrev sp1 (f : PyData → PyData → Prop) : Sp := spG (pureG (G1 f))
abbrev sp2 (f : PyData → PyData → PyData → Prop) : Sp := spG (pureG (G2 f))
abbrev sp3 (f : PyData → PyData → PyData → PyData → Prop) : Sp := spG (pureG (G3 f))
abbrev sp4 (f : PyData → PyData → PyData → PyData → PyData → Prop) : Sp := spG (pureG (G4 f))
theorem len_of {g : List Arg → Ret → (Nat → Cont) → Prop} {n : Nat} (h : ∀ as ret outs, g as ret outs → as.length = n) {vs : List V} {H : Hp} {Q : VK} {E : XK} (s : spG g vs H Q E) : vs.length = n := by
  obtain ⟨F, as, ret, outs, _, A, _, hg, _⟩ := s
  rw [A.length, h as ret outs hg]
theorem len_pure {f : List PyData → PyData → Prop} {n : Nat} (h : ∀ ds y, f ds y → ds.length = n) {vs : List V} {H : Hp} {Q : VK} {E : XK} (s : spG (pureG f) vs H Q E) : vs.length = n :=
  len_of (fun as ret outs hg => by
    obtain ⟨ds, y, rfl, e, _⟩ := hg
    rw [List.length_map]; exact h ds y e) s
section
variable {N : List Str} {t : TS} {vs : List V} {H : Hp} {Q : VK} {E : XK}
theorem len1 {f : PyData → PyData → Prop} (s : sp1 f vs H Q E) : vs.length = 1 := len_pure (fun _ _ h => by cases h; rfl) s
theorem len2 {f : PyData → PyData → PyData → Prop} (s : sp2 f vs H Q E) : vs.length = 2 := len_pure (fun _ _ h => by cases h; rfl) s
theorem len3 {f : PyData → PyData → PyData → PyData → Prop} (s : sp3 f vs H Q E) : vs.length = 3 := len_pure (fun _ _ h => by cases h; rfl) s
theorem len4 {f : PyData → PyData → PyData → PyData → PyData → Prop} (s : sp4 f vs H Q E) : vs.length = 4 := len_pure (fun _ _ h => by cases h; rfl) s
theorem wp1 {f : PyData → PyData → Prop} (s : sp1 f vs H Q E) (h : ∀ a y, f a y → WP t (rhoD N [a]) (GoodP y)) : t { nx := fun _ H' => Q .non H', rt := Q } (L2.start N vs) H :=
  wp_pure s fun ds y e _ => by cases e with | mk e => exact h _ y e
theorem wp2 {f : PyData → PyData → PyData → Prop} (s : sp2 f vs H Q E) (h : ∀ a b y, f a b y → WP t (rhoD N [a, b]) (GoodP y)) : t { nx := fun _ H' => Q .non H', rt := Q } (L2.start N vs) H :=
  wp_pure s fun ds y e _ => by cases e with | mk e => exact h _ _ y e
theorem wp3 {f : PyData → PyData → PyData → PyData → Prop} (s : sp3 f vs H Q E) (h : ∀ a b c y, f a b c y → WP t (rhoD N [a, b, c]) (GoodP y)) : t { nx := fun _ H' => Q .non H', rt := Q } (L2.start N vs) H :=
  wp_pure s fun ds y e _ => by cases e with | mk e => exact h _ _ _ y e
theorem wp4 {f : PyData → PyData → PyData → PyData → PyData → Prop} (s : sp4 f vs H Q E) (h : ∀ a b c d y, f a b c d y → WP t (rhoD N [a, b, c, d]) (GoodP y)) : t { nx := fun _ H' => Q .non H', rt := Q } (L2.start N vs) H :=
  wp_pure s fun ds y e _ => by cases e with | mk e => exact h _ _ _ _ y e
end
section
variable {t : TA} {ρ ρ1 ρ2 ρ3 ρ4 : List Slot} {E : XK} {ta tb tc td : TE} {a b c d y : PyData}
theorem ev_c1 {f : PyData → PyData → Prop} (h1 : EV ta ρ (.d a) ρ1) (hf : f a y) : EV (tCall (sp1 f) [] E (tCons ta tNil)) ρ (.d y) ρ1 := ev_pure (ds := [a]) (ea_cons h1 ea_nil) (.mk hf)
theorem ev_c2 {f : PyData → PyData → PyData → Prop} (h1 : EV ta ρ (.d a) ρ1) (h2 : EV tb ρ1 (.d b) ρ2) (hf : f a b y) : EV (tCall (sp2 f) [] E (tCons ta (tCons tb tNil))) ρ (.d y) ρ2 := ev_pure (ds := [a, b]) (ea_cons h1 (ea_cons h2 ea_nil)) (.mk hf)
theorem ev_c3 {f : PyData → PyData → PyData → PyData → Prop} (h1 : EV ta ρ (.d a) ρ1) (h2 : EV tb ρ1 (.d b) ρ2) (h3 : EV tc ρ2 (.d c) ρ3) (hf : f a b c y) : EV (tCall (sp3 f) [] E (tCons ta (tCons tb (tCons tc tNil)))) ρ (.d y) ρ3 := ev_pure (ds := [a, b, c]) (ea_cons h1 (ea_cons h2 (ea_cons h3 ea_nil))) (.mk hf)
theorem ev_c4 {f : PyData → PyData → PyData → PyData → PyData → Prop} (h1 : EV ta ρ (.d a) ρ1) (h2 : EV tb ρ1 (.d b) ρ2) (h3 : EV tc ρ2 (.d c) ρ3) (h4 : EV td ρ3 (.d d) ρ4) (hf : f a b c d y) : EV (tCall (sp4 f) [] E (tCons ta (tCons tb (tCons tc (tCons td tNil))))) ρ (.d y) ρ4 := ev_pure (ds := [a, b, c, d]) (ea_cons h1 (ea_cons h2 (ea_cons h3 (ea_cons h4 ea_nil)))) (.mk hf)
end
/-! ### the rules with the written part by its name -/
section
variable {X : Cx} {K : PySem.W.Frag}
theorem op_plusK (K : PySem.W.Frag) (h : X.K = K := by rfl) : OpR X (binaryOp .Add) (rPlus K) := h ▸ op_plus
theorem op_eqK (K : PySem.W.Frag) (hu : X.A.units + 64 < cLine) (h : X.K = K := by rfl) : OpR X (compareOp .Eq) (rEqU K) := h ▸ op_eqU hu
theorem op_neK (K : PySem.W.Frag) (hu : X.A.units + 64 < cLine) (h : X.K = K := by rfl) : OpR X (compareOp .NotEq) (rNeU K) := h ▸ op_neU hu
theorem op_inK (K : PySem.W.Frag) (hu : X.A.units + 65 < cLine) (h : X.K = K := by rfl) : OpR X (compareOp .In) (rInU K) := h ▸ op_inU hu
theorem op_notInK (K : PySem.W.Frag) (hu : X.A.units + 65 < cLine) (h : X.K = K := by rfl) : OpR X (compareOp .NotIn) (rNotInU K) := h ▸ op_notInU hu
theorem ix_K (K : PySem.W.Frag) (h : X.K = K := by rfl) : IxR X (rIx K) := h ▸ ix_seq
theorem sl_K (K : PySem.W.Frag) (h : X.K = K := by rfl) : SlR X (rSlU K) := h ▸ sl_any
theorem call_lenK (K : PySem.W.Frag) (h : X.K = K := by rfl) : CallR X (.builtin "len") (rLen K) := h ▸ call_lenU
theorem call_isiK' (K : PySem.W.Frag) (h : X.K = K := by rfl) : CallR X (.builtin "isinstance") (rIsi K) := h ▸ call_isi
theorem call_isiTK (K : PySem.W.Frag) (h : X.K = K := by rfl) : CallR X (.builtin "isinstance") (rIsiT K) := h ▸ call_isiT
theorem cr_allK (K : PySem.W.Frag) (hc : X.calm = true) (h : X.K = K := by rfl) : CallR X (.builtin "all") (rAll K) := h ▸ cr_all hc
theorem cr_anyK (K : PySem.W.Frag) (hc : X.calm = true) (h : X.K = K := by rfl) : CallR X (.builtin "any") (rAny K) := h ▸ cr_any hc
theorem cr_sumK (K : PySem.W.Frag) (hc : X.calm = true) (h : X.K = K := by rfl) : CallR X (.builtin "sum") (rSum K) := h ▸ cr_sum hc
theorem cr_sortedSK (K : PySem.W.Frag) (h : X.K = K := by rfl) : CallR X (.builtin "sorted") (rSortedS K) := h ▸ cr_sortedS
theorem call_tupK (K : PySem.W.Frag) (h : X.K = K := by rfl) : CallR X (.type "tuple") (rTupOf K) := h ▸ call_tupU
theorem call_lstK (K : PySem.W.Frag) (h : X.K = K := by rfl) : CallR X (.type "list") (rLstOf K) := h ▸ call_lstU
theorem pi_listK {tg l : Expr} {tl : TE} (K : PySem.W.Frag) (hl : PE X l tl) (h : X.K = K := by rfl) : PI X tg l (iList K tl) := h ▸ pi_list hl
theorem pi_tupK {tg l : Expr} {tl : TE} (K : PySem.W.Frag) (hl : PE X l tl) (h : X.K = K := by rfl) : PI X tg l (iTup K tl) := h ▸ pi_tup hl
theorem pi_LT {tg l : Expr} {tl : TE} (K : PySem.W.Frag) (hl : PE X l tl) (h : X.K = K := by rfl) : PI X tg l (iOr (iList K tl) (iTup K tl)) := pi_or (pi_listK K hl h) (pi_tupK K hl h)
theorem pg_TL {es : List Expr} {k : Nat} {t : TGs} {n : Nat} {pos : Pos} (K : PySem.W.Frag) (hc : X.calm = true) (hg : PGs X es t) (h : X.K = K := by rfl)
    (hn : (assignEach es X.env).length = n := by rfl) (hst : (assignEach es X.env).findIdx? (·.1) = none := by rfl) : PG X (.Tuple es k pos) (gOr (gTup K n t) (gLst K n t)) := h ▸ pg_or (pg_tup hc hg hn hst) (pg_lst hc hg hn hst)
theorem pe_bmK {T : String} {name : Str} {id : String} {r : V → List V → Hp → VK → Prop} {o e : Expr} {es : List Expr} {to : TE} {t : TA} {apos cpos : Pos} (K : PySem.W.Frag) (pa : PySem.PlainAttrs T) (slot : PySem.Slot T name id) (hty : typeOf (.builtin id) = pure (.type "method_descriptor")) (hm : MtR X id r) (ho : PE X o to) (ha : PA X (e :: es) t) (h : X.K = K := by rfl)
    (hbase : attributeBase o name X.env (eval o X.env) = eval o X.env := by rfl)
    (hfew : ((backTo cpos (starEach (e :: es) X.env)).all (fun x => !x.1) && (backToKw cpos (keywordEach [] X.env)).all (fun x => x.1.isSome)
      && decide ((e :: es).length + ([] : List Keyword).length + (if ([] : List Keyword).isEmpty then 0 else 1) < 30)) = true := by rfl)
    (hline : (apos.endLine == cpos.line) = true := by rfl) (hs : starEach (e :: es) X.env = (false, eval e X.env) :: starEach es X.env := by rfl) (hplain : (backTo cpos (starEach es X.env)).any (·.1) = false := by rfl) :
    PE X (.Call (.Attribute o name apos) (e :: es) [] cpos) (tBM K T r to t) := h ▸ pe_bm pa slot hty hm ho ha hbase hfew hline hs hplain
end
end Pw

set_option Elab.async false
set_option linter.all false
set_option maxRecDepth 100000
/-! Own exception classes two steps below Exception, with an __init__ that keeps its argument: made, raised, caught, read. -/
namespace PySem
namespace PwX
open Builtin Builtin.ObjectAttr PySem.ESX
/-- the line of classes of such a class -/
abbrev line2 (C M : Addr) : List Value := .ref C :: .ref M :: exTail
section
variable {prog : Program} {w : World} {A : Around} {E : Value → Shared → Prop} {R : Result → Shared → Prop} {hp : Heap} {g : Array GenState} {d : Drawn} {t : Nat} {os : OsState}
theorem keep_first {K : W.Frag} {name : Str} {tk : Tok} {v : Value} {x C M : Addr} {fv : Array Value} {cd : ClassData} (X : K.In hp) (hx : hp.get? x = some { cls := .ref C, data := .fields fv }) (hcd : W.clsIn K C = some cd)
    (hm : cd.mro = line2 C M) (hh : cd.hasDict = true) (ha : W.findIn K (.ref C) name = some none)
    (hq : ∀ h' tk' dx, (∀ b o, b ≠ x → hp.get? b = some o → h'.get? b = some o) → hp.objs.size ≤ dx → dx ≠ x → h'.get? x = some { cls := .ref C, dict := some dx, data := .fields fv } →
      h'.Ns1 dx (fun y => if y = name then some v else none) → R (.ok (.ret .none)) ⟨h', g, d, tk', os⟩) :
    codeAny (model prog w) A (.call (.builtin "object.__setattr__") ⟨[.ref x, .str name tk, v], []⟩) R ⟨hp, g, d, t, os⟩ := by
  have J : W.InstAt hp x { cls := .ref C, data := .fields fv } C none := ⟨hx, rfl, rfl, trivial⟩
  have SO := F.store_object
  have away : x ≠ hp.objs.size := Nat.ne_of_lt (Heap.lt_size hx)
  have anObject : W.Looks (model prog w) hp (isInstance (.ref x) (.type "object")) true := by
    refine J.type.andThen (W.looks_mroIn X ?_)
    unfold W.mroIn
    rw [hcd, Option.bind_some, hm]
    rfl
  refine codeAny_call_builtin SO.slot.plain SO.entry ?_
  refine @W.check_slot (model prog w) _ _ ⟨hp, g, d, t, os⟩ "object.__setattr__" "object" "__setattr__" (.ref x) [.str name tk, v] [] _ SO.kind SO.split anObject (SO.args (.ref x) (.str name tk) v) ?_
  have pass : refuseLoop (.ref x) "__setattr__" cd.mro = pure () := by
    rw [hm, refuseLoop_ref, refuseLoop_ref]
    exact F.store_Exception.passes _
  have mroL : W.Looks (model prog w) hp (mroOf (.ref C)) cd.mro := (W.looks_clsIn X hcd).andThen .now
  have noTaker : W.Looks (model prog w) hp (storeTaker? none) none := .now
  have clsL : W.Looks (model prog w) hp (classData C) cd := W.looks_clsIn X hcd
  rw [W.osa_eq, refuse_eq]
  refine wpAny_bind (wpAny_bind ?_)
  refine J.type.at (wpAny_bind (mroL.at ?_))
  rw [pass]
  refine wpAny_pure (wpAny_bind ?_)
  refine J.type.at (wpAny_bind ?_)
  refine (W.looks_findIn X ha).at (wpAny_bind (noTaker.at ?_))
  show wpAny _ _ (storeInOwnDict (.ref x) (.ref C) (.str name tk) name v false) _ _ _
  cases cd
  dsimp only at hh
  subst hh
  unfold storeInOwnDict ownDictForStores
  repeat (first
    | (with_reducible refine HandSPX.store_in_new ?_ ?_)
    | (with_reducible refine wpAny_loadPart_at hx ?_)
    | (with_reducible refine clsL.at ?_)
    | wp_step)
  case refine_1 => exact ⟨_, #[], _, (Heap.get?_update_ne _ _ _ _ away.symm).trans (Heap.get?_push_at rfl rfl), rfl, fun _ z => absurd z (by simp), fun _ => rfl⟩
  case refine_2 =>
    intro h2 tk2 inDict same
    have there : (hp.push { cls := .type "dict", data := .dict #[] }).get? x = some { cls := .ref C, data := .fields fv } := Heap.get?_push_of_some _ hx
    refine hq h2 tk2 hp.objs.size ?_ (Nat.le_refl _) away.symm ?_ inDict
    · intro b o nb ob
      rw [same.2 b (Nat.ne_of_lt (Heap.lt_size ob)), Heap.get?_update_ne _ _ _ _ nb]
      exact Heap.get?_push_of_some _ ob
    · rw [same.2 x away]
      exact Heap.get?_update_self _ there rfl
end
end PwX
end PySem

namespace Pw
open PySem L2 PySem.Spec PyProof.Rows
/-- what the written part says of such a class -/
structure ExC (K : PySem.W.Frag) (C : Addr) : Prop where
  cls : ∃ M nm q N bs sn sub ab col dd k0 k1 k2 k3 k5, K.lookup C = some (excClassObj nm q C N bs (.ref M :: PySem.ESX.exTail) true sn sub ab col dd k0 k1 k2 k3 k5 "Exception.__new__")
  sa : PySem.W.findIn K (.ref C) "__setattr__" = some (some (.builtin "object.__setattr__"))
  exC : PySem.W.subIn K (.ref C) (.type "BaseException") = some true
  tyC : PySem.W.typeIn K (.ref C) = some (.type "type")
  kC : PySem.W.keepIn K (.ref C) = true
section
variable {X : Cx} {pins : List (Addr × Obj)} {σ : L2.St} {H : Hp} {s : Shared} {a C dx : Addr} {f : Str} {y : V} {u : Value} {A : Around}
/-- self.f = y upon an exception that has no dict as yet -/
theorem first_field {Q : Unit → Shared → Prop} {E : Value → Shared → Prop} (T : ExC X.K C) (I : Inv X pins σ H s) (e : H a = some (exo a C none)) (hno : PySem.W.findIn X.K (.ref C) f = some none) (ry : RelV y u)
    (h : ∀ dx s', H dx = none → dx ≠ a → Inv X pins σ (upd (upd H dx (exd dx [(f, y)])) a (exo a C (some dx))) s' → Q () s') : wpAny (model X.prog X.w) A (setAttr (.ref a) f u) Q E s := by
  obtain ⟨M, nm, q, N, bs, sn, sub, ab, col, dd, k0, k1, k2, k3, k5, hC⟩ := T.cls
  have hcl : PySem.W.clsIn X.K C = some { name := nm, bases := bs, mro := PySem.PwX.line2 C M, ns := N, qualname := q, hasDict := true, slotNames := sn, subclasses := sub, abstract := ab, collection := col, hasDel := false } := by
    unfold PySem.W.clsIn
    rw [hC]
    all_goals rfl
  obtain ⟨t1, ho⟩ := exo_at I.hok e
  cases s with
  | mk hp g d t os =>
  refine PySem.W.set_plain I.kIn (od := none) ⟨ho, rfl, rfl, trivial⟩ T.sa ?_
  refine PySem.PwX.keep_first I.kIn ho hcl rfl rfl hno fun h2 tk2 dx kept dnew dne now inD => ?_
  have free : H dx = none := I.hok.fresh dnew
  have older : ∀ {b : Addr} {o : Obj}, hp.get? b = some o → b ≠ dx := fun q => Nat.ne_of_lt (Nat.lt_of_lt_of_le (Heap.lt_size q) dnew)
  have other : ∀ {b : Addr}, H b = none → b ≠ a := fun n z => by
    subst z
    rw [e] at n
    cases n
  have look : ∀ {b : Addr} {o : HO}, H b = some o → (∀ z : exo a C none = o, False) → upd (upd H dx (exd dx [(f, y)])) a (exo a C (some dx)) b = some o := fun {b o} hb no => by
    have nb : b ≠ a := fun z => by
      subst z
      rw [e] at hb
      exact no (Option.some.inj hb)
    rw [upd_ne nb, upd_ne (ne_of_none hb free)]
    exact hb
  have turn : Un X.fs [] H (upd (upd H dx (exd dx [(f, y)])) a (exo a C (some dx))) hp h2 := {
    keep := fun b o ob nb _ _ => kept b o (other nb) ob
    slot := fun b o ob nb _ _ => ⟨o.slots, kept b o (other nb) ob⟩
    free := fun b o ob nb _ => by
      rw [upd_ne (other nb), upd_ne (older ob)]
      exact nb
    there := fun b o ob _ => by
      by_cases hb : b = a
      · subst hb
        exact ⟨_, now⟩
      · exact ⟨o, kept b o hb ob⟩
    tups := fun b xs hb => look hb exo_tup
    frzs := fun b o v hb => look hb exo_frz
    tbls := fun b ps hb => ⟨#[], by
      rw [look hb exo_tbl]
      simp⟩ }
  refine h dx _ free dne (I.un (t' := tk2) turn fun b o hb => ?_)
  by_cases z : b = a
  · subst z
    rw [upd_same] at hb
    cases hb
    exact exo_ok now
  · rw [upd_ne z] at hb
    by_cases z2 : b = dx
    · subst z2
      rw [upd_same] at hb
      cases hb
      exact exd_ok inD (relO_put (fs := []) ry fun _ => True.intro)
    · rw [upd_ne z2] at hb
      refine (I.hok b o hb).stay (fun c v hc oc => kept c v (fun zc => ?_) oc) (fun c hc => look hc exo_own) fun c xs hc => look hc exo_tup
      subst zc
      rcases hc with hc | hc
      · exact z hc.symm
      · rw [e] at hc
        exact exo_own (Option.some.inj hc)
end
/-- self.f = e -/
def tExst (K : PySem.W.Frag) (f : Str) (to te : TE) : TS := fun D σ H => te σ H fun y H1 => to σ H1 fun x H2 => ∃ a C : Addr, x = .ref a ∧ ExC K C ∧ PySem.W.findIn K (.ref C) f = some none ∧ H2 a = some (exo a C none) ∧
  ∀ dx, H2 dx = none → dx ≠ a → D.nx σ (upd (upd H2 dx (exd dx [(f, y)])) a (exo a C (some dx)))
/-- an __init__ that keeps its one argument as f -/
def spKeep (K : PySem.W.Frag) (f : Str) : Sp := fun vs H Q _ => ∃ (a C : Addr) (v : V), vs = [.ref a, v] ∧ ExC K C ∧ PySem.W.findIn K (.ref C) f = some none ∧ H a = some (exo a C none) ∧
  ∀ dx, H dx = none → dx ≠ a → Q .non (upd (upd H dx (exd dx [(f, v)])) a (exo a C (some dx)))
section
variable {X : Cx} {o e : Expr} {es : List Expr} {to te : TE} {ta : TA} {f : Str} {p p' pos : Pos}
theorem ps_exst (ho : PE X o to) (he : PE X e te) (hs : swapsWith e (some (.Attribute o f p')) pos.line X.env = pure false := by rfl) : PS X (.Assign [.Attribute o f p'] e pos) (tExst X.K f to te) := ⟨fun pins s σ H D I h => by
  refine plainObj_wpAny_Assign_Attribute ?_ hs
  refine thn (he.run pins s σ H _ I h) fun v s1 ⟨y, H1, I1, r1, q1⟩ => ?_
  refine thn (ho.run pins s1 σ H1 _ I1 q1) fun u s2 ⟨x, H2, I2, r2, a, C, ex, T, hno, ea, q⟩ => ?_
  subst ex
  cases r2
  exact first_field T I2 ea hno r1 fun dx s' n ne J => ⟨σ, _, J, q dx n ne⟩⟩
/-- the heap behind C(v) -/
abbrev madeH (H : Hp) (a dx C : Addr) (f : Str) (v : V) : Hp := upd (upd (upd H a (exo a C none)) dx (exd dx [(f, v)])) a (exo a C (some dx))
/-- C(e), a value: the new exception -/
def tExmk (C : Addr) (f : Str) (ta : TA) : TE := fun σ H Q => ta σ H fun vs H1 => ∃ v, vs = [v] ∧ ∀ a dx, H1 a = none → H1 dx = none → dx ≠ a → Q (.ref a) (madeH H1 a dx C f v)
/-- C(e), to be raised -/
def tExr (C : Addr) (f : Str) (ta : TA) : L2.St → Hp → XK → Prop := fun σ H Q => ta σ H fun vs H1 => ∃ v, vs = [v] ∧ ∀ dx, H1 dx = none → Q (.ref C) (some dx) (upd H1 dx (.xd [(f, v)]))
/-- the class at C under the name x, made by __init__ -/
structure ExMk (P : Program) (w : World) (K : PySem.W.Frag) (mg : Str → Option Value) (base : Heap) (k : Nat) (x : Str) (C : Addr) (f : Str) : Prop where
  T : ExC K C
  m : mg x = some (.ref C)
  no : PySem.W.findIn K (.ref C) f = some none
  ini : ∃ (fI : Addr) (fd : FuncData) (ps : List Str), PySem.W.findIn K (.ref C) "__init__" = some (some (.ref fI)) ∧ PySem.W.typeIn K (.ref fI) = some (.type "function") ∧ FnOk P w K mg base CX0 k fI fd ps (spKeep K f) ∧ Binds K fd ps [] ∧ ∀ (s : Shared) (a b : Value), BindsTo s fd ⟨[a], [(f, b)]⟩ (ps.zip [a, b])
theorem tail_same (M : Addr) (T : String) : (Value.ref M :: PySem.ESX.exTail).contains (.type T) = PySem.ESX.exTail.contains (.type T) := by
  rw [List.contains_cons]
  rfl
/-- the run of C(v): what stands behind its __init__ -/
theorem mk_run {pins : List (Addr × Obj)} {σ : L2.St} {H1 : Hp} {hp : Heap} {g : Array GenState} {dr : Drawn} {tk : Nat} {os : OsState} {k : Nat} {x : Str} {C : Addr} {u : Value} {v : V} {Q : Value → Shared → Prop} {E : Value → Shared → Prop} (G : ExMk X.prog X.w X.K X.mg X.base k x C f) (hr : Room (k + 1) X.A) (I1 : Inv X pins σ H1 ⟨hp, g, dr, tk, os⟩) (r : RelV v u)
    (h : ∀ (hp2 : Heap) (s2 : Shared) (uu : Value), (∀ b o, hp.get? b = some o → hp2.get? b = some o) → Inv X pins σ (upd H1 (hp.objs.size + 1) (exo (hp.objs.size + 1) C none)) ⟨hp2, g, dr, tk, os⟩ → H1 (hp.objs.size + 1) = none →
      CE X.stack X.prog X.w (upd H1 (hp.objs.size + 1) (exo (hp.objs.size + 1) C none)) ⟨hp2, g, dr, tk, os⟩ (fun z H2 => z = .non ∧ ∃ dx, H1 dx = none ∧ dx ≠ hp.objs.size + 1 ∧ H2 = madeH H1 (hp.objs.size + 1) dx C f v) uu s2 → Q (.ref (hp.objs.size + 1)) s2) : wpAny (model X.prog X.w) X.A (call (.ref C) [u]) Q E ⟨hp, g, dr, tk, os⟩ := by
  obtain ⟨M, nm, q, N, bs, sn, sub, ab, col, dd, k0, k1, k2, k3, k5, hC⟩ := G.T.cls
  obtain ⟨fI, fd, ps, iC, tI, F1, hb, _⟩ := G.ini
  have fresh : H1 (hp.objs.size + 1) = none := I1.hok.fresh (Nat.le_succ _)
  have kept : ∀ b o, hp.get? b = some o → ((hp.push (PySem.W.kdv_tup [u])).push (PySem.HandSPX.excO C hp.objs.size)).get? b = some o := fun b o ob => Heap.get?_push_of_some _ (Heap.get?_push_of_some _ ob)
  have made : ((hp.push (PySem.W.kdv_tup [u])).push (PySem.HandSPX.excO C hp.objs.size)).get? (hp.objs.size + 1) = some (PySem.HandSPX.excO C hp.objs.size) := by heap_get
  have I2 : Inv X pins σ (upd H1 (hp.objs.size + 1) (exo (hp.objs.size + 1) C none)) ⟨(hp.push (PySem.W.kdv_tup [u])).push (PySem.HandSPX.excO C hp.objs.size), g, dr, tk, os⟩ := I1.laid (t' := tk) kept (Nat.le_succ _) (exo_ok made)
  have r2 : Vals [V.ref (hp.objs.size + 1), v] [Value.ref (hp.objs.size + 1), u] := .cons rfl (.cons r .nil)
  have asked : spKeep X.K f [V.ref (hp.objs.size + 1), v] (upd H1 (hp.objs.size + 1) (exo (hp.objs.size + 1) C none)) (fun z H2 => z = .non ∧ ∃ dx, H1 dx = none ∧ dx ≠ hp.objs.size + 1 ∧ H2 = madeH H1 (hp.objs.size + 1) dx C f v) E0 :=
    ⟨_, C, v, rfl, G.T, G.no, upd_same, fun dx n ne => ⟨rfl, dx, by rw [upd_ne ne] at n; exact n, ne, rfl⟩⟩
  have hl : ([Value.ref (hp.objs.size + 1), u] ++ ([] : List Value)).length = ps.length := by
    have z := F1.len _ _ _ _ asked
    rw [← z]; rfl
  refine wpAny_call (PySem.HandSPX.call_own F.excBase_Exception (tail_same M) (I1.kIn _ _ hC) (PySem.W.looks_findIn I1.kIn iC) (fun self => PySem.W.bind_fn I1.kIn self tI) (show 1 ≤ sizeLine by decide) ?_)
  refine codeAny_mono (F1.run _ X.stack _ _ ⟨[Value.ref (hp.objs.size + 1), u], []⟩ [Value.ref (hp.objs.size + 1), u] _ _ E0 (hr.make C [u] []) (I2.env0.make C [u] []) (hb _ [Value.ref (hp.objs.size + 1), u] I2.kIn hl) r2 asked) fun res s2 back => ?_
  cases res with
  | error er => exact False.elim back
  | ok fl =>
    cases fl with
    | next => exact False.elim back
    | brk => exact False.elim back
    | cont => exact False.elim back
    | ret uu =>
      have back : CE X.stack X.prog X.w _ _ _ uu s2 := back
      have isNone : uu = .none := by
        obtain ⟨_, _, _, _, _, _, rz, ez, _⟩ := back
        subst ez
        exact rz
      exact ⟨isNone, h _ s2 uu kept I2 fresh back⟩
/-- C(e) as a value -/
theorem pe_exmk {k : Nat} {x : Str} {C : Addr} (G : ExMk X.prog X.w X.K X.mg X.base k x C f) (hr : Room (k + 1) X.A) (hg : Gl X x) (ha : PA X (e :: es) ta) (hdb : (x == ("__debug__" : Str)) = false := by decide)
    (hs : starEach (e :: es) X.env = (false, eval e X.env) :: starEach es X.env := by rfl) (hpl : (backTo pos (starEach es X.env)).any (·.1) = false := by rfl) : PE X (.Call (.Name x p) (e :: es) [] pos) (tExmk C f ta) := ⟨fun pins s σ H Q I h => by
  refine wpAny_Call_Name_kw (ld_glob I hg G.m ?_ hdb)
  refine PySem.W.callWith_K (h₀ := X.base) I.ok.mod.kin G.T.kC (thn (ha.run pos pins s σ H _ I h) fun us s1 ⟨vs, H1, I1, r1, v, ev, q⟩ => ⟨I1.kIn, ?_⟩) hs hpl
  subst ev
  cases r1 with
  | cons r rr =>
    cases rr
    cases s1 with
    | mk hp g dr tk os =>
    refine mk_run G hr I1 r fun hp2 s2 uu kept I2 fresh back => ?_
    obtain ⟨z, H2, J, rz, ez, dx, n, ne, eH⟩ := I2.after back
    subst eH
    exact ⟨.ref _, _, J, rfl, q _ dx fresh n ne⟩⟩
/-- C(e), raised -/
theorem pmk_exmk {k : Nat} {x : Str} {C : Addr} (G : ExMk X.prog X.w X.K X.mg X.base k x C f) (hr : Room (k + 1) X.A) (hg : Gl X x) (ha : PA X (e :: es) ta) (hdb : (x == ("__debug__" : Str)) = false := by decide)
    (hs : starEach (e :: es) X.env = (false, eval e X.env) :: starEach es X.env := by rfl) (hpl : (backTo pos (starEach es X.env)).any (·.1) = false := by rfl) : PMk X (.Call (.Name x p) (e :: es) [] pos) (tExr C f ta) := fun pins s σ H Q I h => by
  refine wpAny_Call_Name_kw (ld_glob I hg G.m ?_ hdb)
  refine PySem.W.callWith_K (h₀ := X.base) I.ok.mod.kin G.T.kC (thn (ha.run pos pins s σ H _ I h) fun us s1 ⟨vs, H1, I1, r1, v, ev, q⟩ => ⟨I1.kIn, ?_⟩) hs hpl
  subst ev
  cases r1 with
  | cons r rr =>
    cases rr
    cases s1 with
    | mk hp g dr tk os =>
    refine mk_run G hr I1 r fun hp2 s2 uu kept I2 fresh back => ?_
    obtain ⟨z, H2, os2, bare2, un2, hok2, rz, ez, dx, n, ne, eH⟩ := back
    subst eH
    cases s2 with
    | mk h2 g2 d2 t2 os2' =>
    have na : dx ≠ hp.objs.size + 1 := ne
    refine mk_end (raises_own G.T.exC G.T.tyC) I1 (Nat.le_succ _) kept un2 hok2 os2 bare2 (d := dx) (fs := [(f, v)]) upd_same ((upd_ne na).trans upd_same) n ?_
    have e1 : upd (del (madeH H1 (hp.objs.size + 1) dx C f v) (hp.objs.size + 1)) dx (.xd [(f, v)]) = upd H1 dx (.xd [(f, v)]) := by
      funext b
      by_cases zb : b = dx
      · subst zb
        rw [upd_same, upd_same]
      · rw [upd_ne zb, upd_ne zb]
        by_cases za : b = hp.objs.size + 1
        · subst za
          rw [del_same, fresh]
        · exact (del_ne za).trans ((upd_ne za).trans ((upd_ne zb).trans (upd_ne za)))
    rw [e1]
    exact q dx n
/-- the field of an exception that is held -/
def tExfld (K : PySem.W.Frag) (f : Str) (te : TE) : TE := fun σ H Q => te σ H fun x H1 => ∃ (a C dx : Addr) (fs : List (Str × V)) (v : V), x = .ref a ∧ XfC K C ∧ PySem.W.findIn K (.ref C) f = some none ∧ H1 a = some (exo a C (some dx)) ∧ H1 dx = some (exd dx fs) ∧ fs.lookup f = some v ∧ Q v H1
theorem pe_exfld (he : PE X e te) (hb : attributeBase e f X.env (eval e X.env) = eval e X.env := by rfl) : PE X (.Attribute e f pos) (tExfld X.K f te) := ⟨fun pins s σ H Q I h => by
  refine attr_of hb (thn (he.run pins s σ H _ I h) fun u s1 ⟨x, H1, I1, rx, a, C, dx, fs, v, ex, T, hno, ea, ed, l, q⟩ => ?_)
  subst ex
  cases rx
  obtain ⟨t1, oa⟩ := exo_at I1.hok ea
  obtain ⟨mA, hns, hr⟩ := exd_at I1.hok ed
  obtain ⟨od, ho, hl⟩ := lookIn_ns hns
  obtain ⟨u, hu, ru⟩ := RelO.some_of (v := v) (o := mA f) (by rw [← l]; exact hr f)
  have J : PySem.W.InstAt s1.heap a _ C (some od) := ⟨oa, rfl, rfl, ho⟩
  exact PySem.HandSPX.exc_get I1.kIn J T.ga T.gg T.exC (PySem.W.findObj_own T.hdC hno rfl (by rw [hl, hu])) (handed_of ru) ⟨v, H1, I1.tok _, ru, q⟩⟩
end
end Pw

set_option Elab.async false
set_option linter.all false
set_option maxRecDepth 100000
/-! The head's facts with one more look at the written part: what it says of own exception classes. -/
namespace Pw
open PySem L2 PyProof.Rows He
def obsB (fa : List Fa) (fn : List DefD) (B : PySem.W.Frag → Bool) (K : PySem.W.Frag) : AlD := ((obsD fa fn K).1 && B K, (obsD fa fn K).2)
def obsBG (n : Nat) (fa : List Fa) (fn : List DefD) (B : PySem.W.Frag → Bool) (g : Addr → Option Obj) : AlD := obsB fa fn B (frG g (asD g n))
structure SaysB (fa : List Fa) (fn : List DefD) (B : PySem.W.Frag → Bool) (K : PySem.W.Frag) : Prop where
  d : SaysD fa fn K
  b : B K = true
theorem says_of {fa : List Fa} {fn : List DefD} {B : PySem.W.Frag → Bool} {K : PySem.W.Frag} (h : obsB fa fn B K = valD fn) : SaysB fa fn B K := by
  have h1 := congrArg Prod.fst h
  have h2 := congrArg Prod.snd h
  have h3 : ((obsD fa fn K).1 && B K) = true := h1
  rw [Bool.and_eq_true] at h3
  exact ⟨Prod.ext h3.1 h2, h3.2⟩
def hookB (n : Nat) (fa : List Fa) (fn : List DefD) (B : PySem.W.Frag → Bool) : PySem.W.Hook where
  α := AlD
  obs := fun s => obsBG n fa fn B s.heap.get?
  val := fun _ => valD fn
  says := fun _ h => ∃ K : PySem.W.Frag, K.In h ∧ SaysB fa fn B K
  of := fun w s h => ⟨frG s.heap.get? (asD s.heap.get? n), frG_in, says_of h⟩
  keeps := fun w h h' ⟨K, i, c⟩ k => ⟨K, fun a o e => k a o (i a o e), c⟩
theorem obsBG_eq {n : Nat} {fa : List Fa} {fn : List DefD} {B : PySem.W.Frag → Bool} {g : Addr → Option Obj} {s : Shared} (h : ∀ a, g a = s.heap.get? a) : obsBG n fa fn B g = (hookB n fa fn B).obs s := by
  have : g = s.heap.get? := funext h
  subst this
  rfl
end Pw

set_option Elab.async false
set_option linter.all false
set_option maxRecDepth 100000
set_option maxHeartbeats 4000000
/-! isinstance of an exception that is held, whether it has fields or not. -/
namespace PySem.PwX
open PySem PySem.Spec PySem.Calls PyProof.Rows
abbrev gaB : Value := .builtin "BaseException.__getattribute__"
abbrev clB : Value := .builtin "object.__class__"
abbrev gtB : Value := .builtin "getset_descriptor.__get__"
section
variable {prog : Program} {w : World} {A : Around} {E : Value → Shared → Prop} {s : Shared} {K : W.Frag} {x D : Addr} {ox : Obj} {od : Option Obj}
theorem cls_isSome {C : Addr} (h : W.hasDictIn K C = true) : (W.clsIn K C).isSome = true := by
  obtain ⟨cd, hc, _⟩ := W.any_some h
  rw [hc]; rfl
theorem find_cls (C : L2.ExcC K D) : ∀ od, W.findObj K D od "__class__" = some (.bind gtB clB)
  | none => W.findObj_dataN (cls_isSome C.hd) C.ha C.hn C.ht
  | some _ => W.findObj_data (cls_isSome C.hd) C.ha C.hn C.ht
theorem cls_run {Q : Option Value → Shared → Prop} (C : L2.ExcC K D) (X : K.In s.heap) (I : W.InstAt s.heap x ox D od) (h : Q (some (.ref D)) { s with toks := s.toks + 1 }) : wpAny (model prog w) A (getAttr? (.ref x) "__class__") Q E s := by
  have hf := find_cls C od
  cases s with
  | mk hp g d t os =>
  have l0 : W.Looks (model prog w) hp (typeOf (.ref x)) (.ref D) := I.type
  have l1 : W.Looks (model prog w) hp _ _ := W.looks_findIn X C.hg
  have l2 : W.Looks (model prog w) hp _ _ := W.looks_findIn X C.hk
  have l3 : W.Looks (model prog w) hp _ _ := W.looks_find X I hf
  have isB : W.Looks (model prog w) hp (isInstance (.ref x) (.type "BaseException")) true := l0.andThen (W.looks_subIn X C.hs)
  have ne : (gaB == Value.builtin "object.__getattribute__") = false := by decide +kernel
  have n1 : (onTheHeap (Value.ref D) && gaB == Value.builtin "object.__getattribute__") = false := by rw [ne]; rfl
  have n0 : (false && onTheHeap gaB) = false := rfl
  unfold getAttr? getAttrBy? getAttrBy
  refine wpAny_bind (wpAny_mkText (wpAny_bind (wpAny_attempt (wpAny_holding (wpAny_bind (l0.at (wpAny_bind (l1.at ?_))))))))
  show wpAny _ _ (if (onTheHeap (Value.ref D) && gaB == Value.builtin "object.__getattribute__") = true then _ else _) _ _ _
  rw [n1, if_neg Bool.false_ne_true]; unfold getAttrByItsOwn hookBefore
  refine wpAny_bind ?_; rw [if_pos (show onTheHeap (Value.ref D) = true from rfl)]
  refine l2.at (wpAny_bind (wpAny_attempt (wpAny_holding ?_))); unfold callGetattribute
  rw [n0, if_neg Bool.false_ne_true]; unfold boundAndCalled
  rw [PySem.F.excAttr_ValueError.ga.bind (.ref x)]; refine wpAny_bind (wpAny_pure ?_)
  show wpAny _ _ (call gaB [.ref x, .str "__class__" t]) _ _ _
  refine wpAny_call (codeAny_call_builtin PySem.F.excAttr_ValueError.ga.plain PySem.F.entry_bexc_ga ?_)
  refine @W.check_slot (model prog w) _ _ ⟨hp, g, d, t + 1, os⟩ "BaseException.__getattribute__" "BaseException" "__getattribute__" (.ref x) [.str "__class__" t] [] _ (by decide +kernel) (by decide +kernel) isB (PySem.F.args_bexc_ga (.ref x) (.str "__class__" t)) ?_
  unfold Builtin.«object.__getattribute__»; refine wpAny_bind (wpAny_of_eq (a := ((Value.ref x : Value), [Value.str "__class__" t])) (by first | rfl | (simp only [slotArgs]; rfl)) ?_)
  refine wpAny_bind (wpAny_pure (wpAny_bind (l0.at (wpAny_bind (l3.at ?_)))))
  show wpAny _ _ (holding [clB] (call gtB [clB, .ref x, .ref D]) >>= ret) _ _ _
  refine wpAny_bind (wpAny_holding (wpAny_call (W.class_get (s := ⟨hp, g, d, t + 1, os⟩) (ox := ox) (od := od) X I C.hm (wpAny_pure ?_))))
  show wpAny _ _ (handedOut (.ref D)) _ _ _
  rw [W.handedOut_of (v := .ref D) rfl]
  first
    | exact wpAny_pure (wpAny_pure h)
    | exact wpAny_pure h
    | exact wpAny_pure (wpAny_bind (wpAny_pure (wpAny_pure h)))
theorem kit_held (C : L2.ExcC K D) : W.KitX K (.ref x) (.ref D) (fun h => W.InstAt h x ox D od) where
  ty := fun _ _ _ I => I.type
  it := fun _ _ X _ A' Q' E' s' k q => by
    obtain ⟨cd, hcd, _⟩ := W.any_some C.hd
    unfold W.clsIn at hcd
    split at hcd
    · rename_i ho
      unfold isType loadHead; exact wpAny_bind (wpAny_loadPart (k _ _ (X _ _ ho)) (wpAny_pure q))
    · cases hcd
  ne := fun h tp dd its n sl X htp => by
    obtain ⟨cd, hcd, _⟩ := W.any_some C.hd
    refine Bool.eq_false_iff.mpr fun q => ?_
    cases Value.ref.inj (beq_iff_eq.mp q)
    unfold W.clsIn at hcd
    split at hcd
    · rename_i ho
      cases (X _ _ ho).symm.trans htp
    · cases hcd
  ca := fun X I k => cls_run C X I k
end
end PySem.PwX
namespace Pw
open PySem L2 PySem.Spec PyProof.Rows
/-- isinstance(e, c): e is an exception of the own class D, with its dict dx or with none -/
def rIsX (K : PySem.W.Frag) : List V → Hp → VK → Prop := fun xs H Q => ∃ (a D : Addr) (od : Option Addr) (c : V) (cv : Value) (b : Bool), xs = [.ref a, c] ∧ ExcC K D ∧ H a = some (exo a D od) ∧ (∀ dx, od = some dx → ∃ fs, H dx = some (exd dx fs)) ∧ (∀ u, RelV c u → u = cv) ∧ PySem.W.kitOne K (.ref D) cv = some b ∧ Q (.bl b) H
theorem call_isX {X : Cx} : CallR X (.builtin "isinstance") (rIsX X.K) := by
  intro pins s σ H xs us Q I r h
  obtain ⟨a, D, od, c, cv, b, rfl, C, ea, ed, hcv, e, q⟩ := h
  cases r with
  | cons rx rr =>
    cases rr with
    | cons rt rr =>
      cases rr; cases rx
      have ec := hcv _ rt
      subst ec
      obtain ⟨t1, oa⟩ := exo_at I.hok ea
      cases od with
      | none =>
        have J : PySem.W.InstAt s.heap a _ D none := ⟨oa, rfl, rfl, trivial⟩
        exact PySem.W.kia_one (PySem.PwX.kit_held C) I.kIn J e (fun z => nomatch z) fun tk => ⟨.bl b, H, I.kept (t' := tk) fun _ _ z => z, rfl, q⟩
      | some dx =>
        obtain ⟨fs, hd⟩ := ed dx rfl
        obtain ⟨mA, hns, _⟩ := exd_at I.hok hd
        obtain ⟨oo, ho, _⟩ := lookIn_ns hns
        have J : PySem.W.InstAt s.heap a _ D (some oo) := ⟨oa, rfl, rfl, ho⟩
        exact PySem.W.kia_one (PySem.PwX.kit_held C) I.kIn J e (fun z => nomatch z) fun tk => ⟨.bl b, H, I.kept (t' := tk) fun _ _ z => z, rfl, q⟩
end Pw

set_option Elab.async false
set_option linter.all false
set_option maxRecDepth 100000
set_option maxHeartbeats 4000000
/-! An exception made by keyword. -/
namespace PySem.PwX
open PySem PySem.Spec PySem.Calls PyProof.Rows Builtin PySem.ESX
section
variable {prog : Program} {w : World} {A : Around} {E : Value → Shared → Prop} {R : Result → Shared → Prop} {h : Heap} {g : Array GenState} {d : Drawn} {t : Nat} {os : OsState}
variable {nm q : Str} {C N : Addr} {bs bm bmB : List Value} {hdct : Bool} {sn : List Str} {sub : List Value} {ab : Bool} {col : Option Bool} {dd : Option Addr} {k0 k1 k2 k3 k5 : Option Value} {B newId initId : String} {f : Str} {v : Value}
theorem check_kw (F : ExcBaseFacts B newId initId bmB) (hT : ∀ X : String, bm.contains (.type X) = bmB.contains (.type X)) {M : Model} {Q : Unit → Shared → Prop}
    (hC : h.get? C = some (excClassObj nm q C N bs bm hdct sn sub ab col dd k0 k1 k2 k3 k5 newId)) (hq : Q () ⟨h, g, d, t, os⟩) : wpAny M A (checkBuiltinCall newId ⟨[.ref C], [(f, v)]⟩) Q E ⟨h, g, d, t, os⟩ := by
  have isB : (Value.ref C :: bm).contains (.type B) = true := by rw [List.contains_cons, hT, F.hasB, Bool.or_true]
  have ns := F.noStar
  simp only [checkBuiltinCall, F.newKind, F.newSplit, F.newRow]
  repeat (first | refine wpAny_loadPart_at hC ?_ | (refine wpAny_isSubtype_exc hC ?_; rw [isB]) | refine wpAny_staticBase_exc hC ?_ | refine wpAny_madeBy_exc hC ?_ | simp only [bne_self_eq_false, Bool.false_eq_true, if_false] | wp_step)
  exact hq
theorem new_kw (F : ExcBaseFacts B newId initId bmB) (hT : ∀ X : String, bm.contains (.type X) = bmB.contains (.type X))
    (hC : h.get? C = some (excClassObj nm q C N bs bm hdct sn sub ab col dd k0 k1 k2 k3 k5 newId))
    (hq : R (.ok (.ret (.ref (h.objs.size + 1)))) ⟨(h.push { cls := .type "tuple", data := .seq #[] }).push (HandSPX.excO C h.objs.size), g, d, t, os⟩) :
    codeAny (model prog w) A (.builtin newId ⟨[.ref C], [(f, v)]⟩) R ⟨h, g, d, t, os⟩ := by
  have ends := F.ends
  have isB : (Value.ref C :: bm).contains (.type B) = true := by rw [List.contains_cons, hT, F.hasB, Bool.or_true]
  have notA : (Value.ref C :: bm).contains (.type "AttributeError") = false := by rw [List.contains_cons, hT, F.noAttr]; rfl
  have notN : (Value.ref C :: bm).contains (.type "NameError") = false := by rw [List.contains_cons, hT, F.noName]; rfl
  refine codeAny_builtinAt F.entry ?_
  unfold Builtin.«BaseException.__new__»
  refine wpAt_bind ?_
  show wpAt _ _ _ (stack >>= _) _ _ _
  refine wpAt_bind (wpAt_stack fun p below => wpAt_of_wpAny ?_)
  wp_walk
  refine wpAt_of_wpAny ?_
  rw [F.owner]
  repeat (first | with_reducible refine wpAny_madeHere_exc F.canon hC ?_ | with_reducible refine wpAny_loadPart_at hC ?_ | (with_reducible refine wpAny_isSubtype_exc hC ?_; first | rw [isB] | rw [notA] | rw [notN]) | wp_step)
  show R _ _
  rw [Heap.size_push]
  exact hq
theorem type_call_kw (F : ExcBaseFacts B newId initId bmB) (hT : ∀ X : String, bm.contains (.type X) = bmB.contains (.type X)) {fI : Addr} {Q : Fin → Shared → Prop}
    (hC : h.get? C = some (excClassObj nm q C N bs bm hdct sn sub ab col dd k0 k1 k2 k3 k5 newId))
    (hi : W.Looks (model prog w) h (typeLookup (.ref C) "__init__") (some (.ref fI))) (hb : ∀ self, W.Looks (model prog w) h (bindSpecial (.ref fI) self) (.ref fI, [self]))
    (hq : codeAny (model prog w) A (.call (.ref fI) ⟨[.ref (h.objs.size + 1)], [(f, v)]⟩)
      (fun r s' => match r with | .ok (.ret v) => v = .none ∧ Q (.done (.ret (.ref (h.objs.size + 1)))) s' | .ok _ => False | .error e => E e s')
      ⟨(h.push (W.kdv_tup [])).push (HandSPX.excO C h.objs.size), g, d, t, os⟩) : wpAny (model prog w) A (Builtin.«type.__call__» ⟨[.ref C], [(f, v)]⟩) Q E ⟨h, g, d, t, os⟩ := by
  repeat (first | with_reducible refine wpAny_loadPart_at hC ?_ | with_reducible refine wpAny_madeBy_exc hC ?_ | wp_step)
  refine codeAny_call_builtin_code (Code.quiet_builtin _ F.quiet) (check_kw F hT hC (new_kw F hT hC ?_))
  show wpAny _ _ _ _ _ _
  have kept : ∀ b o, h.get? b = some o → ((h.push (W.kdv_tup [])).push (HandSPX.excO C h.objs.size)).get? b = some o := fun b o e => Heap.get?_push_of_some _ (Heap.get?_push_of_some _ e)
  have made : ((h.push (W.kdv_tup [])).push (HandSPX.excO C h.objs.size)).get? (h.objs.size + 1) = some (HandSPX.excO C h.objs.size) := by heap_get
  have isC : (Value.ref C :: bm).contains (.ref C) = true := by simp
  have there := kept _ _ hC
  unfold isInstance
  repeat (first | with_reducible refine wpAny_loadPart_at made ?_ | (with_reducible refine wpAny_isSubtype_exc there ?_; rw [isC]) | wp_step)
  show wpAny _ _ (typeLookup (.ref C) _) _ _ _
  refine (hi.keeps kept).at (wpAny_holding (wpAny_bind (((hb (.ref (h.objs.size + 1))).keeps kept).at ?_)))
  refine wpAny_bind (wpAny_call (codeAny_mono hq fun r s' z => ?_))
  rcases r with e | (v | _ | _ | _) <;> first | exact z | exact z.elim | skip
  obtain ⟨rfl, z⟩ := z
  first
    | exact wpAny_pure (wpAny_pure z)
    | (wp_walk; exact z)
theorem call_kw (F : ExcBaseFacts B newId initId bmB) (hT : ∀ X : String, bm.contains (.type X) = bmB.contains (.type X)) {fI : Addr}
    (hC : h.get? C = some (excClassObj nm q C N bs bm hdct sn sub ab col dd k0 k1 k2 k3 k5 newId))
    (hi : W.Looks (model prog w) h (typeLookup (.ref C) "__init__") (some (.ref fI))) (hb : ∀ self, W.Looks (model prog w) h (bindSpecial (.ref fI) self) (.ref fI, [self]))
    (hq : codeAny (model prog w) (A.under (.builtin "type.__call__" ⟨[.ref C], [(f, v)]⟩)) (.call (.ref fI) ⟨[.ref (h.objs.size + 1)], [(f, v)]⟩) (W.InitBack (h.objs.size + 1) R)
      ⟨(h.push (W.kdv_tup [])).push (HandSPX.excO C h.objs.size), g, d, t, os⟩) : codeAny (model prog w) A (.call (.ref C) ⟨[], [(f, v)]⟩) R ⟨h, g, d, t, os⟩ := by
  have f1 := tc_lookup
  have f2 := tc_bind (.ref C)
  have isT : (⟨h, g, d, t, os⟩ : Shared).TypeIs (.ref C) "type" := ⟨_, hC, rfl⟩
  refine codeAny_of_tree ?_
  show wpAny _ _ (callAny (.ref C) _) _ _ _
  repeat (any_goals (first | assumption | with_reducible refine wpAny_loadPart_at hC ?_ | wp_step))
  refine ⟨rfl, ?_⟩
  refine codeAny_call_builtin_at (Code.quiet_builtin _ (by decide +kernel)) entry_typeCall ?_
  refine wpAny_check_type_call_sub hC (type_call_kw F hT hC hi hb ?_)
  refine codeAny_mono hq fun r s' z => ?_
  rcases r with e | (v | _ | _ | _) <;> exact z
end
end PySem.PwX
namespace Pw
open PySem L2 PySem.Spec PyProof.Rows
section
variable {X : Cx} {C : Addr} {f : Str} {x : Str} {k : Nat} {e : Expr} {te : TE} {p pos kp : Pos}
/-- the run of C(f = v): what stands behind its __init__ -/
theorem mk_runK {pins : List (Addr × Obj)} {σ : L2.St} {H1 : Hp} {hp : Heap} {g : Array GenState} {dr : Drawn} {tk : Nat} {os : OsState} {u : Value} {v : V} {Q : Value → Shared → Prop} {E : Value → Shared → Prop} (G : ExMk X.prog X.w X.K X.mg X.base k x C f) (hr : Room (k + 1) X.A) (I1 : Inv X pins σ H1 ⟨hp, g, dr, tk, os⟩) (r : RelV v u)
    (h : ∀ (hp2 : Heap) (s2 : Shared) (uu : Value), Inv X pins σ (upd H1 (hp.objs.size + 1) (exo (hp.objs.size + 1) C none)) ⟨hp2, g, dr, tk, os⟩ → H1 (hp.objs.size + 1) = none →
      CE X.stack X.prog X.w (upd H1 (hp.objs.size + 1) (exo (hp.objs.size + 1) C none)) ⟨hp2, g, dr, tk, os⟩ (fun z H2 => z = .non ∧ ∃ dx, H1 dx = none ∧ dx ≠ hp.objs.size + 1 ∧ H2 = madeH H1 (hp.objs.size + 1) dx C f v) uu s2 → Q (.ref (hp.objs.size + 1)) s2) : wpAny (model X.prog X.w) X.A (call (.ref C) [] [(f, u)]) Q E ⟨hp, g, dr, tk, os⟩ := by
  obtain ⟨M, nm, q, N, bs, sn, sub, ab, col, dd, k0, k1, k2, k3, k5, hC⟩ := G.T.cls
  obtain ⟨fI, fd, ps, iC, tI, F1, _, hb⟩ := G.ini
  have fresh : H1 (hp.objs.size + 1) = none := I1.hok.fresh (Nat.le_succ _)
  have kept : ∀ b o, hp.get? b = some o → ((hp.push (PySem.W.kdv_tup [])).push (PySem.HandSPX.excO C hp.objs.size)).get? b = some o := fun b o ob => Heap.get?_push_of_some _ (Heap.get?_push_of_some _ ob)
  have made : ((hp.push (PySem.W.kdv_tup [])).push (PySem.HandSPX.excO C hp.objs.size)).get? (hp.objs.size + 1) = some (PySem.HandSPX.excO C hp.objs.size) := by heap_get
  have I2 : Inv X pins σ (upd H1 (hp.objs.size + 1) (exo (hp.objs.size + 1) C none)) ⟨(hp.push (PySem.W.kdv_tup [])).push (PySem.HandSPX.excO C hp.objs.size), g, dr, tk, os⟩ := I1.laid (t' := tk) kept (Nat.le_succ _) (exo_ok made)
  have r2 : Vals [V.ref (hp.objs.size + 1), v] [Value.ref (hp.objs.size + 1), u] := .cons rfl (.cons r .nil)
  have asked : spKeep X.K f [V.ref (hp.objs.size + 1), v] (upd H1 (hp.objs.size + 1) (exo (hp.objs.size + 1) C none)) (fun z H2 => z = .non ∧ ∃ dx, H1 dx = none ∧ dx ≠ hp.objs.size + 1 ∧ H2 = madeH H1 (hp.objs.size + 1) dx C f v) E0 :=
    ⟨_, C, v, rfl, G.T, G.no, upd_same, fun dx n ne => ⟨rfl, dx, by rw [upd_ne ne] at n; exact n, ne, rfl⟩⟩
  refine wpAny_call (PySem.PwX.call_kw F.excBase_Exception (tail_same M) (I1.kIn _ _ hC) (PySem.W.looks_findIn I1.kIn iC) (fun self => PySem.W.bind_fn I1.kIn self tI) ?_)
  refine codeAny_mono (F1.run _ X.stack _ _ ⟨[Value.ref (hp.objs.size + 1)], [(f, u)]⟩ [Value.ref (hp.objs.size + 1), u] _ _ E0 (hr.make C [] [(f, u)]) (I2.env0.make C [] [(f, u)]) (hb _ _ _) r2 asked) fun res s2 back => ?_
  cases res with
  | error er => exact False.elim back
  | ok fl =>
    cases fl with
    | next => exact False.elim back
    | brk => exact False.elim back
    | cont => exact False.elim back
    | ret uu =>
      have back : CE X.stack X.prog X.w _ _ _ uu s2 := back
      have isNone : uu = .none := by
        obtain ⟨_, _, _, _, _, _, rz, ez, _⟩ := back
        subst ez
        exact rz
      exact ⟨isNone, h _ s2 uu I2 fresh back⟩
/-- C(f = e) as a value -/
theorem pe_exmkK (G : ExMk X.prog X.w X.K X.mg X.base k x C f) (hr : Room (k + 1) X.A) (hg : Gl X x) (he : PE X e te) (hdb : (x == ("__debug__" : Str)) = false := by decide)
    (hall : (backToKw pos (keywordEach [⟨some f, e, kp⟩] X.env)).all (·.1.isSome) = true := by rfl) (hks : (backToKw pos (keywordEach [⟨some f, e, kp⟩] X.env)).filterMap (·.1) = [f] := by rfl)
    (hpl : ((backTo pos (starEach [] X.env)).any (·.1) || (backToKw pos (keywordEach [⟨some f, e, kp⟩] X.env)).any (·.1.isNone)) = false := by rfl) : PE X (.Call (.Name x p) [] [⟨some f, e, kp⟩] pos) (tExmk C f (tCons te tNil)) := ⟨fun pins s σ H Q I h => by
  refine wpAny_Call_Name_kw (ld_glob I hg G.m ?_ hdb)
  refine PySem.W.callWith_KW0 (h₀ := X.base) I.ok.mod.kin G.T.kC hall ?_ hpl
  refine thn ((pk_cons he pk_nil).run pos pins s σ H _ I h) fun us s1 ⟨vs, H1, I1, r1, v, ev, q⟩ => ⟨I1.kIn, ?_⟩
  rw [hks]
  subst ev
  cases r1 with
  | cons r rr =>
    cases rr
    cases s1 with
    | mk hp g dr tk os =>
    refine mk_runK G hr I1 r fun hp2 s2 uu I2 fresh back => ?_
    obtain ⟨z, H2, J, rz, ez, dx, n, ne, eH⟩ := I2.after back
    subst eH
    exact ⟨.ref _, _, J, rfl, q _ dx fresh n ne⟩⟩
end
end Pw

set_option Elab.async false
set_option linter.all false
set_option maxRecDepth 100000
set_option maxHeartbeats 2000000
/-! An exception class without __init__, made without arguments; isinstance of what a suite has caught. -/
namespace Pw
open PySem L2 PySem.Spec PyProof.Rows
/-- what the written part says of a class two steps below Exception without __init__ -/
structure Ex0 (K : PySem.W.Frag) (mg : Str → Option Value) (x : Str) (C : Addr) : Prop where
  q : PySem.W.excIn K C PySem.ESX.exTail "Exception.__new__" = true
  m : mg x = some (.ref C)
  kC : PySem.W.keepIn K (.ref C) = true
  exC : PySem.W.subIn K (.ref C) (.type "BaseException") = some true
  tyC : PySem.W.typeIn K (.ref C) = some (.type "type")
section
variable {X : Cx} {C : Addr} {x : Str} {p pos : Pos}
theorem pe_ex0 (G : Ex0 X.K X.mg x C) (hg : Gl X x) (hdb : (x == ("__debug__" : Str)) = false := by decide) : PE X (.Call (.Name x p) [] [] pos) (fun _ H Q => ∀ a, H a = none → Q (.ref a) (upd H a (exo a C none))) := ⟨fun pins s σ H Q I h => by
  refine wpAny_Call_Name_kw (ld_glob I hg G.m ?_ hdb)
  refine PySem.W.callWith_K0 I.kIn G.kC ?_
  show wpAny _ _ (call (.ref C) []) _ _ _
  obtain ⟨bm, N, nm, qn, bs, hdct, sn, sub, ab, col, dd, k0, k1, k2, k3, k5, mN, hC, hN, hni, T⟩ := exc_obj I.kIn G.q
  refine wpAny_call_exc_subT F.excBase_Exception T hC hN hni (fun h' a hm => ?_) (by show 0 ≤ sizeLine; exact Nat.zero_le _)
  have n := I.hok.gone hm.new
  obtain ⟨t, ht, _, _⟩ := hm.there
  exact ⟨.ref a, _, I.laidN hm.keeps hm.new n (exo_ok ht), rfl, h a n⟩⟩
theorem pmk_ex0 (G : Ex0 X.K X.mg x C) (hg : Gl X x) (hdb : (x == ("__debug__" : Str)) = false := by decide) : PMk X (.Call (.Name x p) [] [] pos) (fun _ H Q => Q (.ref C) none H) := fun pins s σ H Q I h => by
  refine wpAny_Call_Name_kw (ld_glob I hg G.m ?_ hdb)
  refine PySem.W.callWith_K0 I.kIn G.kC ?_
  show wpAny _ _ (call (.ref C) []) _ _ _
  obtain ⟨bm, N, nm, qn, bs, hdct, sn, sub, ab, col, dd, k0, k1, k2, k3, k5, mN, hC, hN, hni, T⟩ := exc_obj I.kIn G.q
  refine wpAny_call_exc_subT F.excBase_Exception T hC hN hni (fun h' a hm => ?_) (by show 0 ≤ sizeLine; exact Nat.zero_le _)
  exact mk_of I hm (raises_own G.exC G.tyC) h (I.hok.gone hm.new)
/-- isinstance(e, c), e caught by this suite, of the class D, with or without fields -/
def rIsC (K : PySem.W.Frag) (a : Addr) (cls : Value) (d : Option Addr) : List V → Hp → VK → Prop := fun xs H Q => ∃ (D : Addr) (c : V) (cv : Value) (b : Bool), xs = [.ref a, c] ∧ cls = .ref D ∧ ExcC K D ∧ (∀ dd, d = some dd → ∃ fs, H dd = some (.xd fs)) ∧ (∀ u, RelV c u → u = cv) ∧ PySem.W.kitOne K (.ref D) cv = some b ∧ Q (.bl b) H
theorem call_isC {a : Addr} {oe : Obj} {cls : Value} {d : Option Addr} {pn : List (Addr × Obj)} (hz : Zc cls d oe) (hf : ∃ vs, oe.data = .fields vs) : CallR (X.suite a ((a, oe) :: pn)) (.builtin "isinstance") (rIsC X.K a cls d) := by
  intro pins s σ H xs us Q I r h
  obtain ⟨D, c, cv, b, rfl, rfl, C, ed, hcv, e, q⟩ := h
  cases r with
  | cons rx rr =>
    cases rr with
    | cons rt rr =>
      cases rr; cases rx
      have ec := hcv _ rt
      subst ec
      obtain ⟨ha, _⟩ := I.pin (a, oe) (List.mem_append_left _ List.mem_cons_self)
      obtain ⟨vs, hd⟩ := hf
      have nc : PySem.W.notCls oe = true := by unfold PySem.W.notCls; rw [hd] <;> rfl
      cases d with
      | none =>
        have J : PySem.W.InstAt s.heap a oe D none := ⟨ha, hz.1, nc, by rw [hz.2]; trivial⟩
        exact PySem.W.kia_one (PySem.PwX.kit_held C) I.kIn J e (fun z => nomatch z) fun tk => ⟨.bl b, H, I.kept (t' := tk) fun _ _ z => z, rfl, q⟩
      | some dd =>
        obtain ⟨fs, hd⟩ := ed dd rfl
        have hx : ObjOk X.prog X.w H s.heap dd (.xd fs) := I.hok dd _ hd
        obtain ⟨mA, hns, _⟩ := hx
        obtain ⟨oo, ho, _⟩ := lookIn_ns hns
        have J : PySem.W.InstAt s.heap a oe D (some oo) := ⟨ha, hz.1, nc, by rw [hz.2]; exact ho⟩
        exact PySem.W.kia_one (PySem.PwX.kit_held C) I.kIn J e (fun z => nomatch z) fun tk => ⟨.bl b, H, I.kept (t' := tk) fun _ _ z => z, rfl, q⟩
end
end Pw

set_option Elab.async false
set_option linter.all false
set_option maxRecDepth 100000
/-! What the law's own drawing defs do. -/
namespace Pw
open PySem L2
abbrev intsD (ns : List Int) : PyData := .list (ns.map .int)
/-- the row of drawn numbers: not empty, not long -/
structure RowOk (row : List Int) : Prop where
  ne : row ≠ []
  few : row.length ≤ 4000
theorem RowOk.pos {row : List Int} (h : RowOk row) : 0 < (row.length : Int) := by
  have := h.ne
  cases row with
  | nil => exact absurd rfl this
  | cons a r => simp only [List.length_cons]; omega
def drawZ (row : List Int) (at_ lim : Int) : Int :=
  if at_ < row.length then (row.getD at_.toNat 0) % lim
  else (((((row.getD (at_ % row.length).toNat 0) * 40692 + at_ * 7919 + 3) % 2147483399) * 48271 + at_) % 2147483647) % lim
theorem drawZ_lo {row : List Int} {a lim : Int} (h : 0 < lim) : 0 ≤ drawZ row a lim := by
  unfold drawZ; split <;> exact Int.emod_nonneg _ (by omega)
theorem drawZ_hi {row : List Int} {a lim : Int} (h : 0 < lim) : drawZ row a lim < lim := by
  unfold drawZ; split <;> exact Int.emod_lt_of_pos _ h
theorem atI_ints {row : List Int} {j : Int} (h0 : 0 ≤ j) (h1 : j < row.length) : atI (row.map PyData.int) j = some (.int (row.getD j.toNat 0)) := by
  obtain ⟨m, rfl⟩ := Int.eq_ofNat_of_zero_le h0
  have hm : m < row.length := by omega
  refine atI_nat ?_
  rw [List.getElem?_map]
  simp [hm]
def gDraw (a b c y : PyData) : Prop := ∃ row n lim, a = intsD row ∧ b = .int n ∧ c = .int lim ∧ RowOk row ∧ (0 ≤ n ∧ n < 2 ^ 60) ∧ 0 < lim ∧ y = .int (drawZ row n lim)
def gTake (as : List Arg) (ret : Ret) (outs : Nat → Cont) : Prop := ∃ row n lim, as = [.d (.d (intsD row)), .r (.lst [.int n]), .d (.d (.int lim))] ∧ RowOk row ∧ (0 ≤ n ∧ n < 2 ^ 60) ∧ 0 < lim ∧ ret = .v (.d (.int (drawZ row n lim))) ∧ outs 1 = .lst [.int (n + 1)]
variable {ρ ρ0 ρ1 ρ2 : List Slot} {ta tb tc : TE} {P : Out → Prop}
theorem only1 {x y : Val} {i m k : Nat} (h : ([.d x, .s i, .d y] : List Src)[k]? = some (.s m)) : k = 1 ∧ m = i := by
  match k, h with
  | 0, h => cases h
  | 1, h => cases h; exact ⟨rfl, rfl⟩
  | 2, h => cases h
  | k + 3, h => simp at h
theorem ev_take {E : XK} {i : Nat} {l : Bool} {row : List Int} {n lim : Int} (h1 : EV ta ρ (.d (intsD row)) ρ0) (h2 : ∃ l c, ρ0[i]? = some (.own l c)) (h3 : EV tc ρ0 (.d (.int lim)) ρ1) (h4 : ρ1[i]? = some (.own l (.lst [.int n]))) (hr : RowOk row) (hn : 0 ≤ n ∧ n < 2 ^ 60) (hl : 0 < lim) :
    EV (tCall (spG gTake) [] E (tCons ta (tCons (tVar i) (tCons tc tNil)))) ρ (.d (.int (drawZ row n lim))) (ρ1.set i (.own l (.lst [.int (n + 1)]))) := by
  obtain ⟨l0, c0, h2⟩ := h2
  have h := ev_call (E := E) (g := gTake) (x := .d (.int (drawZ row n lim))) (outs := fun _ => .lst [.int (n + 1)]) (ss := [.d (.d (intsD row)), .s i, .d (.d (.int lim))]) (ea_cons h1 (ea_ref h2 (ea_cons h3 ea_nil)))
    ⟨fun k j hk => ?_, fun j k m hj hk => ?_⟩ ⟨row, n, lim, ?_, hr, hn, hl, rfl, rfl⟩
  · have e : putOuts (fun _ => Cont.lst [.int (n + 1)]) 0 [Src.d (.d (intsD row)), .s i, .d (.d (.int lim))] ρ1 = ρ1.set i (.own l (.lst [.int (n + 1)])) := by
      simp [putOuts, h4]
    rw [e] at h
    exact h
  · obtain ⟨_, rfl⟩ := only1 hk; exact ⟨_, _, h4⟩
  · rw [(only1 hj).1, (only1 hk).1]
  · simp [argOf, h4]
/-! ### the numbers of a script -/
def bigZ : Nat → Int → List Int
  | 0, _ => []
  | k + 1, left => if left = 0 then [] else (left % 997) :: bigZ k (left / 997)
def smallZ (c : Int) : List Int := (List.range 4).map fun k : Nat => (((c * 48271 + (k : Int) * 69621 + 11) % 2147483647) * 16807 + k) % 2147483629
def cellZ (c : Int) : List Int := if 10 ^ 18 ≤ c then bigZ 60 c else smallZ c
def numbersZ (ns : List Int) : List Int := if (ns.flatMap cellZ).length = 0 then [0] else ns.flatMap cellZ
theorem bigZ_len : ∀ (k : Nat) (c : Int), (bigZ k c).length ≤ k
  | 0, _ => Nat.le_refl _
  | k + 1, c => by
    unfold bigZ; split
    · exact Nat.zero_le _
    · rw [List.length_cons]; exact Nat.succ_le_succ (bigZ_len k _)
theorem cellZ_len (c : Int) : (cellZ c).length ≤ 60 := by
  unfold cellZ; split
  · exact bigZ_len 60 c
  · simp [smallZ]
theorem cells_len : ∀ ns : List Int, (ns.flatMap cellZ).length ≤ 60 * ns.length
  | [] => Nat.le_refl _
  | c :: ns => by
    rw [List.flatMap_cons, List.length_append, List.length_cons]
    have := cellZ_len c; have := cells_len ns; omega
theorem numbers_ok {ns : List Int} (h : ns.length ≤ 63) : RowOk (numbersZ ns) := by
  unfold numbersZ; split
  · exact ⟨by simp, by simp⟩
  · rename_i z
    exact ⟨fun e => z (by rw [e]; rfl), Nat.le_trans (cells_len ns) (by omega)⟩
def gNumbers (as : List Arg) (ret : Ret) (outs : Nat → Cont) : Prop := ∃ ns : List Int, as = [.d (.scr ns)] ∧ ns.length ≤ 63 ∧ ret = .v (.d (intsD (numbersZ ns)))
theorem no1r {x : Val} {i : Nat} {c : Cont} (h : ([Arg.d x] : List Arg)[i]? = some (.r c)) : False := by
  match i, h with
  | 0, h => cases h
  | i + 1, h => simp at h
theorem lenNumbers {vs : List V} {H : Hp} {Q : VK} {E : XK} (s : spG gNumbers vs H Q E) : vs.length = 1 := len_of (fun as ret outs ⟨_, e, _⟩ => by rw [e]; rfl) s
theorem rpAll_ints {F : Hp} : ∀ ns : List Int, RpAll F (ns.map V.int) (ns.map PyData.int)
  | [] => .nil
  | n :: ns => .cons (.int n) (rpAll_ints ns)
theorem eo_slScr {K : PySem.W.Frag} {tl th : TO} {ns : List Int} {lo hi : Option Int} (h : EV ta ρ (.scr ns) ρ1) (h1 : EO1 tl ρ1 lo ρ2) (h2 : EO1 th ρ2 hi ρ0) : EO (tSl (rSlU K) ta tl th) ρ (.lst (cutD (ns.map .int) lo hi)) ρ0 := fun e F σ H Q S k =>
  h e F σ H _ S fun F1 H1 v f1 S1 r1 => h1 e F1 σ H1 _ S1 fun F2 H2 f2 S2 => h2 e F2 σ H2 _ S2 fun F3 H3 f3 S3 => by
    obtain ⟨a, ob, rfl, e⟩ := r1
    have e3 := f3 _ _ (f2 _ _ e)
    have e4 : H3 a = some (.frz ob (.lst (ns.map V.int))) := by
      rcases S3.sub _ _ e3 with z | ⟨⟨w, z⟩ | ⟨w, z⟩, _⟩
      · exact z
      · cases z
      · cases z
    refine .inl ⟨_, _, rfl, .inl (.inr ⟨ob, e4⟩), fun p hp => ?_⟩
    exact k F3 _ p _ ((f1.trans f2).trans f3) (S3.alloc hp) (S3.sub.none hp) upd_same ⟨_, rfl, cut_rp (rpAll_ints ns) lo hi⟩ (S3.h0 hp) (S3.fresh hp)
theorem ev_numbers {E : XK} {ns : List Int} (h : EV ta ρ (.scr ns) ρ1) (hn : ns.length ≤ 63) : EV (tCall (spG gNumbers) [] E (tCons ta tNil)) ρ (.d (intsD (numbersZ ns))) ρ1 := by
  have z := ev_call (E := E) (g := gNumbers) (x := .d (intsD (numbersZ ns))) (outs := fun _ => .lst []) (ss := [.d (.scr ns)]) (ea_cons h ea_nil)
    ⟨fun k j hk => (by match k, hk with | 0, hk => cases hk | k + 1, hk => simp at hk), fun j k m hj hk => (by match j, hj with | 0, hj => cases hj | j + 1, hj => simp at hj)⟩ ⟨ns, rfl, hn, rfl⟩
  exact z
theorem cut63 {ns : List Int} (h : ns.length ≤ 63) : cutD (ns.map PyData.int) none (some 63) = ns.map .int := by
  have e : min 63 ns.length = ns.length := Nat.min_eq_right h
  have z : HT.sIx (ns.map PyData.int).length (ns.map PyData.int).length (some 63) = ns.length := by
    show (if (63 : Int) < 0 then ((63 : Int) + (ns.map PyData.int).length).toNat else min (63 : Int).toNat (ns.map PyData.int).length) = _
    rw [if_neg (by decide), List.length_map]
    exact e
  unfold cutD
  rw [z]
  show ((ns.map PyData.int).drop 0).take (ns.length - 0) = _
  rw [List.drop_zero, Nat.sub_zero, List.take_of_length_le (by simp)]
theorem at_ints {ns : List Int} {i : Nat} {x : Val} (h : ((ns.map PyData.int).map Val.d)[i]? = some x) : ∃ c, ns[i]? = some c ∧ x = .d (.int c) := by
  rw [List.getElem?_map, List.getElem?_map] at h
  cases z : ns[i]? with
  | none => rw [z] at h; cases h
  | some c => rw [z] at h; cases h; exact ⟨c, rfl, rfl⟩
theorem at_range {lo : Int} {n i : Nat} {x : Val} (h : (rangeD lo n)[i]? = some x) : i < n ∧ x = .d (.int (lo + i)) := by
  unfold rangeD at h
  rw [List.getElem?_map] at h
  by_cases z : i < n
  · rw [List.getElem?_range z] at h; cases h; exact ⟨z, rfl⟩
  · rw [List.getElem?_eq_none (by simp; omega)] at h; cases h
theorem cells_step {ns : List Int} {i : Nat} {c : Int} (h : ns[i]? = some c) : (ns.take (i + 1)).flatMap cellZ = (ns.take i).flatMap cellZ ++ cellZ c := by
  rw [List.take_add_one, h, List.flatMap_append]
  simp
theorem size4000 {n : Nat} (h : n ≤ 4000) : n < sizeLine := by
  rw [PySem.sizeLine_eq]; omega
theorem lenTake {vs : List V} {H : Hp} {Q : VK} {E : XK} (s : spG gTake vs H Q E) : vs.length = 3 :=
  len_of (fun as ret outs ⟨_, _, _, e, _⟩ => by rw [e]; rfl) s
end Pw
namespace Pw
open PySem L2
/-! ### the law's own sameness -/
def isTup : PyData → Bool
  | .tuple _ => true | _ => false
def isBl : PyData → Bool
  | .bool _ => true | _ => false
def isIntD : PyData → Bool
  | .int _ => true | .bool _ => true | _ => false
def isStrD : PyData → Bool
  | .str _ => true | _ => false
def isLstD : PyData → Bool
  | .list _ => true | _ => false
theorem kit_tup : ∀ d, kitB (tyName d) "tuple" = some (isTup d) := fun d => by cases d <;> rfl
theorem kit_bl : ∀ d, kitB (tyName d) "bool" = some (isBl d) := fun d => by cases d <;> rfl
theorem kit_int : ∀ d, kitB (tyName d) "int" = some (isIntD d) := fun d => by cases d <;> rfl
theorem kit_str : ∀ d, kitB (tyName d) "str" = some (isStrD d) := fun d => by cases d <;> rfl
theorem kit_lst : ∀ d, kitB (tyName d) "list" = some (isLstD d) := fun d => by cases d <;> rfl
mutual
def soZ : PyData → PyData → Bool
  | f, .none => isNone f
  | f, .tuple ms => match f with
    | .tuple fs => soAll fs ms
    | _ => false
  | f, .bool m => match f with
    | .bool g => decide (g = m)
    | _ => false
  | f, .int m => match f with
    | .int g => decide (g = m)
    | _ => false
  | f, .str m => match f with
    | .str g => decide (g = m)
    | _ => false
  | _, .list _ => false
  | _, .dict _ => false
def soAll : List PyData → List PyData → Bool
  | fs, [] => fs.isEmpty
  | fs, m :: ms => match fs with
    | [] => false
    | f :: fs => soZ f m && soAll fs ms
end
mutual
def depD : PyData → Nat
  | .tuple ms => depsD ms + 1
  | _ => 0
def depsD : List PyData → Nat
  | [] => 0
  | m :: ms => max (depD m) (depsD ms)
end
theorem dep_get : ∀ {ms : List PyData} {i : Nat} {m : PyData}, ms[i]? = some m → depD m ≤ depsD ms
  | [], i, m, h => by simp at h
  | a :: ms, 0, m, h => by
    simp at h; subst h
    rw [depsD]; exact Nat.le_max_left _ _
  | a :: ms, i + 1, m, h => by
    rw [depsD]; exact Nat.le_trans (dep_get (i := i) (by simpa using h)) (Nat.le_max_right _ _)
theorem soAll_len : ∀ {fs ms : List PyData}, soAll fs ms = true → fs.length = ms.length
  | [], [], _ => rfl
  | _ :: _, [], h => by simp [soAll] at h
  | [], _ :: _, h => by simp [soAll] at h
  | f :: fs, m :: ms, h => by
    simp [soAll] at h
    simp [soAll_len h.2]
theorem soAll_of : ∀ {fs ms : List PyData}, fs.length = ms.length → (∀ (i : Nat) f m, fs[i]? = some f → ms[i]? = some m → soZ f m = true) → soAll fs ms = true
  | [], [], _, _ => by simp [soAll]
  | _ :: _, [], h, _ => by simp at h
  | [], _ :: _, h, _ => by simp at h
  | f :: fs, m :: ms, h, k => by
    have h1 := k 0 f m rfl rfl
    have h2 := soAll_of (fs := fs) (ms := ms) (by simpa using h) fun i a b x y => k (i + 1) a b (by simpa using x) (by simpa using y)
    simp [soAll, h1, h2]
theorem soAll_get : ∀ {fs ms : List PyData} {i : Nat} {f m : PyData}, soAll fs ms = true → fs[i]? = some f → ms[i]? = some m → soZ f m = true
  | [], [], _, _, _, _, h, _ => by simp at h
  | _ :: _, [], _, _, _, h, _, _ => by simp [soAll] at h
  | [], _ :: _, _, _, _, h, _, _ => by simp [soAll] at h
  | a :: fs, b :: ms, 0, f, m, h, x, y => by
    simp [soAll] at h; simp at x y; subst x; subst y; exact h.1
  | a :: fs, b :: ms, i + 1, f, m, h, x, y => by
    simp [soAll] at h
    exact soAll_get (i := i) h.2 (by simpa using x) (by simpa using y)
mutual
def smD : PyData → Bool
  | .tuple ms => decide (ms.length < 1000000) && smsD ms
  | _ => true
def smsD : List PyData → Bool
  | [] => true
  | m :: ms => smD m && smsD ms
end
theorem sm_get : ∀ {ms : List PyData} {i : Nat} {m : PyData}, smsD ms = true → ms[i]? = some m → smD m = true
  | [], i, m, _, h => by simp at h
  | a :: ms, 0, m, k, h => by
    simp at h; subst h
    simp [smsD] at k; exact k.1
  | a :: ms, i + 1, m, k, h => by
    simp [smsD] at k
    exact sm_get (i := i) k.2 (by simpa using h)
def gSo (n : Nat) (a b y : PyData) : Prop := depD b < n ∧ smD b = true ∧ y = .bool (soZ a b)
theorem no1 {f : PyData → PyData → Prop} (z : ∀ a y, ¬ f a y) {vs : List V} {H : Hp} {Q : VK} {E : XK} (s : sp1 f vs H Q E) : False := by
  obtain ⟨F, as, ret, outs, _, _, _, ⟨ds, y, _, h, _⟩, _⟩ := s
  cases h with | mk h => exact z _ _ h
theorem no2 {f : PyData → PyData → PyData → Prop} (z : ∀ a b y, ¬ f a b y) {vs : List V} {H : Hp} {Q : VK} {E : XK} (s : sp2 f vs H Q E) : False := by
  obtain ⟨F, as, ret, outs, _, _, _, ⟨ds, y, _, h, _⟩, _⟩ := s
  cases h with | mk h => exact z _ _ _ h
end Pw

set_option Elab.async false
set_option linter.all false
set_option maxRecDepth 100000
/-! Exceptions that are held, over data. -/
namespace Pw
open PySem L2
variable {ρ ρ1 ρ2 : List Slot} {ta tb : TE} {P : Out → Prop} {K : PySem.W.Frag}
theorem Sub.exo {F H : Hp} (s : Sub F H) {a b C : Addr} {d : Option Addr} (h : F a = some (exo b C d)) : H a = some (exo b C d) := by
  rcases s a _ h with e | ⟨⟨w, e⟩ | ⟨w, e⟩, _⟩
  · exact e
  · cases e
  · cases e
theorem Sub.exd {F H : Hp} (s : Sub F H) {a b : Addr} {fs : List (Str × V)} (h : F a = some (exd b fs)) : H a = some (exd b fs) := by
  rcases s a _ h with e | ⟨⟨w, e⟩ | ⟨w, e⟩, _⟩
  · exact e
  · cases e
  · cases e
theorem ev_ex0 {C : Addr} : EV (fun _ H Q => ∀ a, H a = none → Q (.ref a) (upd H a (exo a C none))) ρ (.x ⟨C, none⟩) ρ := fun e F σ H Q S k a n => by
  have A := Al.one (o := L2.exo a C none) S.sub n
  exact k _ _ _ A.f (S.al A) ⟨a, rfl, upd_same⟩
theorem ev_ex1 {C : Addr} {f : Str} {d : PyData} (h : EV ta ρ (.d d) ρ1) : EV (tExmk C f (tCons ta tNil)) ρ (.x ⟨C, some (f, d)⟩) ρ1 := fun e F σ H Q S k => by
  refine ea_cons h ea_nil e F σ H _ S fun F1 H1 vs f1 S1 r => ?_
  cases r with
  | cons r t =>
    cases t
    rename_i v
    have r : Rp F1 v d := r
    refine ⟨v, rfl, fun a dx na nd ne => ?_⟩
    have A1 := Al.one (o := L2.exd dx [(f, v)]) S1.sub nd
    have na2 : upd H1 dx (L2.exd dx [(f, v)]) a = none := by rw [upd_ne (fun z => ne z.symm)]; exact na
    have A2 := Al.one (o := L2.exo a C (some dx)) A1.sub na2
    have eq : madeH H1 a dx C f v = upd (upd H1 dx (L2.exd dx [(f, v)])) a (L2.exo a C (some dx)) := by
      funext b
      show upd (upd (upd H1 a _) dx _) a _ b = _
      by_cases z : b = a
      · subst z; rw [upd_same, upd_same]
      · rw [upd_ne z, upd_ne z]
        by_cases y : b = dx
        · subst y; rw [upd_same, upd_same]
        · rw [upd_ne y, upd_ne y, upd_ne z]
    rw [eq]
    have A := A1.trans A2
    exact k _ _ _ (f1.trans A.f) (S1.al A) ⟨a, dx, v, rfl, upd_same, by rw [upd_ne ne]; exact upd_same, r.mono A.f⟩
theorem ev_exfld {C : Addr} {f : Str} {d : PyData} (h : EV ta ρ (.x ⟨C, some (f, d)⟩) ρ1) (T : XfC K C) (no : PySem.W.findIn K (.ref C) f = some none) : EV (tExfld K f ta) ρ (.d d) ρ1 := fun e F σ H Q S k => h e F σ H _ S fun F' H' v f' S' r => by
  obtain ⟨a, dx, w, rfl, e1, e2, r⟩ := r
  exact ⟨a, C, dx, _, w, rfl, T, no, S'.sub.exo e1, S'.sub.exd e2, by simp [List.lookup], k F' H' w f' S' r⟩
theorem ev_isX {x : XD} {c : V} {cv : Value} {b : Bool} (h : EV ta ρ (.x x) ρ1) (T : ExcC K x.C) (hc : ∀ u, RelV c u → u = cv) (hb : PySem.W.kitOne K (.ref x.C) cv = some b) : EV (tCB (rIsX K) (tCons ta (tCons (tC c) tNil))) ρ (.d (.bool b)) ρ1 := fun e F σ H Q S k => h e F σ H _ S fun F' H' v f' S' r => by
  obtain ⟨C, fld⟩ := x
  cases fld with
  | none =>
    obtain ⟨a, rfl, e1⟩ := r
    exact ⟨a, C, none, c, cv, b, rfl, T, S'.sub.exo e1, fun _ z => by (cases z), hc, hb, k F' H' _ f' S' (Rp.bl _)⟩
  | some fd =>
    obtain ⟨f, d⟩ := fd
    obtain ⟨a, dx, w, rfl, e1, e2, r⟩ := r
    exact ⟨a, C, some dx, c, cv, b, rfl, T, S'.sub.exo e1, fun _ z => by cases z; exact ⟨_, S'.sub.exd e2⟩, hc, hb, k F' H' _ f' S' (Rp.bl _)⟩
/-! ### lists of them -/
theorem Srcs.xs {F : Hp} {σ : L2.St} : ∀ {es : List XD} {vs : List V}, Srcs F σ (es.map fun d => Src.d (.x d)) vs → XRpAll F vs es
  | [], _, .nil => .nil
  | _ :: _, _, .cons a b => .cons a b.xs
theorem XRpAll.length {F : Hp} : ∀ {vs : List V} {es : List XD}, XRpAll F vs es → vs.length = es.length
  | _, _, .nil => rfl
  | _, _, .cons _ t => by simp [t.length]
theorem XRpAll.get {F : Hp} : ∀ {es : List XD} {vs : List V} {i : Nat} {v : V}, XRpAll F vs es → vs[i]? = some v → ∃ d, es[i]? = some d ∧ XRp F v d
  | _, _, i, _, .nil, e => by simp at e
  | _, _, 0, _, .cons r _, e => by simp at e; subst e; exact ⟨_, rfl, r⟩
  | _, _, i + 1, v, .cons _ t, e => by
    obtain ⟨d, h1, h2⟩ := XRpAll.get (i := i) (v := v) t (by simpa using e)
    exact ⟨d, by simpa using h1, h2⟩
theorem XRpAll.get' {F : Hp} : ∀ {es : List XD} {vs : List V} {i : Nat} {d : XD}, XRpAll F vs es → es[i]? = some d → ∃ v, vs[i]? = some v ∧ XRp F v d
  | _, _, i, _, .nil, e => by simp at e
  | _, _, 0, _, .cons r _, e => by simp at e; subst e; exact ⟨_, rfl, r⟩
  | _, _, i + 1, v, .cons _ t, e => by
    obtain ⟨d, h1, h2⟩ := XRpAll.get' (i := i) (d := v) t (by simpa using e)
    exact ⟨d, by simpa using h1, h2⟩
theorem ev_xlst {t : TA} {es : List XD} (h : EA t ρ (es.map fun d => Src.d (.x d)) ρ1) (hl : es.length ≤ sizeLine) : EV (tLst t) ρ (.xs es) ρ1 := fun e F σ H Q S k => h e F σ H _ S fun F1 H1 vs f1 S1 r1 => by
  have r := r1.xs
  refine ⟨by rw [r.length]; exact hl, fun p hp => ?_⟩
  have A := Al.one (o := .lst vs) S1.sub hp
  exact k _ _ _ (f1.trans A.f) (S1.al A) ⟨p, vs, rfl, upd_same, r.mono A.f⟩
theorem si_xs {F : Hp} {a : Addr} {vs : List V} {es : List XD} (e : F a = some (.lst vs)) (r : XRpAll F vs es) : SI (Itl K a) F C0 (es.map .x) where
  go := fun F' H i f S c h => by
    rw [List.length_map] at h
    have hl : i < vs.length := by rw [r.length]; exact h
    exact ⟨vs, vs[i], SqL.of (S.lst (f _ _ e)), by simp [hl]⟩
  stop := fun F' H i f S c h => by
    rw [List.length_map] at h
    exact ⟨vs, SqL.of (S.lst (f _ _ e)), by rw [r.length]; exact h⟩
  yld := fun F' H i v H' f S c y h => by
    obtain ⟨rfl, y⟩ := y
    obtain ⟨d, hd, rd⟩ := (r.mono f).get (y vs (SqL.of (S.lst (f _ _ e))))
    exact ⟨F', .x d, .rfl S, by rw [List.getElem?_map, hd]; rfl, rd⟩
theorem ei_xs {tl : TE} {es : List XD} (h : EV tl ρ (.xs es) ρ1) : EI (iList K tl) ρ (es.map .x) ρ1 := fun e F σ H R S k => h e F σ H _ S fun F' H' v f S' r => by
  obtain ⟨a, vs, rfl, q, r⟩ := r
  exact ⟨_, rfl, ⟨_, SqL.of (S'.sub.lst q)⟩, k F' H' _ f S' (si_xs q r)⟩
theorem ev_ixX {es : List XD} {i : Nat} {j : Int} {d : XD} (h : EV ta ρ (.xs es) ρ1) (h2 : EV tb ρ1 (.d (.int j)) ρ2) (hj : j = i) (hd : es[i]? = some d) : EV (tOp (rIx K) ta tb) ρ (.x d) ρ2 := fun e F σ H Q S k =>
  h e F σ H _ S fun F1 H1 v f1 S1 r1 => h2 e F1 σ H1 _ S1 fun F2 H2 w f2 S2 r2 => by
    subst hj
    cases r2
    obtain ⟨a, vs, rfl, q, r⟩ := r1
    obtain ⟨u, h1, h2⟩ := (r.mono f2).get' hd
    exact .inl ⟨a, vs, (i : Int), u, rfl, rfl, SqL.of (S2.sub.lst (f2 _ _ q)), L2.atI_nat h1, k F2 H2 u (f1.trans f2) S2 h2⟩
end Pw
namespace Pw
open PySem L2
section
variable {X : Cx}
theorem call_isXK (K : PySem.W.Frag) (h : X.K = K := by rfl) : CallR X (.builtin "isinstance") (rIsX K) := h ▸ call_isX
theorem pe_exfldK {e : Expr} {te : TE} {f : Str} {pos : Pos} (K : PySem.W.Frag) (he : PE X e te) (h : X.K = K := by rfl) (hb : attributeBase e f X.env (eval e X.env) = eval e X.env := by rfl) : PE X (.Attribute e f pos) (tExfld K f te) := h ▸ pe_exfld he hb
end
end Pw
namespace Pw
open PySem L2
variable {ρ ρ1 : List Slot} {ta : TE}
theorem ev_xcall {g : List Arg → Ret → (Nat → Cont) → Prop} {E : XK} {e : XD} {y : Val} (h : EV ta ρ (.x e) ρ1) (hg : g [.d (.x e)] (.v y) (fun _ => .lst [])) : EV (tCall (spG g) [] E (tCons ta tNil)) ρ y ρ1 := by
  have z := ev_call (E := E) (g := g) (x := y) (outs := fun _ => .lst []) (ss := [.d (.x e)]) (ea_cons h ea_nil)
    ⟨fun k j hk => (by match k, hk with | 0, hk => cases hk | k + 1, hk => simp at hk), fun j k m hj hk => (by match j, hj with | 0, hj => cases hj | j + 1, hj => simp at hj)⟩ hg
  exact z
theorem at_xs {es : List XD} {i : Nat} {x : Val} (h : (es.map Val.x)[i]? = some x) : ∃ e, e ∈ es ∧ x = .x e := by
  rw [List.getElem?_map] at h
  cases z : es[i]? with
  | none => rw [z] at h; cases h
  | some e => rw [z] at h; cases h; exact ⟨e, List.mem_of_getElem? z, rfl⟩
end Pw
namespace Pw
open PySem L2
variable {ρ ρ1 : List Slot} {ta : TE}
theorem et_b' {b c : Bool} (h : EV ta ρ (.d (.bool c)) ρ1) (e : c = b) : ET (tB ta) ρ b ρ1 := by subst e; exact et_b h
end Pw

set_option Elab.async false
set_option linter.all false
set_option maxRecDepth 100000
set_option maxHeartbeats 2000000
/-! What the head tells of own exception classes, by looks at the written part. -/
namespace Pw
open PySem L2 PyProof.Rows He
def clsM (s : Stmt) (j : Nat) : Stmt := match s with
  | .ClassDef _ _ _ b _ _ _ _ _ _ _ => b.getD j (.Pass ⟨0, 0, 0, 0⟩)
  | x => x
def clsShape (K : PySem.W.Frag) (C : Addr) : Bool := match K.lookup C with
  | some { cls := .type "type", dict := _, data := .cls cd, slots := sl } => match cd.mro, sl.toList with
    | .ref C' :: .ref _ :: t, [_, _, _, _, some (.builtin n), _] => C' == C && (decide (t = PySem.ESX.exTail) && (n == "Exception.__new__" && (!cd.hasDel && cd.hasDict)))
    | _, _ => false
  | _ => false
theorem clsShape_ok {K : PySem.W.Frag} {C : Addr} (h : clsShape K C = true) : ∃ M nm q N bs sn sub ab col dd k0 k1 k2 k3 k5, K.lookup C = some (excClassObj nm q C N bs (.ref M :: PySem.ESX.exTail) true sn sub ab col dd k0 k1 k2 k3 k5 "Exception.__new__") := by
  unfold clsShape at h
  split at h
  · rename_i dd cd sl ho
    split at h
    · rename_i C' M t k0 k1 k2 k3 n k5 hm hs
      simp only [Bool.and_eq_true, beq_iff_eq, Bool.not_eq_true', decide_eq_true_eq] at h
      obtain ⟨rfl, rfl, rfl, hdel, hdict⟩ := h
      obtain ⟨nm, bs, mro, ns, qn, hd, sn, sub, ab, col, del⟩ := cd
      dsimp only at hm hdel hdict
      subst hm; subst hdel; subst hdict
      have e : sl = #[k0, k1, k2, k3, some (.builtin "Exception.__new__"), k5] := by
        cases sl; simpa using hs
      subst e
      exact ⟨M, nm, qn, ns, bs, sn, sub, ab, col, dd, k0, k1, k2, k3, k5, ho⟩
    · cases h
  · cases h
/-- its instances are asked for their class in the plain way -/
def askB (K : PySem.W.Frag) (C : Addr) : Bool := decide (PySem.W.findIn K (.ref C) "__getattribute__" = some (some (.builtin "BaseException.__getattribute__"))) && (decide (PySem.W.findIn K (.ref C) "__getattr__" = some none) && (decide (PySem.W.subIn K (.ref C) (.type "BaseException") = some true) && (PySem.W.hasDictIn K C &&
  (decide (PySem.W.findIn K (.ref C) "__class__" = some (some (.builtin "object.__class__"))) && (decide (PySem.W.specialIn K (.builtin "object.__class__") "__get__" = some (some (.builtin "getset_descriptor.__get__"))) && (decide (PySem.W.takesIn K (.builtin "object.__class__") = some true) && decide (PySem.W.mroIn K C (.type "object") = some true)))))))
theorem askB_ok {K : PySem.W.Frag} {C : Addr} (h : askB K C = true) : ExcC K C := by
  simp only [askB, Bool.and_eq_true, decide_eq_true_eq] at h
  obtain ⟨h1, h2, h3, h4, h5, h6, h7, h8⟩ := h
  exact ⟨h1, h2, h3, h4, h5, h6, h7, h8⟩
theorem ask_xf {K : PySem.W.Frag} {C : Addr} (h : ExcC K C) : XfC K C := ⟨h.hg, h.hk, h.hs, h.hd⟩
/-- a class with an __init__ that keeps its argument as f -/
def exiB (K : PySem.W.Frag) (x f : Str) : Bool := clsShape K (ga K x) && (decide (PySem.W.findIn K (.ref (ga K x)) "__setattr__" = some (some (.builtin "object.__setattr__"))) && (decide (PySem.W.typeIn K (.ref (ga K x)) = some (.type "type")) && (PySem.W.keepIn K (.ref (ga K x)) && (decide (PySem.W.findIn K (.ref (ga K x)) f = some none) && askB K (ga K x)))))
structure ExI (K : PySem.W.Frag) (C : Addr) (f : Str) : Prop where
  T : ExC K C
  no : PySem.W.findIn K (.ref C) f = some none
  A : ExcC K C
theorem exiB_ok {K : PySem.W.Frag} {x f : Str} (h : exiB K x f = true) : ExI K (ga K x) f := by
  simp only [exiB, Bool.and_eq_true, decide_eq_true_eq] at h
  obtain ⟨h1, h2, h3, h4, h5, h6⟩ := h
  have A := askB_ok h6
  exact ⟨⟨clsShape_ok h1, h2, A.hs, h3, h4⟩, h5, A⟩
def ex0B (K : PySem.W.Frag) (x : Str) : Bool := PySem.W.excIn K (ga K x) PySem.ESX.exTail "Exception.__new__" && (PySem.W.keepIn K (.ref (ga K x)) && (decide (PySem.W.typeIn K (.ref (ga K x)) = some (.type "type")) && askB K (ga K x)))
theorem ex0B_ok {K : PySem.W.Frag} {x : Str} {mg : Str → Option Value} (h : ex0B K x = true) (hm : mg x = some (.ref (ga K x))) : Ex0 K mg x (ga K x) ∧ ExcC K (ga K x) := by
  simp only [ex0B, Bool.and_eq_true, decide_eq_true_eq] at h
  obtain ⟨h1, h2, h3, h4⟩ := h
  have A := askB_ok h4
  exact ⟨⟨h1, hm, h2, A.hs, h3⟩, A⟩
/-- isinstance between classes of the text: rows (x, y) -/
def kitB1 (K : PySem.W.Frag) (b : Bool) (p : Str × Str) : Bool := decide (PySem.W.kitOne K (.ref (ga K p.1)) (.ref (ga K p.2)) = some b)
def kitT1 (K : PySem.W.Frag) (b : Bool) (p : Str × String) : Bool := decide (PySem.W.kitOne K (.ref (ga K p.1)) (.type p.2) = some b)
def exm1 (K : PySem.W.Frag) (p : Str × Str) : Bool := decide (PySem.W.exmOne K (.ref (ga K p.1)) (.ref (ga K p.2)) = some true)
abbrev selfP (p : Str) : List Str := [("self" : Str), p]
theorem init_ok {P : Program} {w : World} {K : PySem.W.Frag} {mg : Str → Option Value} {base : Heap} {x qual p : Str} {s : Stmt} {fd : FuncData} {C fI : Addr} {f : Str} (I : ExI K C f) (hm : mg x = some (.ref C))
    (F : FunD K "__init__" qual (defArgs s) (defBody s) (defScope s) [] [] fI fd) (M : Meth K C "__init__" fI) (S : FnScope (selfP p) (selfP p) (defScope s))
    (hb : ∀ (kV doc pm : Value) (an : Option Addr) (cdv ct : Value) (us : List Value), us.length = 2 → bindArgs (PySem.W.fnOf "__init__" qual (defArgs s) (defBody s) (defScope s) .none kV doc pm an cdv ct) ⟨us, []⟩ = pure ((selfP p).zip us))
    (hk : ∀ (kV doc pm : Value) (an : Option Addr) (cdv ct a b : Value), bindArgs (PySem.W.fnOf "__init__" qual (defArgs s) (defBody s) (defScope s) .none kV doc pm an cdv ct) ⟨[a], [(f, b)]⟩ = pure ((selfP p).zip [a, b]))
    (hp : ∀ (cdv : Value) (A : Around) (outer : List Env) (st : Shared) (H : Hp) (E : XK), PSs (cxOf CX0 P w K mg base (selfP p) qual (defScope s) fI cdv A outer st H E).nox (defBody s) (tExst K f (tVar 0) (tVar 1))) : ExMk P w K mg base 1 x C f := by
  refine ⟨I.T, hm, I.no, fI, fd, (selfP p), M.at_, ?_, ?_, F.bindsN (ps := (selfP p)) hb, fun s' a b => ?_⟩
  · exact beq_iff_eq.mp M.fn
  · refine F.ok S (fun vs H Q E h => ?_) (fun cdv A outer st H vs Q E hr h => ⟨tExst K f (tVar 0) (tVar 1), PSs.nox (hp cdv A outer st H E), ?_⟩)
    · obtain ⟨a, C', v, rfl, _⟩ := h
      rfl
    · obtain ⟨a, C', v, rfl, T, no, e, h⟩ := h
      exact ⟨v, rfl, .ref a, rfl, a, C', rfl, T, no, e, fun dx n ne => h dx n ne⟩
  · obtain ⟨oc, od, dV, kV, doc, pm, an, cdv, ct, osl, rfl, lk, hcd, hD, hK⟩ := F.ex
    rcases hD with ⟨_, rfl⟩ | ⟨e, _⟩
    · exact .of_eq (hk kV doc pm an cdv ct a b)
    · exact absurd rfl e
end Pw
namespace Pw
open PySem L2
/-- a def of one datum whose answer is a truth, opened down to the heap -/
theorem raw1 {f : PyData → PyData → Prop} {vs : List V} {H : Hp} {Q : VK} {E : XK} {goal : Prop} (s : sp1 f vs H Q E)
    (k : ∀ F v a y, f a y → Sub F H → Rp F v a → vs = [v] → (∀ H' b, y = .bool b → FSub H H' → Q (.bl b) H') → goal) : goal := by
  obtain ⟨F, as, ret, outs, S, A, _, ⟨ds, y, e1, h, e2⟩, q⟩ := s
  cases h with
  | mk h =>
    subst e1; subst e2
    cases A with
    | cons r t =>
      cases t
      refine k F _ _ y h S r rfl fun H' b e f => ?_
      subst e
      refine q F H' _ .rfl (fun a h => .inl h) (fun a o h => ?_) (fun a o h _ => f a o h) (fun a h => ?_) (Rp.bl b) (fun i a ⟨⟨c, h⟩, _⟩ => ?_)
      · rcases S a o h with z | ⟨z, ob, w⟩
        · exact .inl (f _ _ z)
        · exact .inr ⟨z, ob, f _ _ w⟩
      · cases z : H a with
        | none => exact absurd z h
        | some o => rw [f _ _ z]; simp
      · match i, h with
        | 0, h => cases h
        | i + 1, h => simp at h
end Pw
namespace Pw
open PySem L2 PyProof.Rows He
/-- no list stands in the written part -/
def noListB (K : PySem.W.Frag) : Bool := K.all fun p => !decide (p.2.cls = .type "list")
theorem noListB_ok {K : PySem.W.Frag} (h : noListB K = true) {a : Addr} {o : Obj} (e : K.lookup a = some o) : o.cls ≠ .type "list" := by
  induction K with
  | nil => simp at e
  | cons p K ih =>
    obtain ⟨b, u⟩ := p
    simp only [noListB, List.all_cons, Bool.and_eq_true] at h
    rw [List.lookup_cons] at e
    split at e
    · cases e
      simpa using h.1
    · exact ih h.2 e
section
variable {P : Program} {w : World} {K : PySem.W.Frag} {mg : Str → Option Value} {base : Heap}
theorem fn_mk {x : Str} {s : Stmt} {N ps : List Str} {k : Nat} {sp : Sp} {f : Addr} {fd : FuncData} (F : FunD K x x (defArgs s) (defBody s) (defScope s) [] [] f fd) (S : FnScope N ps (defScope s)) (len : ∀ vs H Q E, sp vs H Q E → vs.length = ps.length)
    (hbody : ∀ (f : Addr) (cdv : Value) (A : Around) (outer : List Env) (st : Shared) (H : Hp) (vs : List V) (Q : VK) (E : XK), Room k (A.deeper (PyProof.Rows.envOfC x (defScope s) st.heap.objs.size f cdv)) → sp vs H Q E →
      ∃ t, PSs (cxOf CX0 P w K mg base N x (defScope s) f cdv A outer st H E).nox (defBody s) t ∧ t { nx := fun _ H' => Q .non H', rt := Q } (L2.start N vs) H) : FnOk P w K mg base CX0 (k + 1) f fd ps sp :=
  F.ok S len fun cdv A outer st H vs Q E hr h => by
    obtain ⟨t, h1, h2⟩ := hbody f cdv A outer st H vs Q E hr h
    exact ⟨t, h1.nox, h2⟩
end
/-- a law of the script that answers True -/
def gTrue (as : List Arg) (ret : Ret) (outs : Nat → Cont) : Prop := ∃ ns : List Int, as = [.d (.scr ns)] ∧ ns.length ≤ 63 ∧ ret = .v (.d (.bool true))
theorem lenTrue {vs : List V} {H : Hp} {Q : VK} {E : XK} (s : spG gTrue vs H Q E) : vs.length = 1 := len_of (fun _ _ _ ⟨_, e, _⟩ => by rw [e]; rfl) s
theorem law_entry {K : PySem.W.Frag} (nl : noListB K = true) {H : Hp} {a : Addr} {ns : List Int} {E : XK} (hl : ns.length ≤ 63) (hO : Only H) (hS : SqL K H a (ns.map V.int)) : spG gTrue [.ref a] H (fun v _ => v = .bl true) E := by
  have key : ∃ o, H a = some (.frz o (.lst (ns.map V.int))) := by
    rcases hS with (e | ⟨o, e⟩) | ⟨o, its, n, e, ec, _⟩
    · rcases hO a with z | ⟨o, xs, z⟩
      · rw [e] at z; cases z
      · rw [e] at z; cases z
    · exact ⟨o, e⟩
    · exact absurd ec (noListB_ok nl e)
  obtain ⟨o, e⟩ := key
  refine ⟨fun b => if b = a then H a else none, [.d (.scr ns)], .v (.d (.bool true)), fun _ => .lst [], fun b u h => ?_, .cons ⟨a, o, rfl, ?_⟩ .nil, ?_, ⟨ns, rfl, hl, rfl⟩, fun F' H' v _ _ _ _ _ r _ => ?_⟩
  · by_cases z : b = a
    · subst z; left
      simpa using h
    · simp [z] at h
  · simpa using e
  · rintro i j b ⟨⟨c, h⟩, _⟩ _
    exact (no1r h).elim
  · cases r; rfl
end Pw

set_option Elab.async false
set_option linter.all false
set_option maxRecDepth 100000
set_option maxHeartbeats 0
namespace Hd
open PySem PySem.Spec PyProof.Rows L2
def top (i : Nat) : Stmt := PySem.Challenge.pw_cornerfade_k00_errors.main.body.getD i (.Pass ⟨0, 0, 0, 0⟩)
abbrev s__law_so : Stmt := top 9
abbrev s__law_numbers : Stmt := top 10
abbrev s__law_draw : Stmt := top 11
abbrev s__law_take : Stmt := top 12
abbrev s__law_of : Stmt := top 13
abbrev s__law_foreign : Stmt := top 14
abbrev s__law_caught : Stmt := top 15
abbrev s_law : Stmt := top 16
def dd (x : Str) (s : Stmt) : He.DefD := ⟨(x, none), x, x, defArgs s, defBody s, defScope s, [], []⟩
def six : List Str := [("BadValue" : Str), ("BadText" : Str), ("BadLevels" : Str), ("CannotDrop" : Str), ("NoStage" : Str), ("NotLegal" : Str)]
def BB (K : PySem.W.Frag) : Bool := Pw.exiB K "BadValue" "at" && (Pw.exiB K "BadText" "at" && (Pw.exiB K "BadLevels" "at" && (Pw.exiB K "CannotDrop" "point" && (Pw.exiB K "NoStage" "number" && (Pw.ex0B K "NotLegal" && (Pw.noListB K && ((six.all fun x => Pw.exm1 K (x, "MapError")) && ((six.all fun x => six.all fun y => Pw.kitB1 K (decide (x = y)) (x, y)) && ((six.all fun x => Pw.kitB1 K true (x, "MapError")) && ((six.all fun x => Pw.kitT1 K false (x, "ValueError")) && ((six.all fun x => Pw.kitT1 K false (x, "LookupError")) && ((six.all fun x => Pw.kitT1 K false (x, "ArithmeticError")) && ((six.all fun x => Pw.kitT1 K true (x, "Exception"))
)))))))))))))abbrev m_BadValue : Stmt := Pw.clsM (top 2) 0
abbrev m_BadText : Stmt := Pw.clsM (top 3) 0
abbrev m_BadLevels : Stmt := Pw.clsM (top 4) 0
abbrev m_CannotDrop : Stmt := Pw.clsM (top 5) 0
abbrev m_NoStage : Stmt := Pw.clsM (top 6) 0
def fn : List He.DefD := [dd "_law_so" s__law_so, dd "_law_numbers" s__law_numbers, dd "_law_draw" s__law_draw, dd "_law_take" s__law_take, dd "_law_of" s__law_of, dd "_law_foreign" s__law_foreign, dd "_law_caught" s__law_caught, dd "law" s_law, ⟨("BadValue", some "__init__"), "__init__", "BadValue.__init__", defArgs m_BadValue, defBody m_BadValue, defScope m_BadValue, [], []⟩, ⟨("BadText", some "__init__"), "__init__", "BadText.__init__", defArgs m_BadText, defBody m_BadText, defScope m_BadText, [], []⟩, ⟨("BadLevels", some "__init__"), "__init__", "BadLevels.__init__", defArgs m_BadLevels, defBody m_BadLevels, defScope m_BadLevels, [], []⟩, ⟨("CannotDrop", some "__init__"), "__init__", "CannotDrop.__init__", defArgs m_CannotDrop, defBody m_CannotDrop, defScope m_CannotDrop, [], []⟩, ⟨("NoStage", some "__init__"), "__init__", "NoStage.__init__", defArgs m_NoStage, defBody m_NoStage, defScope m_NoStage, [], []⟩]
def fa : List He.Fa := [.glo "_law_so", .glo "_law_numbers", .glo "_law_draw", .glo "_law_take", .glo "_law_of", .glo "_law_foreign", .glo "_law_caught", .glo "law", .free "ArithmeticError", .free "Exception", .free "LookupError", .free "ValueError", .free "bool", .free "int", .free "isinstance", .free "len", .free "range", .free "str", .free "tuple", .glo "MapError", .glo "BadValue", .glo "BadText", .glo "BadLevels", .glo "CannotDrop", .glo "NoStage", .glo "NotLegal", .meth "BadValue" "__init__", .meth "BadText" "__init__", .meth "BadLevels" "__init__", .meth "CannotDrop" "__init__", .meth "NoStage" "__init__"]
def loose0 : List Str := [("MapError" : Str), ("BadValue" : Str), ("BadText" : Str), ("BadLevels" : Str), ("CannotDrop" : Str), ("NoStage" : Str), ("NotLegal" : Str), ("_law_so" : Str), ("_law_numbers" : Str), ("_law_draw" : Str), ("_law_take" : Str), ("_law_of" : Str), ("_law_foreign" : Str), ("_law_caught" : Str)]
def loose : List Str := loose0
abbrev R : PySem.W.OpenRow := PySem.W.OpenLaw.row PySem.Challenge.rw_cornerfade_k00_errors
abbrev hk : PySem.W.Hook := Pw.hookB 4 fa fn BB
def ob (s : PySem.W.SharedT) : He.AlD := Pw.obsBG 4 fa fn BB (HandSHeadRun.getT s)
theorem ob_eq (s : PySem.W.SharedT) : ob s = hk.obs s.abs := Pw.obsBG_eq (HandSHeadRun.getT_eq s)
theorem run (w : World) : HandSHeadRun.RunEq R (PySem.W.view R.prog [16]) hk ob 30000 loose w := by
  intro os
  kernel_rfl
end Hd
set_option Elab.async false
set_option linter.all false
set_option maxRecDepth 100000
set_option maxHeartbeats 4000000
open PySem L2 Pw Hd
namespace Pv
structure Bt (mg : Str → Option Value) : Prop where
  b_ArithmeticError : mg "ArithmeticError" = none
  b_Exception : mg "Exception" = none
  b_LookupError : mg "LookupError" = none
  b_ValueError : mg "ValueError" = none
  b_bool : mg "bool" = none
  b_int : mg "int" = none
  b_isinstance : mg "isinstance" = none
  b_len : mg "len" = none
  b_range : mg "range" = none
  b_str : mg "str" = none
  b_tuple : mg "tuple" = none

section
variable {P : Program} {w : World} {K : PySem.W.Frag} {mg : Str → Option Value} {base : Heap}
structure Et (P : Program) (w : World) (K : PySem.W.Frag) (mg : Str → Option Value) (base : Heap) : Prop where
  m_MapError : mg "MapError" = some (.ref (He.ga K "MapError"))
  m_BadValue : mg "BadValue" = some (.ref (He.ga K "BadValue"))
  m_BadText : mg "BadText" = some (.ref (He.ga K "BadText"))
  m_BadLevels : mg "BadLevels" = some (.ref (He.ga K "BadLevels"))
  m_CannotDrop : mg "CannotDrop" = some (.ref (He.ga K "CannotDrop"))
  m_NoStage : mg "NoStage" = some (.ref (He.ga K "NoStage"))
  m_NotLegal : mg "NotLegal" = some (.ref (He.ga K "NotLegal"))
  i_BadValue : ExMk P w K mg base 1 "BadValue" (He.ga K "BadValue") "at"
  x_BadValue : ExI K (He.ga K "BadValue") "at"
  i_BadText : ExMk P w K mg base 1 "BadText" (He.ga K "BadText") "at"
  x_BadText : ExI K (He.ga K "BadText") "at"
  i_BadLevels : ExMk P w K mg base 1 "BadLevels" (He.ga K "BadLevels") "at"
  x_BadLevels : ExI K (He.ga K "BadLevels") "at"
  i_CannotDrop : ExMk P w K mg base 1 "CannotDrop" (He.ga K "CannotDrop") "point"
  x_CannotDrop : ExI K (He.ga K "CannotDrop") "point"
  i_NoStage : ExMk P w K mg base 1 "NoStage" (He.ga K "NoStage") "number"
  x_NoStage : ExI K (He.ga K "NoStage") "number"
  n_NotLegal : Ex0 K mg "NotLegal" (He.ga K "NotLegal")
  ask : ∀ x ∈ six, ExcC K (He.ga K x)
  k2 : ∀ x ∈ six, ∀ y ∈ six, PySem.W.kitOne K (.ref (He.ga K x)) (.ref (He.ga K y)) = some (decide (x = y))
  kM : ∀ x ∈ six, PySem.W.kitOne K (.ref (He.ga K x)) (.ref (He.ga K "MapError")) = some true
  k_ValueError : ∀ x ∈ six, PySem.W.kitOne K (.ref (He.ga K x)) (.type "ValueError") = some false
  k_LookupError : ∀ x ∈ six, PySem.W.kitOne K (.ref (He.ga K x)) (.type "LookupError") = some false
  k_ArithmeticError : ∀ x ∈ six, PySem.W.kitOne K (.ref (He.ga K x)) (.type "ArithmeticError") = some false
  k_Exception : ∀ x ∈ six, PySem.W.kitOne K (.ref (He.ga K x)) (.type "Exception") = some true
  eM : ∀ x ∈ six, PySem.W.exmOne K (.ref (He.ga K x)) (.ref (He.ga K "MapError")) = some true
def bitsOf (x : Str) : List Bool := six.map fun y => decide (x = y)
def gOf (K : PySem.W.Frag) (as : List Pw.Arg) (ret : Ret) (outs : Nat → Cont) : Prop := ∃ x ∈ six, ∃ e : XD, e.C = He.ga K x ∧ as = [.d (.x e)] ∧ ret = .v (.d (.list ((bitsOf x).map .bool)))
def gForeign (K : PySem.W.Frag) (as : List Pw.Arg) (ret : Ret) (outs : Nat → Cont) : Prop := ∃ x ∈ six, ∃ e : XD, e.C = He.ga K x ∧ as = [.d (.x e)] ∧ ret = .v (.d (.bool false))
def gCaught (a y : PyData) : Prop := ∃ n : Int, a = .int n ∧ y = .bool (!decide (n = 0))
theorem len_gx {g : List Pw.Arg → Ret → (Nat → Cont) → Prop} (z : ∀ as ret outs, g as ret outs → as.length = 1) {vs : List V} {H : Hp} {Q : VK} {E : XK} (s : spG g vs H Q E) : vs.length = 1 := len_of z s
theorem len_Of {vs : List V} {H : Hp} {Q : VK} {E : XK} (s : spG (gOf K) vs H Q E) : vs.length = 1 := len_of (fun _ _ _ ⟨_, _, _, _, e, _⟩ => by rw [e]; rfl) s
theorem len_Foreign {vs : List V} {H : Hp} {Q : VK} {E : XK} (s : spG (gForeign K) vs H Q E) : vs.length = 1 := len_of (fun _ _ _ ⟨_, _, _, _, e, _⟩ => by rw [e]; rfl) s
theorem no_refs {x : Val} {i : Nat} {c : Cont} (h : ([Pw.Arg.d x] : List Pw.Arg)[i]? = some (.r c)) : False := by
  match i, h with
  | 0, h => cases h
  | i + 1, h => simp at h
theorem sc__law_draw : FnScope [("row" : Str), ("at" : Str), ("limit" : Str), ("mixed" : Str)] [("row" : Str), ("at" : Str), ("limit" : Str)] (defScope s__law_draw) := ⟨rfl, rfl, rfl, by decide +kernel, rfl, by decide +kernel, by decide +kernel⟩
theorem c__law_draw  (D : Df K mg "_law_draw" s__law_draw) (T : Bt mg)   : Cal P w K mg base 1 "_law_draw" ["row", "at", "limit"] (sp3 gDraw) := by
  have sc := sc__law_draw
  refine cal_mk (k := 0) D sc (fun vs H Q E s => len3 s) (fun _ _ _ _ _ _ us hl => match us, hl with | [_, _, _], _ => rfl) (fun f cdv A outer st H vs Q E hr h => ⟨_, (pss_cons (ps_if (pt_cmpR op_lt (pv 1) (pe_callB (call_lenK K) (by rfl) T.b_len (by decide +kernel) (pa_cons (pv 0) pa_nil)) (nomark _)) (pss_one (ps_ret (pe_op op_mod (pe_callTy call_int1 (by rfl) T.b_int (by decide +kernel) (pa_cons (pe_ix (ix_K K) (pv 0) (pv 1) (fun _ _ => rfl)) pa_nil)) (pv 2)))) pss_nil)
    (pss_cons (ps_set (i := 3) sc.nd rfl (Or.inl rfl) (pe_op op_mod (pe_callTy call_int1 (by rfl) T.b_int (by decide +kernel) (pa_cons (pe_op (op_plusK K) (pe_op (op_plusK K) (pe_op op_mul (pe_ix (ix_K K) (pv 0) (pe_op op_mod (pe_callTy call_int1 (by rfl) T.b_int (by decide +kernel) (pa_cons (pv 1) pa_nil)) (pe_callB (call_lenK K) (by rfl) T.b_len (by decide +kernel) (pa_cons (pv 0) pa_nil))) (fun _ _ => rfl)) pe_int) (pe_op op_mul (pv 1) pe_int)) pe_int) pa_nil)) pe_int))
    (pss_one (ps_ret (pe_op op_mod (pe_callTy call_int1 (by rfl) T.b_int (by decide +kernel) (pa_cons (pe_op op_mod (pe_callTy call_int1 (by rfl) T.b_int (by decide +kernel) (pa_cons (pe_op (op_plusK K) (pe_op op_mul (pv 3) pe_int) (pv 1)) pa_nil)) pe_int) pa_nil)) (pv 2)))))), wp3 h ?_⟩)
  rintro _ _ _ _ ⟨row, n, lim, rfl, rfl, rfl, hr, hn, hl, rfl⟩
  have hp := hr.pos
  have hp2 : 0 < ((row.map PyData.int).length : Int) := by rw [List.length_map]; exact hp
  have el : ((row.map PyData.int).length : Int) = row.length := by rw [List.length_map]
  refine wp_seq ?_
  refine' wp_if (et_b (ev_op (ev_var rfl) (ev_cb1 (ev_var rfl) cd_lenL) opd_lt)) ?ht ?hf
  case ht =>
    intro hc
    have hc := of_decide_eq_true hc
    rw [el] at hc
    refine' wp_ret (ev_op (ev_cb1 (ev_op (ev_var rfl) (ev_var rfl) (opd_ixL (atI_ints hn.1 hc))) cd_int) (ev_var rfl) (opd_mod hl)) ?_
    show _ = _
    simp only [drawZ, if_pos hc]
  case hf =>
    intro hc
    have hc := of_decide_eq_false hc
    rw [el] at hc
    refine wp_next ?_
    show WP _ _ _
    refine wp_seq ?_
    have h0 : 0 ≤ n % (row.length : Int) := Int.emod_nonneg _ (by omega)
    have h1 : n % (row.length : Int) < row.length := Int.emod_lt_of_pos _ hp
    have ix : OpD (rIx K) (intsD row) (.int (n % ((row.map PyData.int).length : Int))) (.int (row.getD (n % (row.length : Int)).toNat 0)) := by rw [el]; exact opd_ixL (atI_ints h0 h1)
    refine' wp_asg (ev_op (ev_cb1 (ev_op (ev_op (ev_op (ev_op (ev_var rfl) (ev_op (ev_cb1 (ev_var rfl) cd_int) (ev_cb1 (ev_var rfl) cd_lenL) (opd_mod hp2)) ix) ev_int (opd_mul ?m1)) (ev_op (ev_var rfl) ev_int (opd_mul ?m2)) opd_add) ev_int opd_add) cd_int) ev_int (opd_mod ?m3)) ?k
    case m1 => exact .inr ⟨by decide, by decide⟩
    case m2 => exact .inr ⟨by decide, by decide⟩
    case m3 => decide
    case k =>
      show WP _ _ _
      refine' wp_ret (ev_op (ev_cb1 (ev_op (ev_cb1 (ev_op (ev_op (ev_var rfl) ev_int (opd_mul ?m1)) (ev_var rfl) opd_add) cd_int) ev_int (opd_mod ?m3)) cd_int) (ev_var rfl) (opd_mod hl)) ?_
      case m1 => exact .inr ⟨by decide, by decide⟩
      case m3 => decide
      show _ = _
      simp only [drawZ, if_neg hc]
theorem sc__law_take : FnScope [("row" : Str), ("spot" : Str), ("limit" : Str)] [("row" : Str), ("spot" : Str), ("limit" : Str)] (defScope s__law_take) := ⟨rfl, rfl, rfl, by decide +kernel, rfl, by decide +kernel, by decide +kernel⟩
theorem c__law_take  (D : Df K mg "_law_take" s__law_take) (T : Bt mg)  (c__law_draw : Cal P w K mg base 1 "_law_draw" ["row", "at", "limit"] (sp3 gDraw)) : Cal P w K mg base 2 "_law_take" ["row", "spot", "limit"] (spG gTake) := by
  have sc := sc__law_take
  refine cal_mk (k := 1) D sc (fun vs H Q E s => lenTake s) (fun _ _ _ _ _ _ us hl => match us, hl with | [_, _, _], _ => rfl) (fun f cdv A outer st H vs Q E hr h => ⟨_, (pss_cons (ps_asg (pe_op (op_plusK K) (pe_ix (ix_K K) (pv 1) pe_int (fun _ _ => rfl)) pe_int) (pg_sub (pv 1) pe_int set_list))
    (pss_one (ps_ret (pe_cal c__law_draw hr (by decide) (by rfl) (pa_cons (pv 0) (pa_cons (pe_op op_sub (pe_ix (ix_K K) (pv 1) pe_int (fun _ _ => rfl)) pe_int) (pa_cons (pv 2) pa_nil))))))), wp_def h ?_⟩)
  rintro as ret outs ⟨row, n, lim, rfl, hr, hn, hl, rfl, ho⟩ _
  refine wp_seq ?_
  refine' wp_setL (l := false) (ds := [.int n]) (m := 0) (ev_op (ev_ixO ev_int ⟨_, _, rfl⟩ rfl rfl) ev_int opd_add) ⟨_, _, rfl⟩ ev_int rfl rfl ?_
  show WP _ _ _
  have e : n + 1 - 1 = n := by omega
  have hg : gDraw (intsD row) (.int (n + 1 - 1)) (.int lim) (.int (drawZ row n lim)) := ⟨row, n, lim, rfl, by rw [e], rfl, hr, hn, hl, rfl⟩
  refine' wp_ret (ev_c3 (ev_var rfl) (ev_op (ev_ixO ev_int ⟨_, _, rfl⟩ rfl rfl) ev_int opd_sub) (ev_var rfl) hg) ?_
  refine ⟨rfl, fun i c h => ?_⟩
  match i, h with
  | 0, h => cases h
  | 1, h => rw [ho]; rfl
  | 2, h => cases h
  | i + 3, h => simp at h
theorem sc__law_numbers : FnScope [("script" : Str), ("row" : Str), ("cell" : Str), ("left" : Str), ("k" : Str), ("mixed" : Str)] [("script" : Str)] (defScope s__law_numbers) := ⟨rfl, rfl, rfl, by decide +kernel, rfl, by decide +kernel, by decide +kernel⟩
theorem c__law_numbers  (D : Df K mg "_law_numbers" s__law_numbers) (T : Bt mg)   : Cal P w K mg base 1 "_law_numbers" ["script"] (spG gNumbers) := by
  have sc := sc__law_numbers
  refine cal_mk (k := 0) D sc (fun vs H Q E s => lenNumbers s) (fun _ _ _ _ _ _ us hl => match us, hl with | [_], _ => rfl) (fun f cdv A outer st H vs Q E hr h => ⟨_, (pss_cons (ps_set (i := 1) sc.nd rfl (Or.inl rfl) (pe_lst pa_nil))
    (pss_cons (ps_for PassesOwn.never rfl (pi_LT K (pe_slice (sl_K K) (pv 0) po_none (po_some pe_int))) (pg_name (i := 2) sc.nd rfl (Or.inl rfl)) (pss_one (ps_if (pt_cmpR op_ge (pv 2) (pe_op op_pow pe_int pe_int) (nomark _)) (pss_cons (ps_set (i := 3) sc.nd rfl (Or.inl rfl) (pv 2))
    (pss_one (ps_for PassesOwn.never rfl (pi_range1 (by rfl) T.b_range (pa_cons pe_int pa_nil)) (pg_name (i := 4) sc.nd rfl (Or.inl rfl)) (pss_cons (ps_if (pt_cmpR (op_eqK K hr.units) (pv 3) pe_int (nomark _)) (pss_one ps_break) pss_nil)
    (pss_cons (ps_expr (pe_bmK K PySem.F.plainAttrs_list PySem.F.slot_list_append PySem.F.type_list_append mt_append (pv 1) (pa_cons (pe_op op_mod (pe_callTy call_int1 (by rfl) T.b_int (by decide +kernel) (pa_cons (pv 3) pa_nil)) pe_int) pa_nil)))
    (pss_one (ps_set (i := 3) sc.nd rfl (Or.inl rfl) (pe_op op_fdiv (pv 3) pe_int)))))))) (pss_one (ps_for PassesOwn.never rfl (pi_range1 (by rfl) T.b_range (pa_cons pe_int pa_nil)) (pg_name (i := 4) sc.nd rfl (Or.inl rfl)) (pss_cons (ps_set (i := 5) sc.nd rfl (Or.inl rfl) (pe_op op_mod (pe_callTy call_int1 (by rfl) T.b_int (by decide +kernel) (pa_cons (pe_op (op_plusK K) (pe_op (op_plusK K) (pe_op op_mul (pv 2) pe_int) (pe_op op_mul (pv 4) pe_int)) pe_int) pa_nil)) pe_int))
    (pss_one (ps_expr (pe_bmK K PySem.F.plainAttrs_list PySem.F.slot_list_append PySem.F.type_list_append mt_append (pv 1) (pa_cons (pe_op op_mod (pe_callTy call_int1 (by rfl) T.b_int (by decide +kernel) (pa_cons (pe_op (op_plusK K) (pe_op op_mul (pv 5) pe_int) (pv 4)) pa_nil)) pe_int) pa_nil))))))))))
    (pss_cons (ps_if (pt_cmpR (op_eqK K hr.units) (pe_callB (call_lenK K) (by rfl) T.b_len (by decide +kernel) (pa_cons (pv 1) pa_nil)) pe_int (nomark _)) (pss_one (ps_expr (pe_bmK K PySem.F.plainAttrs_list PySem.F.slot_list_append PySem.F.type_list_append mt_append (pv 1) (pa_cons pe_int pa_nil)))) pss_nil)
    (pss_one (ps_ret (pv 1)))))), wp_def h ?_⟩)
  rintro as ret outs ⟨ns, rfl, hn, rfl⟩ _
  refine wp_seq ?_
  refine' wp_asgO (eo_lst (ds := []) ea_nil (by decide)) ?_
  show WP _ _ _
  refine wp_seq ?_
  refine' wp_for (fun i ρ => ∃ s2 s3 s4 s5, ρ = [.val (.scr ns), .own true (.lst (((ns.take i).flatMap cellZ).map .int)), s2, s3, s4, s5]) (ei_or1 (ei_list (EO.vl (eo_slScr (ev_var rfl) eo_none (eo_some ev_int))))) ⟨_, _, _, _, rfl⟩ ?body ?done
  case body =>
    rintro i x _ hx ⟨s2, s3, s4, s5, rfl⟩
    rw [cut63 hn] at hx
    obtain ⟨c, hc, rfl⟩ := at_ints hx
    have step := cells_step hc
    have hi : i < ns.length := by
      rcases Nat.lt_or_ge i ns.length with z | z
      · exact z
      · rw [List.getElem?_eq_none z] at hc; cases hc
    have la := cells_len (ns.take i)
    rw [List.length_take, Nat.min_eq_left (Nat.le_of_lt hi)] at la
    generalize (ns.take i).flatMap cellZ = A at la step
    refine ⟨_, gt_name, ?_⟩
    show WP _ [_, _, .val (.d (.int c)), s3, s4, s5] _
    refine' wp_if (et_b (ev_op (ev_var rfl) (ev_op ev_int ev_int (opd_I ?pw)) opd_ge)) ?ht ?hf
    case pw => exact ⟨by decide, by decide, by decide⟩
    case ht =>
      intro hb
      have hb := of_decide_eq_true hb
      have ec : cellZ c = bigZ 60 c := if_pos hb
      refine wp_seq ?_
      refine' wp_asg (ev_var rfl) ?_
      show WP _ _ _
      refine' wp_for (fun j ρ => ∃ pre left s4, bigZ 60 c = pre ++ bigZ (60 - j) left ∧ ρ = [.val (.scr ns), .own true (.lst ((A ++ pre).map .int)), .val (.d (.int c)), .val (.d (.int left)), s4, s5]) (ei_range1 (ea_cons ev_int ea_nil) (by decide) (by decide)) ⟨[], c, _, rfl, by rw [List.append_nil]; rfl⟩ ?b2 ?d2
      case b2 =>
        rintro j x _ hx ⟨pre, left, s4, hp, rfl⟩
        obtain ⟨hj, rfl⟩ := at_range hx
        have hj : j < 60 := hj
        refine ⟨_, gt_name, ?_⟩
        show WP _ [_, _, _, _, .val (.d (.int (0 + (j : Int)))), s5] _
        have e60 : 60 - j = (60 - (j + 1)) + 1 := by omega
        rw [e60] at hp
        have lp : pre.length ≤ 60 := by
          have := bigZ_len 60 c
          rw [hp, List.length_append] at this
          omega
        refine wp_seq ?_
        refine' wp_if (et_b (ev_op (ev_var rfl) ev_int opd_eq_int)) ?t3 ?f3
        case t3 =>
          intro z
          have z := of_decide_eq_true z
          refine wp_break ?_
          have e0 : bigZ (60 - (j + 1) + 1) left = [] := by rw [z]; rfl
          rw [e0, List.append_nil] at hp
          exact ⟨_, _, _, _, by rw [step, ec, hp]⟩
        case f3 =>
          intro z
          have z := of_decide_eq_false z
          refine wp_next ?_
          show WP _ _ _
          refine wp_seq ?_
          refine' wp_append rfl (ev_op (ev_cb1 (ev_var rfl) cd_int) ev_int (opd_mod (by decide))) rfl ?_ ?_
          · rw [List.length_map, List.length_append]; exact size4000 (by omega)
          show WP _ _ _
          refine' wp_asg (ev_op (ev_var rfl) ev_int (opd_fdiv ⟨by decide, by decide⟩)) ?_
          have e1 : bigZ (60 - (j + 1) + 1) left = (left % 997) :: bigZ (60 - (j + 1)) (left / 997) := if_neg z
          refine ⟨pre ++ [left % 997], left / 997, .val (.d (.int (0 + (j : Int)))), by rw [hp, e1, List.append_assoc]; rfl, ?_⟩
          have em : ((A ++ (pre ++ [left % 997])).map PyData.int) = (A ++ pre).map PyData.int ++ [PyData.int (left % 997)] := by simp
          rw [em]
          rfl
      case d2 =>
        rintro _ ⟨pre, left, s4, hp, rfl⟩
        have hp : bigZ 60 c = pre ++ [] := hp
        rw [List.append_nil] at hp
        exact ⟨_, _, _, _, by rw [step, ec, hp]⟩
    case hf =>
      intro hb
      have hb := of_decide_eq_false hb
      have ec : cellZ c = smallZ c := if_neg hb
      refine' wp_for (fun j ρ => ∃ s4 s5, ρ = [.val (.scr ns), .own true (.lst ((A ++ (smallZ c).take j).map .int)), .val (.d (.int c)), s3, s4, s5]) (ei_range1 (ea_cons ev_int ea_nil) (by decide) (by decide)) ⟨_, _, by rw [List.take_zero, List.append_nil]⟩ ?b2 ?d2
      case b2 =>
        rintro j x _ hx ⟨s4, s5, rfl⟩
        obtain ⟨hj, rfl⟩ := at_range hx
        have hj : j < 4 := hj
        refine ⟨_, gt_name, ?_⟩
        show WP _ [_, _, _, _, .val (.d (.int (0 + (j : Int)))), s5] _
        refine wp_seq ?_
        refine' wp_asg (ev_op (ev_cb1 (ev_op (ev_op (ev_op (ev_var rfl) ev_int (opd_mul ?m1)) (ev_op (ev_var rfl) ev_int (opd_mul ?m2)) opd_add) ev_int opd_add) cd_int) ev_int (opd_mod ?m3)) ?k
        case m1 => exact .inr ⟨by decide, by decide⟩
        case m2 => exact .inr ⟨by decide, by decide⟩
        case m3 => decide
        case k =>
          show WP _ _ _
          refine' wp_append rfl (ev_op (ev_cb1 (ev_op (ev_op (ev_var rfl) ev_int (opd_mul ?m1)) (ev_var rfl) opd_add) cd_int) ev_int (opd_mod (by decide))) rfl ?sz ?nx
          case m1 => exact .inr ⟨by decide, by decide⟩
          case sz =>
            rw [List.length_map, List.length_append, List.length_take]
            have : (smallZ c).length = 4 := by simp [smallZ]
            exact size4000 (by omega)
          case nx =>
            refine ⟨.val (.d (.int (0 + (j : Int)))), .val (.d (.int ((c * 48271 + (0 + (j : Int)) * 69621 + 11) % 2147483647))), ?_⟩
            have e : (smallZ c)[j]? = some ((((c * 48271 + (j : Int) * 69621 + 11) % 2147483647) * 16807 + j) % 2147483629) := by
              unfold smallZ
              rw [List.getElem?_map, List.getElem?_range hj]; rfl
            have em : ((A ++ (smallZ c).take (j + 1)).map PyData.int) = (A ++ (smallZ c).take j).map PyData.int ++ [PyData.int ((((c * 48271 + (j : Int) * 69621 + 11) % 2147483647) * 16807 + j) % 2147483629)] := by
              rw [List.take_add_one, e]; simp
            rw [em]
            simp only [Int.zero_add]
            rfl
      case d2 =>
        rintro _ ⟨s4, s5, rfl⟩
        have e4 : (smallZ c).take 4 = smallZ c := List.take_of_length_le (by simp [smallZ])
        exact ⟨.val (.d (.int c)), s3, s4, s5, by rw [step, ec]; show [_, Slot.own true (.lst ((A ++ (smallZ c).take 4).map .int)), _, _, _, _] = _; rw [e4]⟩
  case done =>
    rintro _ ⟨s2, s3, s4, s5, rfl⟩
    have e : ns.take ((cutD (ns.map PyData.int) none (some 63)).map Val.d).length = ns := by
      rw [cut63 hn, List.length_map, List.length_map, List.take_length]
    rw [e]
    show WP _ _ _
    refine wp_seq ?_
    refine' wp_if (et_b (ev_op (ev_cw (ew_var rfl) cw_len) ev_int opd_eq_int)) ?ht ?hf
    case ht =>
      intro z
      have z := of_decide_eq_true z
      rw [List.length_map] at z
      have z : (ns.flatMap cellZ).length = 0 := by omega
      refine' wp_append rfl ev_int rfl ?_ ?_
      · rw [List.length_map, z]; decide
      show WP _ _ _
      refine' wp_retV rfl ?_
      refine ⟨.inr (.inr ⟨_, rfl, ?_⟩), fun i c h => (no1r h).elim⟩
      have e2 : ns.flatMap cellZ = [] := List.eq_nil_of_length_eq_zero z
      simp only [numbersZ, if_pos z, e2]
      rfl
    case hf =>
      intro z
      have z := of_decide_eq_false z
      rw [List.length_map] at z
      have z : ¬ (ns.flatMap cellZ).length = 0 := by omega
      refine wp_next ?_
      show WP _ _ _
      refine' wp_retV rfl ?_
      refine ⟨.inr (.inr ⟨_, rfl, ?_⟩), fun i c h => (no1r h).elim⟩
      simp only [numbersZ, if_neg z]
theorem sc__law_so : FnScope [("found" : Str), ("meant" : Str), ("k" : Str)] [("found" : Str), ("meant" : Str)] (defScope s__law_so) := ⟨rfl, rfl, rfl, by decide +kernel, rfl, by decide +kernel, by decide +kernel⟩
theorem c__law_so (D : Df K mg "_law_so" s__law_so) (T : Bt mg)  : ∀ n : Nat, Cal P w K mg base (n + 1) "_law_so" ["found", "meant"] (sp2 (gSo n))
  | 0 => cal_mk (k := 0) D sc__law_so (fun vs H Q E s => len2 s) (fun _ _ _ _ _ _ us hl => match us, hl with | [_, _], _ => rfl) (fun f cdv A outer st H vs Q E hr h => (no2 (fun a b y h => absurd h.1 (Nat.not_lt_zero _)) h).elim)
  | n + 1 => by
    have c__law_so : Cal P w K mg base (n + 1) "_law_so" ["found", "meant"] (sp2 (gSo n)) := c__law_so D T  n
    have sc := sc__law_so
    refine cal_mk (k := n + 1) D sc (fun vs H Q E s => len2 s) (fun _ _ _ _ _ _ us hl => match us, hl with | [_, _], _ => rfl) (fun f cdv A outer st H vs Q E hr h => ⟨_, (pss_cons (ps_if (pt_cmp (pc_isN (pv 1))) (pss_one (ps_ret (pe_cmp (pc_isN (pv 0))))) pss_nil)
    (pss_cons (ps_if (pt_val (pe_callB (call_isiK' K) (by rfl) T.b_isinstance (by decide +kernel) (pa_cons (pv 1) (pa_cons (pe_bltn (v := .ty "tuple") (by rfl) T.b_tuple (by decide +kernel) rfl) pa_nil)))) (pss_cons (ps_if ((pw_or (pt_not (pt_val (pe_callB (call_isiK' K) (by rfl) T.b_isinstance (by decide +kernel) (pa_cons (pv 0) (pa_cons (pe_bltn (v := .ty "tuple") (by rfl) T.b_tuple (by decide +kernel) rfl) pa_nil))))) (pw_or1 (pt_cmpR (op_neK K hr.units) (pe_callB (call_lenK K) (by rfl) T.b_len (by decide +kernel) (pa_cons (pv 0) pa_nil)) (pe_callB (call_lenK K) (by rfl) T.b_len (by decide +kernel) (pa_cons (pv 1) pa_nil)) (nomark _))))).pt (pss_one (ps_ret pe_bl)) pss_nil)
    (pss_cons (ps_for PassesOwn.never rfl (pi_range1 (by rfl) T.b_range (pa_cons (pe_callB (call_lenK K) (by rfl) T.b_len (by decide +kernel) (pa_cons (pv 1) pa_nil)) pa_nil)) (pg_name (i := 2) sc.nd rfl (Or.inl rfl)) (pss_one (ps_if (pt_not (pt_val (pe_cal c__law_so hr (Nat.le_refl _) (by rfl) (pa_cons (pe_ix (ix_K K) (pv 0) (pv 2) (fun _ _ => rfl)) (pa_cons (pe_ix (ix_K K) (pv 1) (pv 2) (fun _ _ => rfl)) pa_nil))))) (pss_one (ps_ret pe_bl)) pss_nil)))
    (pss_one (ps_ret pe_bl)))) pss_nil)
    (pss_cons (ps_if ((pw_or (pt_val (pe_callB (call_isiK' K) (by rfl) T.b_isinstance (by decide +kernel) (pa_cons (pv 1) (pa_cons (pe_bltn (v := .ty "bool") (by rfl) T.b_bool (by decide +kernel) rfl) pa_nil)))) (pw_or1 (pt_val (pe_callB (call_isiK' K) (by rfl) T.b_isinstance (by decide +kernel) (pa_cons (pv 0) (pa_cons (pe_bltn (v := .ty "bool") (by rfl) T.b_bool (by decide +kernel) rfl) pa_nil))))))).pt (pss_one (ps_ret (pe_and (pe_callB (call_isiK' K) (by rfl) T.b_isinstance (by decide +kernel) (pa_cons (pv 1) (pa_cons (pe_bltn (v := .ty "bool") (by rfl) T.b_bool (by decide +kernel) rfl) pa_nil))) (pe_and (pe_callB (call_isiK' K) (by rfl) T.b_isinstance (by decide +kernel) (pa_cons (pv 0) (pa_cons (pe_bltn (v := .ty "bool") (by rfl) T.b_bool (by decide +kernel) rfl) pa_nil))) (pe_one (pe_cmpR (op_eqK K hr.units) (pv 0) (pv 1) (nomark _))))))) pss_nil)
    (pss_cons (ps_if (pt_val (pe_callB (call_isiK' K) (by rfl) T.b_isinstance (by decide +kernel) (pa_cons (pv 1) (pa_cons (pe_bltn (v := .ty "int") (by rfl) T.b_int (by decide +kernel) rfl) pa_nil)))) (pss_one (ps_ret (pe_and (pe_callB (call_isiK' K) (by rfl) T.b_isinstance (by decide +kernel) (pa_cons (pv 0) (pa_cons (pe_bltn (v := .ty "int") (by rfl) T.b_int (by decide +kernel) rfl) pa_nil))) (pe_one (pe_cmpR (op_eqK K hr.units) (pv 0) (pv 1) (nomark _)))))) pss_nil)
    (pss_one (ps_ret (pe_and (pe_callB (call_isiK' K) (by rfl) T.b_isinstance (by decide +kernel) (pa_cons (pv 1) (pa_cons (pe_bltn (v := .ty "str") (by rfl) T.b_str (by decide +kernel) rfl) pa_nil))) (pe_and (pe_callB (call_isiK' K) (by rfl) T.b_isinstance (by decide +kernel) (pa_cons (pv 0) (pa_cons (pe_bltn (v := .ty "str") (by rfl) T.b_str (by decide +kernel) rfl) pa_nil))) (pe_one (pe_cmpR (op_eqK K hr.units) (pv 0) (pv 1) (nomark _))))))))))), wp2 h ?_⟩)
    rintro a b _ ⟨hd, hm, rfl⟩
    refine wp_seq ?_
    refine' wp_if (et_b (ev_isN (ev_var rfl))) ?ht1 ?hf1
    case ht1 =>
      intro z
      cases b <;> first | (cases z; done) | skip
      refine' wp_ret (ev_isN (ev_var rfl)) ?_
      show _ = _
      simp only [soZ]
    case hf1 =>
      intro z0
      refine wp_next ?_
      show WP _ _ _
      refine wp_seq ?_
      refine' wp_if (et_test (ev_isi (ev_var rfl) (kit_tup b))) ?ht2 ?hf2
      case ht2 =>
        intro z
        cases b <;> first | (cases z; done) | skip
        rename_i ms
        by_cases ha : isTup a = true
        · cases a <;> first | (cases ha; done) | skip
          rename_i fs
          refine wp_seq ?_
          refine' wp_if (et_or0 (b := !decide ((fs.length : Int) = (ms.length : Int))) (et_not (et_test (ev_isi (ev_var rfl) (kit_tup _)))) (fun _ => et_b (ev_op (ev_cb1 (ev_var rfl) cd_lenT) (ev_cb1 (ev_var rfl) cd_lenT) opd_ne_int))) ?ht3 ?hf3
          case ht3 =>
            intro q
            have q : ¬ ((fs.length : Int) = ms.length) := by simpa [isTup] using q
            refine' wp_ret ev_bl ?_
            show _ = _
            have e : soZ (.tuple fs) (.tuple ms) = false := by
              rw [soZ]
              cases r : soAll fs ms with
              | false => rfl
              | true => exact absurd (by rw [soAll_len r]) q
            rw [e]
          case hf3 =>
            intro q
            have q : (fs.length : Int) = ms.length := by simpa [isTup] using q
            have q : fs.length = ms.length := by omega
            refine wp_next ?_
            show WP _ _ _
            refine wp_seq ?_
            refine' wp_for (fun i ρ => ∃ s2, ρ = [.val (.d (.tuple fs)), .val (.d (.tuple ms)), s2] ∧ ∀ (j : Nat) f m, j < i → fs[j]? = some f → ms[j]? = some m → soZ f m = true) (ei_range1 (ea_cons (ev_cb1 (ev_var rfl) cd_lenT) ea_nil) ?r1 ?r2) ⟨_, rfl, fun j f m h => absurd h (Nat.not_lt_zero _)⟩ ?body ?done
            case r1 => omega
            case r2 =>
              simp [smD] at hm
              omega
            case body =>
              rintro i x _ hx ⟨s2, rfl, hs⟩
              obtain ⟨hi, rfl⟩ := at_range hx
              have hi : i < ms.length := by omega
              have hi2 : i < fs.length := by omega
              refine ⟨_, gt_name, ?_⟩
              show WP _ [_, _, .val (.d (.int (0 + (i : Int))))] _
              have e0 : (0 : Int) + (i : Int) = i := by omega
              rw [e0]
              have gm : ms[i]? = some ms[i] := by simp [hi]
              have gf : fs[i]? = some fs[i] := by simp [hi2]
              have hdm : depD ms[i] < n := by
                have h1 := dep_get gm
                simp only [depD] at hd
                omega
              have hmm : smD ms[i] = true := by
                simp [smD] at hm
                exact sm_get hm.2 gm
              refine' wp_if (et_not (et_test (ev_c2 (ev_op (ev_var rfl) (ev_var rfl) (opd_ixT (Pw.atI_nat gf))) (ev_op (ev_var rfl) (ev_var rfl) (opd_ixT (Pw.atI_nat gm))) ⟨hdm, hmm, rfl⟩))) ?ht4 ?hf4
              case ht4 =>
                intro r
                have r : soZ fs[i] ms[i] = false := by simpa using r
                refine' wp_ret ev_bl ?_
                show _ = _
                have e : soZ (.tuple fs) (.tuple ms) = false := by
                  rw [soZ]
                  cases t : soAll fs ms with
                  | false => rfl
                  | true => rw [soAll_get t gf gm] at r; cases r
                rw [e]
              case hf4 =>
                intro r
                have r : soZ fs[i] ms[i] = true := by simpa using r
                refine wp_next ?_
                refine ⟨_, rfl, fun j f m hj h1 h2 => ?_⟩
                rcases Nat.lt_or_eq_of_le (Nat.le_of_lt_succ hj) with hj | hj
                · exact hs j f m hj h1 h2
                · subst hj
                  rw [gf] at h1; rw [gm] at h2
                  cases h1; cases h2; exact r
            case done =>
              rintro _ ⟨s2, rfl, hs⟩
              show WP _ _ _
              refine' wp_ret ev_bl ?_
              show _ = _
              have e : soZ (.tuple fs) (.tuple ms) = true := by
                rw [soZ]
                refine soAll_of q fun i f m h1 h2 => hs i f m ?_ h1 h2
                have : i < fs.length := by
                  rcases Nat.lt_or_ge i fs.length with z | z
                  · exact z
                  · rw [List.getElem?_eq_none z] at h1; cases h1
                simp [rangeD]; omega
              rw [e]
        · have ha : isTup a = false := by simpa using ha
          refine wp_seq ?_
          refine' wp_if (et_or0 (a := true) (b := true) ?e1 (fun z => by cases z)) ?ht5 ?hf5
          case e1 =>
            have := et_not (et_test (ev_isi (K := K) (ρ := [.val (.d a), .val (.d (.tuple ms)), .non]) (ev_var (i := 0) rfl) (kit_tup a)))
            rw [ha] at this
            exact this
          case ht5 =>
            intro _
            refine' wp_ret ev_bl ?_
            show _ = _
            have e : soZ a (.tuple ms) = false := by cases a <;> first | (cases ha; done) | simp [soZ]
            rw [e]
          case hf5 => intro z; cases z
      case hf2 =>
        intro z1
        refine wp_next ?_
        show WP _ _ _
        refine wp_seq ?_
        refine' wp_if (et_or0 (b := isBl a) (et_test (ev_isi (ev_var rfl) (kit_bl b))) (fun _ => et_test (ev_isi (ev_var rfl) (kit_bl a)))) ?ht6 ?hf6
        case ht6 =>
          intro z
          by_cases hb : isBl b = true
          · cases b <;> first | (cases hb; done) | skip
            rename_i m
            by_cases ha : isBl a = true
            · cases a <;> first | (cases ha; done) | skip
              refine' wp_ret (ev_and0 (ev_isi (ev_var rfl) (kit_bl _)) (fun _ => ev_and0 (ev_isi (ev_var rfl) (kit_bl _)) (fun _ => ev_op (ev_var rfl) (ev_var rfl) opd_eq_bl))) ?_
              show _ = _
              simp [soZ, isBl]
            · have ha : isBl a = false := by simpa using ha
              refine' wp_ret (ev_and0 (ev_isi (ev_var rfl) (kit_bl _)) (fun _ => ev_and0 (b := false) (ev_isi (ev_var rfl) (kit_bl _)) (fun q => by rw [ha] at q; cases q))) ?_
              show _ = _
              cases a <;> first | (cases ha; done) | simp [soZ, isBl]
          · have hb : isBl b = false := by simpa using hb
            refine' wp_ret (ev_and0 (b := false) (ev_isi (ev_var rfl) (kit_bl _)) (fun q => by rw [hb] at q; cases q)) ?_
            show _ = _
            have ha : isBl a = true := by simpa [hb] using z
            cases a <;> first | (cases ha; done) | skip
            cases b <;> first | (cases hb; done) | (cases z0; done) | (cases z1; done) | simp [soZ, isBl]
        case hf6 =>
          intro z2
          refine wp_next ?_
          show WP _ _ _
          have hb : isBl b = false := by
            cases r : isBl b with
            | false => rfl
            | true => simp [r] at z2
          have ha : isBl a = false := by
            cases r : isBl a with
            | false => rfl
            | true => simp [r] at z2
          refine wp_seq ?_
          refine' wp_if (et_test (ev_isi (ev_var rfl) (kit_int b))) ?ht7 ?hf7
          case ht7 =>
            intro z3
            cases b <;> first | (cases z3; done) | (cases hb; done) | skip
            by_cases hi : isIntD a = true
            · cases a <;> first | (cases hi; done) | (cases ha; done) | skip
              refine' wp_ret (ev_and0 (ev_isi (ev_var rfl) (kit_int _)) (fun _ => ev_op (ev_var rfl) (ev_var rfl) opd_eq_int)) ?_
              show _ = _
              simp [soZ, isIntD]
            · have hi : isIntD a = false := by simpa using hi
              refine' wp_ret (ev_and0 (b := false) (ev_isi (ev_var rfl) (kit_int _)) (fun q => by rw [hi] at q; cases q)) ?_
              show _ = _
              cases a <;> first | (cases hi; done) | simp [soZ, isIntD]
          case hf7 =>
            intro z3
            refine wp_next ?_
            show WP _ _ _
            by_cases hs : isStrD b = true
            · cases b <;> first | (cases hs; done) | skip
              by_cases hi : isStrD a = true
              · cases a <;> first | (cases hi; done) | skip
                refine' wp_ret (ev_and0 (ev_isi (ev_var rfl) (kit_str _)) (fun _ => ev_and0 (ev_isi (ev_var rfl) (kit_str _)) (fun _ => ev_op (ev_var rfl) (ev_var rfl) opd_eq_str))) ?_
                show _ = _
                simp [soZ, isStrD]
              · have hi : isStrD a = false := by simpa using hi
                refine' wp_ret (ev_and0 (ev_isi (ev_var rfl) (kit_str _)) (fun _ => ev_and0 (b := false) (ev_isi (ev_var rfl) (kit_str _)) (fun q => by rw [hi] at q; cases q))) ?_
                show _ = _
                cases a <;> first | (cases hi; done) | simp [soZ, isStrD]
            · have hs : isStrD b = false := by simpa using hs
              refine' wp_ret (ev_and0 (b := false) (ev_isi (ev_var rfl) (kit_str _)) (fun q => by rw [hs] at q; cases q)) ?_
              show _ = _
              cases b <;> first | (cases hs; done) | (cases z0; done) | (cases z1; done) | (cases hb; done) | (cases z3; done) | simp [soZ, isStrD]
end
end Pv

set_option Elab.async false
set_option linter.all false
set_option maxRecDepth 100000
set_option maxHeartbeats 4000000
open PySem L2 Pw Hd
namespace Pv

section
variable {P : Program} {w : World} {K : PySem.W.Frag} {mg : Str → Option Value} {base : Heap}
theorem sc__law_of : FnScope [("value" : Str), ("made" : Str)] [("value" : Str)] (defScope s__law_of) := ⟨rfl, rfl, rfl, by decide +kernel, rfl, by decide +kernel, by decide +kernel⟩
theorem c__law_of  (D : Df K mg "_law_of" s__law_of) (T : Bt mg) (Y : Et P w K mg base)  : Cal P w K mg base 1 "_law_of" ["value"] (spG (gOf K)) := by
  have sc := sc__law_of
  refine cal_mk (k := 0) D sc (fun vs H Q E s => len_Of s) (fun _ _ _ _ _ _ us hl => match us, hl with | [_], _ => rfl) (fun f cdv A outer st H vs Q E hr h => ⟨_, (pss_cons (ps_set (i := 1) sc.nd rfl (Or.inl rfl) (pe_lst (pa_cons (pe_callB (call_isXK K) (by rfl) T.b_isinstance (by decide +kernel) (pa_cons (pv 0) (pa_cons (pe_glob (v := .ref (He.ga K "BadValue")) (by rfl) Y.m_BadValue rfl) pa_nil))) (pa_cons (pe_callB (call_isXK K) (by rfl) T.b_isinstance (by decide +kernel) (pa_cons (pv 0) (pa_cons (pe_glob (v := .ref (He.ga K "BadText")) (by rfl) Y.m_BadText rfl) pa_nil))) (pa_cons (pe_callB (call_isXK K) (by rfl) T.b_isinstance (by decide +kernel) (pa_cons (pv 0) (pa_cons (pe_glob (v := .ref (He.ga K "BadLevels")) (by rfl) Y.m_BadLevels rfl) pa_nil))) pa_nil)))))
    (pss_one (ps_ret (pe_op (op_plusK K) (pv 1) (pe_lst (pa_cons (pe_callB (call_isXK K) (by rfl) T.b_isinstance (by decide +kernel) (pa_cons (pv 0) (pa_cons (pe_glob (v := .ref (He.ga K "CannotDrop")) (by rfl) Y.m_CannotDrop rfl) pa_nil))) (pa_cons (pe_callB (call_isXK K) (by rfl) T.b_isinstance (by decide +kernel) (pa_cons (pv 0) (pa_cons (pe_glob (v := .ref (He.ga K "NoStage")) (by rfl) Y.m_NoStage rfl) pa_nil))) (pa_cons (pe_callB (call_isXK K) (by rfl) T.b_isinstance (by decide +kernel) (pa_cons (pv 0) (pa_cons (pe_glob (v := .ref (He.ga K "NotLegal")) (by rfl) Y.m_NotLegal rfl) pa_nil))) pa_nil)))))))), wp_def h ?_⟩)
  rintro as ret outs ⟨x, hx, e, eC, rfl, rfl⟩ _
  have hA : ExcC K e.C := by rw [eC]; exact Y.ask x hx
  refine wp_seq ?_
  refine' wp_asgO (eo_lst (ds := [.bool _, .bool _, .bool _]) (ea_cons (ev_isX (ev_var rfl) hA (fun u h => h) (by rw [eC]; exact Y.k2 x hx "BadValue" (by decide))) (ea_cons (ev_isX (ev_var rfl) hA (fun u h => h) (by rw [eC]; exact Y.k2 x hx "BadText" (by decide))) (ea_cons (ev_isX (ev_var rfl) hA (fun u h => h) (by rw [eC]; exact Y.k2 x hx "BadLevels" (by decide))) ea_nil))) (show 3 ≤ sizeLine by decide)) ?_
  show WP _ _ _
  refine wp_freezeL (i := 1) rfl ?_
  refine' wp_ret (ev_op (ev_var rfl) (EO.vl (eo_lst (ds := [.bool _, .bool _, .bool _]) (ea_cons (ev_isX (ev_var rfl) hA (fun u h => h) (by rw [eC]; exact Y.k2 x hx "CannotDrop" (by decide))) (ea_cons (ev_isX (ev_var rfl) hA (fun u h => h) (by rw [eC]; exact Y.k2 x hx "NoStage" (by decide))) (ea_cons (ev_isX (ev_var rfl) hA (fun u h => h) (by rw [eC]; exact Y.k2 x hx "NotLegal" (by decide))) ea_nil))) (show 3 ≤ sizeLine by decide))) (opd_cat_lst (show 3 + 3 ≤ sizeLine by decide))) ?_
  exact ⟨rfl, fun i c h => (no_refs h).elim⟩
theorem sc__law_foreign : FnScope [("value" : Str)] [("value" : Str)] (defScope s__law_foreign) := ⟨rfl, rfl, rfl, by decide +kernel, rfl, by decide +kernel, by decide +kernel⟩
theorem c__law_foreign  (D : Df K mg "_law_foreign" s__law_foreign) (T : Bt mg) (Y : Et P w K mg base)  : Cal P w K mg base 1 "_law_foreign" ["value"] (spG (gForeign K)) := by
  have sc := sc__law_foreign
  refine cal_mk (k := 0) D sc (fun vs H Q E s => len_Foreign s) (fun _ _ _ _ _ _ us hl => match us, hl with | [_], _ => rfl) (fun f cdv A outer st H vs Q E hr h => ⟨_, (pss_cons (ps_if ((pw_or (pt_val (pe_callB (call_isXK K) (by rfl) T.b_isinstance (by decide +kernel) (pa_cons (pv 0) (pa_cons (pe_bltn (v := .ty "ValueError") (by rfl) T.b_ValueError (by decide +kernel) rfl) pa_nil)))) (pw_or1 (pt_val (pe_callB (call_isXK K) (by rfl) T.b_isinstance (by decide +kernel) (pa_cons (pv 0) (pa_cons (pe_bltn (v := .ty "LookupError") (by rfl) T.b_LookupError (by decide +kernel) rfl) pa_nil))))))).pt (pss_one (ps_ret pe_bl)) pss_nil)
    (pss_one (ps_ret (pe_or (pe_callB (call_isXK K) (by rfl) T.b_isinstance (by decide +kernel) (pa_cons (pv 0) (pa_cons (pe_bltn (v := .ty "ArithmeticError") (by rfl) T.b_ArithmeticError (by decide +kernel) rfl) pa_nil))) (pe_one (pe_not (pe_callB (call_isXK K) (by rfl) T.b_isinstance (by decide +kernel) (pa_cons (pv 0) (pa_cons (pe_bltn (v := .ty "Exception") (by rfl) T.b_Exception (by decide +kernel) rfl) pa_nil))))))))), wp_def h ?_⟩)
  rintro as ret outs ⟨x, hx, e, eC, rfl, rfl⟩ _
  have hA : ExcC K e.C := by rw [eC]; exact Y.ask x hx
  refine wp_seq ?_
  refine' wp_if (b := false) (et_or0 (a := false) (b := false) (et_b (ev_isX (c := .ty "ValueError") (cv := .type "ValueError") (ev_var rfl) hA (fun u h => h) (by rw [eC]; exact Y.k_ValueError x hx))) (fun _ => et_b (ev_isX (c := .ty "LookupError") (cv := .type "LookupError") (ev_var rfl) hA (fun u h => h) (by rw [eC]; exact Y.k_LookupError x hx)))) (fun z => by cases z) (fun _ => ?_)
  refine wp_next ?_
  show WP _ _ _
  refine' wp_ret (ev_or0 (a := false) (b := false) (ev_isX (c := .ty "ArithmeticError") (cv := .type "ArithmeticError") (ev_var rfl) hA (fun u h => h) (by rw [eC]; exact Y.k_ArithmeticError x hx)) (fun _ => ev_not (a := true) (ev_isX (c := .ty "Exception") (cv := .type "Exception") (ev_var rfl) hA (fun u h => h) (by rw [eC]; exact Y.k_Exception x hx)))) ?_
  exact ⟨rfl, fun i c h => (no_refs h).elim⟩
theorem sc__law_caught : FnScope [("at" : Str), ("wrong" : Str)] [("at" : Str)] (defScope s__law_caught) := ⟨rfl, rfl, rfl, by decide +kernel, rfl, by decide +kernel, by decide +kernel⟩
theorem c__law_caught  (D : Df K mg "_law_caught" s__law_caught) (T : Bt mg) (Y : Et P w K mg base)  : Cal P w K mg base 3 "_law_caught" ["at"] (sp1 gCaught) := by
  have sc := sc__law_caught
  refine cal_mk (k := 2) D sc (fun vs H Q E s => len1 s) (fun _ _ _ _ _ _ us hl => match us, hl with | [_], _ => rfl) (fun f cdv A outer st H vs Q E hr h => ⟨_, (pss_one (ps_try_as (i := 1) (Wout := fun _ _ _ _ => False) rfl rfl sc.nd rfl rfl ⟨rfl, by decide, .inl Y.m_MapError⟩ takes0 (fun W pn xe tk _ => (pss_cons (ps_if (pt_cmpR (op_eqK K hr.units) (pv 0) pe_int (nomark _)) (pss_one (ps_raise rfl tk (pmk_ex0 Y.n_NotLegal (by rfl)))) pss_nil)
    (pss_one (ps_raise rfl tk (pmk_exmk Y.i_NoStage (hr.mono (by decide)) (by rfl) (pa_cons (pv 0) pa_nil)))))) (fun a oe cls d pn hz hf => (pss_one (ps_ret (pe_callB (call_isC hz hf) (by rfl) T.b_isinstance (by decide +kernel) (pa_cons (pv 1) (pa_cons (pe_glob (v := .ref (He.ga K "NoStage")) (by rfl) Y.m_NoStage rfl) pa_nil)))))))), raw1 h ?_⟩)
  rintro F v a y ⟨n, rfl, rfl⟩ S r rfl hQ
  cases r
  have up : ∀ {H : Hp} {dx : Addr} {o : HO}, H dx = none → FSub H (upd H dx o) := fun hn b u hb => by rw [upd_ne (ne_of_none hb hn)]; exact hb
  refine ⟨.int n, rfl, .inl ⟨rfl, _, rfl, ?_⟩⟩
  dsimp only
  by_cases hn : n = 0
  · rw [if_pos (by simp [hn])]
    refine ⟨true, Y.eM "NotLegal" (by decide), fun _ a ha => ?_, fun q => by cases q⟩
    refine ⟨.ref a, rfl, _, _, _, _, rfl, rfl, Y.ask "NotLegal" (by decide), fun _ z => (by cases z), fun u h => h, Y.k2 "NotLegal" (by decide) "NoStage" (by decide), ?_⟩
    exact hQ _ _ (by simp [hn]; decide) .rfl
  · rw [if_neg (by simp [hn])]
    refine ⟨.int n, rfl, _, rfl, fun dx hdx => ?_⟩
    refine ⟨true, Y.eM "NoStage" (by decide), fun _ a ha => ?_, fun q => by cases q⟩
    refine ⟨.ref a, rfl, _, _, _, _, rfl, rfl, Y.ask "NoStage" (by decide), fun dd z => ⟨_, by cases z; exact upd_same⟩, fun u h => h, Y.k2 "NoStage" (by decide) "NoStage" (by decide), ?_⟩
    exact hQ _ _ (by simp [hn]) (up hdx)
end
end Pv

set_option Elab.async false
set_option linter.all false
set_option maxRecDepth 100000
set_option maxHeartbeats 4000000
open PySem L2 Pw Hd
namespace Pv

section
variable {P : Program} {w : World} {K : PySem.W.Frag} {mg : Str → Option Value} {base : Heap}
theorem so_int {m : Int} : soZ (.int m) (.int m) = true := by simp [soZ]
theorem so_pair {m : Int} : soZ (.tuple [.int m, .int 3]) (.tuple [.int m, .int 3]) = true := by simp [soZ, soAll]
theorem sc_law : FnScope [("script" : Str), ("row" : Str), ("spot" : Str), ("at" : Str), ("other" : Str), ("made" : Str), ("every" : Str), ("k" : Str), ("one" : Str)] [("script" : Str)] (defScope s_law) := ⟨rfl, rfl, rfl, by decide +kernel, rfl, by decide +kernel, by decide +kernel⟩
theorem c_law {f : Addr} {fd : FuncData} (F : FunD K "law" "law" (defArgs s_law) (defBody s_law) (defScope s_law) [] [] f fd) (T : Bt mg) (Y : Et P w K mg base) (c__law_caught : Cal P w K mg base 3 "_law_caught" ["at"] (sp1 gCaught)) (c__law_take : Cal P w K mg base 2 "_law_take" ["row", "spot", "limit"] (spG gTake)) (c__law_foreign : Cal P w K mg base 1 "_law_foreign" ["value"] (spG (gForeign K))) (c__law_of : Cal P w K mg base 1 "_law_of" ["value"] (spG (gOf K))) (c__law_so : Cal P w K mg base 3 "_law_so" ["found", "meant"] (sp2 (gSo 2))) (c__law_numbers : Cal P w K mg base 1 "_law_numbers" ["script"] (spG gNumbers)) : FnOk P w K mg base CX0 4 f fd ["script"] (spG gTrue) := by
  have sc := sc_law
  refine fn_mk (k := 3) F sc (fun vs H Q E s => lenTrue s) (fun f cdv A outer st H vs Q E hr h => ⟨_, (pss_cons (ps_set (i := 1) sc.nd rfl (Or.inl rfl) (pe_cal c__law_numbers hr (by decide) (by rfl) (pa_cons (pv 0) pa_nil)))
    (pss_cons (ps_set (i := 2) sc.nd rfl (Or.inl rfl) (pe_lst (pa_cons pe_int pa_nil)))
    (pss_cons (ps_set (i := 3) sc.nd rfl (Or.inl rfl) (pe_op op_sub (pe_cal c__law_take hr (by decide) (by rfl) (pa_cons (pv 1) (pa_cons (pv 2) (pa_cons pe_int pa_nil)))) pe_int))
    (pss_cons (ps_set (i := 4) sc.nd rfl (Or.inl rfl) (pe_ix (ix_K K) (pe_lst (pa_cons pe_non (pa_cons (pe_un un_neg (pv 3)) (pa_cons pe_str (pa_cons (pe_tup (pa_cons (pv 3) (pa_cons pe_int pa_nil))) (pa_cons pe_bl pa_nil)))))) (pe_cal c__law_take hr (by decide) (by rfl) (pa_cons (pv 1) (pa_cons (pv 2) (pa_cons pe_int pa_nil)))) (fun _ _ => rfl)))
    (pss_cons (ps_for PassesOwn.never rfl (pi_LT K (pe_lst (pa_cons (pe_exmk Y.i_BadValue (hr.mono (by decide)) (by rfl) (pa_cons (pv 3) pa_nil)) (pa_cons (pe_exmk Y.i_BadText (hr.mono (by decide)) (by rfl) (pa_cons (pv 3) pa_nil)) (pa_cons (pe_exmk Y.i_BadLevels (hr.mono (by decide)) (by rfl) (pa_cons (pv 3) pa_nil)) (pa_cons (pe_exmkK Y.i_BadValue (hr.mono (by decide)) (by rfl) (pv 3)) (pa_cons (pe_exmkK Y.i_BadText (hr.mono (by decide)) (by rfl) (pv 3)) (pa_cons (pe_exmkK Y.i_BadLevels (hr.mono (by decide)) (by rfl) (pv 3)) pa_nil)))))))) (pg_name (i := 5) sc.nd rfl (Or.inl rfl)) (pss_one (ps_if (pt_not (pt_val (pe_cal c__law_so hr (by decide) (by rfl) (pa_cons (pe_exfldK K (pv 5)) (pa_cons (pv 3) pa_nil))))) (pss_one (ps_ret pe_bl)) pss_nil)))
    (pss_cons (ps_for PassesOwn.never rfl (pi_LT K (pe_lst (pa_cons (pe_exmk Y.i_CannotDrop (hr.mono (by decide)) (by rfl) (pa_cons (pe_tup (pa_cons (pv 3) (pa_cons pe_int pa_nil))) pa_nil)) (pa_cons (pe_exmkK Y.i_CannotDrop (hr.mono (by decide)) (by rfl) (pe_tup (pa_cons (pv 3) (pa_cons pe_int pa_nil)))) pa_nil)))) (pg_name (i := 5) sc.nd rfl (Or.inl rfl)) (pss_one (ps_if (pt_not (pt_val (pe_cal c__law_so hr (by decide) (by rfl) (pa_cons (pe_exfldK K (pv 5)) (pa_cons (pe_tup (pa_cons (pv 3) (pa_cons pe_int pa_nil))) pa_nil))))) (pss_one (ps_ret pe_bl)) pss_nil)))
    (pss_cons (ps_for PassesOwn.never rfl (pi_LT K (pe_lst (pa_cons (pe_exmk Y.i_NoStage (hr.mono (by decide)) (by rfl) (pa_cons (pv 4) pa_nil)) (pa_cons (pe_exmkK Y.i_NoStage (hr.mono (by decide)) (by rfl) (pv 4)) pa_nil)))) (pg_name (i := 5) sc.nd rfl (Or.inl rfl)) (pss_one (ps_if (pt_not (pt_val (pe_cal c__law_so hr (by decide) (by rfl) (pa_cons (pe_exfldK K (pv 5)) (pa_cons (pv 4) pa_nil))))) (pss_one (ps_ret pe_bl)) pss_nil)))
    (pss_cons (ps_set (i := 6) sc.nd rfl (Or.inl rfl) (pe_lst (pa_cons (pe_exmk Y.i_BadValue (hr.mono (by decide)) (by rfl) (pa_cons (pv 3) pa_nil)) (pa_cons (pe_exmk Y.i_BadText (hr.mono (by decide)) (by rfl) (pa_cons (pv 3) pa_nil)) (pa_cons (pe_exmk Y.i_BadLevels (hr.mono (by decide)) (by rfl) (pa_cons (pv 3) pa_nil)) (pa_cons (pe_exmk Y.i_CannotDrop (hr.mono (by decide)) (by rfl) (pa_cons (pe_tup (pa_cons (pv 3) (pa_cons pe_int pa_nil))) pa_nil)) (pa_cons (pe_exmk Y.i_NoStage (hr.mono (by decide)) (by rfl) (pa_cons (pv 4) pa_nil)) (pa_cons (pe_ex0 Y.n_NotLegal (by rfl)) pa_nil))))))))
    (pss_cons (ps_for PassesOwn.never rfl (pi_range1 (by rfl) T.b_range (pa_cons pe_int pa_nil)) (pg_name (i := 7) sc.nd rfl (Or.inr rfl)) (pss_one (ps_if ((pw_or (pt_cmpR (op_neK K hr.units) (pe_cal c__law_of hr (by decide) (by rfl) (pa_cons (pe_ix (ix_K K) (pv 6) (pv 7) (fun _ _ => rfl)) pa_nil)) (pe_lc (own := [("one", 8)]) rfl sc.nd (pi_range1 (by rfl) T.b_range (pa_cons pe_int pa_nil)) (blkOk_by (by rfl)) (fun _ _ _ _ _ => (pg_name (i := 8) sc.nd rfl (Or.inl rfl))) (fun _ _ _ _ _ => pts_nil) (fun _ _ _ _ _ => (pe_cmpR (op_eqK K hr.units) (pv 8) (pv 7) (nomark _)))) (nomark _)) (pw_or (pt_val (pe_cal c__law_foreign hr (by decide) (by rfl) (pa_cons (pe_ix (ix_K K) (pv 6) (pv 7) (fun _ _ => rfl)) pa_nil))) (pw_or1 (pt_not (pt_val (pe_callB (call_isXK K) (by rfl) T.b_isinstance (by decide +kernel) (pa_cons (pe_ix (ix_K K) (pv 6) (pv 7) (fun _ _ => rfl)) (pa_cons (pe_glob (v := .ref (He.ga K "MapError")) (by rfl) Y.m_MapError rfl) pa_nil))))))))).pt (pss_one (ps_ret pe_bl)) pss_nil)))
    (pss_one (ps_ret (pe_and (pe_not (pe_cal c__law_caught hr (by decide) (by rfl) (pa_cons pe_int pa_nil))) (pe_one (pe_cal c__law_caught hr (by decide) (by rfl) (pa_cons (pe_op (op_plusK K) pe_int (pe_cal c__law_take hr (by decide) (by rfl) (pa_cons (pv 1) (pa_cons (pv 2) (pa_cons pe_int pa_nil))))) pa_nil))))))))))))))), wp_def h ?_⟩)
  rintro as ret outs ⟨ns, rfl, hn, rfl⟩ _
  refine wp_seq ?_
  refine' wp_asg (ev_numbers (ev_var rfl) hn) ?_
  show WP _ _ _
  have hr0 := numbers_ok hn
  generalize numbersZ ns = row at hr0
  refine wp_seq ?_
  refine' wp_asgO (eo_lst (ds := [.int 0]) (ea_cons ev_int ea_nil) (show 1 ≤ sizeLine by decide)) ?_
  show WP _ _ _
  refine wp_seq ?_
  refine' wp_asg (ev_op (ev_take (ev_var rfl) ⟨_, _, rfl⟩ ev_int rfl hr0 ⟨by decide, by decide⟩ (by decide)) ev_int opd_sub) ?_
  show WP _ _ _
  generalize drawZ row 0 997 - 9 = m
  refine wp_seq ?_
  have lo := drawZ_lo (row := row) (a := 0 + 1) (lim := 5) (by decide)
  have hi := drawZ_hi (row := row) (a := 0 + 1) (lim := 5) (by decide)
  obtain ⟨d, hd0, hd1, hd2, hd3⟩ : ∃ d, L2.atI [.none, .int (-m), .str "x", .tuple [.int m, .int 2], .bool true] (drawZ row (0 + 1) 5) = some d ∧ depD d < 2 ∧ smD d = true ∧ soZ d d = true := by
    generalize drawZ row (0 + 1) 5 = q at lo hi
    have : q = 0 ∨ q = 1 ∨ q = 2 ∨ q = 3 ∨ q = 4 := by omega
    rcases this with rfl | rfl | rfl | rfl | rfl
    · exact ⟨_, rfl, by decide, by decide, by simp [soZ, isNone]⟩
    · exact ⟨_, rfl, by simp [depD], by simp [smD], by simp [soZ]⟩
    · exact ⟨_, rfl, by simp [depD], by simp [smD], by simp [soZ]⟩
    · exact ⟨_, rfl, by simp [depD, depsD], by simp [smD, smsD], by simp [soZ, soAll]⟩
    · exact ⟨_, rfl, by simp [depD], by simp [smD], by simp [soZ]⟩
  refine' wp_asg (ev_op (EO.vl (eo_lst (ds := [.none, .int (-m), .str "x", .tuple [.int m, .int 2], .bool true]) (ea_cons ev_non (ea_cons (ev_un (ev_var (i := 3) rfl) und_neg) (ea_cons ev_str (ea_cons (ev_tup (ds := [.int _, .int _]) (ea_cons (ev_var (i := 3) rfl) (ea_cons ev_int ea_nil)) (show 2 ≤ sizeLine by decide)) (ea_cons ev_bl ea_nil))))) (show 5 ≤ sizeLine by decide))) (ev_take (ev_var rfl) ⟨_, _, rfl⟩ ev_int rfl hr0 ⟨by decide, by decide⟩ (by decide)) (opd_ixL hd0)) ?_
  show WP _ _ _
  refine wp_seq ?_
  have all1 : ∀ e ∈ ([⟨He.ga K "BadValue", some ("at", .int m)⟩, ⟨He.ga K "BadText", some ("at", .int m)⟩, ⟨He.ga K "BadLevels", some ("at", .int m)⟩, ⟨He.ga K "BadValue", some ("at", .int m)⟩, ⟨He.ga K "BadText", some ("at", .int m)⟩, ⟨He.ga K "BadLevels", some ("at", .int m)⟩] : List XD), ∃ C : Addr, e = ⟨C, some ("at", .int m)⟩ ∧ XfC K C ∧ PySem.W.findIn K (.ref C) "at" = some none := by
    intro e he
    simp only [List.mem_cons, List.not_mem_nil, or_false] at he
    rcases he with rfl | rfl | rfl | rfl | rfl | rfl
    · exact ⟨_, rfl, ask_xf Y.x_BadValue.A, Y.x_BadValue.no⟩
    · exact ⟨_, rfl, ask_xf Y.x_BadText.A, Y.x_BadText.no⟩
    · exact ⟨_, rfl, ask_xf Y.x_BadLevels.A, Y.x_BadLevels.no⟩
    · exact ⟨_, rfl, ask_xf Y.x_BadValue.A, Y.x_BadValue.no⟩
    · exact ⟨_, rfl, ask_xf Y.x_BadText.A, Y.x_BadText.no⟩
    · exact ⟨_, rfl, ask_xf Y.x_BadLevels.A, Y.x_BadLevels.no⟩
  refine' wp_for (fun i ρ => ∃ s5, ρ = [.val (.scr ns), .val (.d (intsD row)), .own true (.lst [.int (0 + 1 + 1)]), .val (.d (.int m)), .val (.d d), s5, .non, .non, .non]) (ei_or1 (ei_xs (ev_xlst (es := [⟨He.ga K "BadValue", some ("at", .int m)⟩, ⟨He.ga K "BadText", some ("at", .int m)⟩, ⟨He.ga K "BadLevels", some ("at", .int m)⟩, ⟨He.ga K "BadValue", some ("at", .int m)⟩, ⟨He.ga K "BadText", some ("at", .int m)⟩, ⟨He.ga K "BadLevels", some ("at", .int m)⟩]) (ea_cons (ev_ex1 (ev_var (i := 3) rfl)) (ea_cons (ev_ex1 (ev_var (i := 3) rfl)) (ea_cons (ev_ex1 (ev_var (i := 3) rfl)) (ea_cons (ev_ex1 (ev_var (i := 3) rfl)) (ea_cons (ev_ex1 (ev_var (i := 3) rfl)) (ea_cons (ev_ex1 (ev_var (i := 3) rfl)) ea_nil)))))) (show 6 ≤ sizeLine by decide)))) ⟨_, rfl⟩ ?body1 ?done1
  case body1 =>
    rintro i x _ hx ⟨s5, rfl⟩
    obtain ⟨e, he, rfl⟩ := at_xs hx
    obtain ⟨C, rfl, xf, no⟩ := all1 e he
    refine ⟨_, gt_name, ?_⟩
    show WP _ [_, _, _, _, _, .val (.x ⟨C, some ("at", .int m)⟩), .non, .non, .non] _
    refine' wp_if (et_not (et_test (ev_c2 (ev_exfld (ev_var rfl) xf no) (ev_var (i := 3) rfl) ⟨by simp [depD], by simp [smD], rfl⟩))) (fun z => ?_) (fun _ => wp_next ⟨_, rfl⟩)
    rw [so_int] at z
    cases z
  case done1 =>
    rintro _ ⟨s5, rfl⟩
    show WP _ _ _
    refine wp_seq ?_
    have all2 : ∀ e ∈ ([⟨He.ga K "CannotDrop", some ("point", .tuple [.int m, .int 3])⟩, ⟨He.ga K "CannotDrop", some ("point", .tuple [.int m, .int 3])⟩] : List XD), ∃ C : Addr, e = ⟨C, some ("point", .tuple [.int m, .int 3])⟩ ∧ XfC K C ∧ PySem.W.findIn K (.ref C) "point" = some none := by
      intro e he
      simp only [List.mem_cons, List.not_mem_nil, or_false] at he
      rcases he with rfl | rfl
      · exact ⟨_, rfl, ask_xf Y.x_CannotDrop.A, Y.x_CannotDrop.no⟩
      · exact ⟨_, rfl, ask_xf Y.x_CannotDrop.A, Y.x_CannotDrop.no⟩
    refine' wp_for (fun i ρ => ∃ s5, ρ = [.val (.scr ns), .val (.d (intsD row)), .own true (.lst [.int (0 + 1 + 1)]), .val (.d (.int m)), .val (.d d), s5, .non, .non, .non]) (ei_or1 (ei_xs (ev_xlst (es := [⟨He.ga K "CannotDrop", some ("point", .tuple [.int m, .int 3])⟩, ⟨He.ga K "CannotDrop", some ("point", .tuple [.int m, .int 3])⟩]) (ea_cons (ev_ex1 (ev_tup (ds := [.int _, .int _]) (ea_cons (ev_var (i := 3) rfl) (ea_cons ev_int ea_nil)) (show 2 ≤ sizeLine by decide))) (ea_cons (ev_ex1 (ev_tup (ds := [.int _, .int _]) (ea_cons (ev_var (i := 3) rfl) (ea_cons ev_int ea_nil)) (show 2 ≤ sizeLine by decide))) ea_nil)) (show 2 ≤ sizeLine by decide)))) ⟨_, rfl⟩ ?body2 ?done2
    case body2 =>
      rintro i x _ hx ⟨s5, rfl⟩
      obtain ⟨e, he, rfl⟩ := at_xs hx
      obtain ⟨C, rfl, xf, no⟩ := all2 e he
      refine ⟨_, gt_name, ?_⟩
      show WP _ [_, _, _, _, _, .val (.x ⟨C, some ("point", .tuple [.int m, .int 3])⟩), .non, .non, .non] _
      refine' wp_if (et_not (et_test (ev_c2 (ev_exfld (ev_var rfl) xf no) (ev_tup (ds := [.int _, .int _]) (ea_cons (ev_var (i := 3) rfl) (ea_cons ev_int ea_nil)) (show 2 ≤ sizeLine by decide)) ⟨by simp [depD, depsD], by simp [smD, smsD], rfl⟩))) (fun z => ?_) (fun _ => wp_next ⟨_, rfl⟩)
      rw [so_pair] at z
      cases z
    case done2 =>
      rintro _ ⟨s5, rfl⟩
      show WP _ _ _
      refine wp_seq ?_
      have all3 : ∀ e ∈ ([⟨He.ga K "NoStage", some ("number", d)⟩, ⟨He.ga K "NoStage", some ("number", d)⟩] : List XD), ∃ C : Addr, e = ⟨C, some ("number", d)⟩ ∧ XfC K C ∧ PySem.W.findIn K (.ref C) "number" = some none := by
        intro e he
        simp only [List.mem_cons, List.not_mem_nil, or_false] at he
        rcases he with rfl | rfl
        · exact ⟨_, rfl, ask_xf Y.x_NoStage.A, Y.x_NoStage.no⟩
        · exact ⟨_, rfl, ask_xf Y.x_NoStage.A, Y.x_NoStage.no⟩
      refine' wp_for (fun i ρ => ∃ s5, ρ = [.val (.scr ns), .val (.d (intsD row)), .own true (.lst [.int (0 + 1 + 1)]), .val (.d (.int m)), .val (.d d), s5, .non, .non, .non]) (ei_or1 (ei_xs (ev_xlst (es := [⟨He.ga K "NoStage", some ("number", d)⟩, ⟨He.ga K "NoStage", some ("number", d)⟩]) (ea_cons (ev_ex1 (ev_var (i := 4) rfl)) (ea_cons (ev_ex1 (ev_var (i := 4) rfl)) ea_nil)) (show 2 ≤ sizeLine by decide)))) ⟨_, rfl⟩ ?body3 ?done3
      case body3 =>
        rintro i x _ hx ⟨s5, rfl⟩
        obtain ⟨e, he, rfl⟩ := at_xs hx
        obtain ⟨C, rfl, xf, no⟩ := all3 e he
        refine ⟨_, gt_name, ?_⟩
        show WP _ [_, _, _, _, _, .val (.x ⟨C, some ("number", d)⟩), .non, .non, .non] _
        refine' wp_if (et_not (et_test (ev_c2 (ev_exfld (ev_var rfl) xf no) (ev_var (i := 4) rfl) ⟨hd1, hd2, rfl⟩))) (fun z => ?_) (fun _ => wp_next ⟨_, rfl⟩)
        rw [hd3] at z
        cases z
      case done3 =>
        rintro _ ⟨s5, rfl⟩
        show WP _ _ _
        refine wp_seq ?_
        refine' wp_asg (ev_xlst (es := [⟨He.ga K "BadValue", some ("at", .int m)⟩, ⟨He.ga K "BadText", some ("at", .int m)⟩, ⟨He.ga K "BadLevels", some ("at", .int m)⟩, ⟨He.ga K "CannotDrop", some ("point", .tuple [.int m, .int 3])⟩, ⟨He.ga K "NoStage", some ("number", d)⟩, ⟨He.ga K "NotLegal", none⟩]) (ea_cons (ev_ex1 (ev_var (i := 3) rfl)) (ea_cons (ev_ex1 (ev_var (i := 3) rfl)) (ea_cons (ev_ex1 (ev_var (i := 3) rfl)) (ea_cons (ev_ex1 (ev_tup (ds := [.int _, .int _]) (ea_cons (ev_var (i := 3) rfl) (ea_cons ev_int ea_nil)) (show 2 ≤ sizeLine by decide))) (ea_cons (ev_ex1 (ev_var (i := 4) rfl)) (ea_cons ev_ex0 ea_nil)))))) (show 6 ≤ sizeLine by decide)) ?_
        show WP _ _ _
        refine wp_seq ?_
        have key : ∀ i : Nat, i < 6 → ∃ (e : XD) (x : Str), ([⟨He.ga K "BadValue", some ("at", .int m)⟩, ⟨He.ga K "BadText", some ("at", .int m)⟩, ⟨He.ga K "BadLevels", some ("at", .int m)⟩, ⟨He.ga K "CannotDrop", some ("point", .tuple [.int m, .int 3])⟩, ⟨He.ga K "NoStage", some ("number", d)⟩, ⟨He.ga K "NotLegal", none⟩] : List XD)[i]? = some e ∧ x ∈ six ∧ e.C = He.ga K x ∧ bitsOf x = (List.range 6).map fun z : Nat => decide ((0 : Int) + (z : Int) = 0 + (i : Int)) := by
          intro i hi
          match i, hi with
          | 0, _ => exact ⟨_, "BadValue", rfl, by decide, rfl, by decide⟩
          | 1, _ => exact ⟨_, "BadText", rfl, by decide, rfl, by decide⟩
          | 2, _ => exact ⟨_, "BadLevels", rfl, by decide, rfl, by decide⟩
          | 3, _ => exact ⟨_, "CannotDrop", rfl, by decide, rfl, by decide⟩
          | 4, _ => exact ⟨_, "NoStage", rfl, by decide, rfl, by decide⟩
          | 5, _ => exact ⟨_, "NotLegal", rfl, by decide, rfl, by decide⟩
        refine' wp_for (fun i ρ => ∃ s5 s7, ρ = [.val (.scr ns), .val (.d (intsD row)), .own true (.lst [.int (0 + 1 + 1)]), .val (.d (.int m)), .val (.d d), s5, .val (.xs [⟨He.ga K "BadValue", some ("at", .int m)⟩, ⟨He.ga K "BadText", some ("at", .int m)⟩, ⟨He.ga K "BadLevels", some ("at", .int m)⟩, ⟨He.ga K "CannotDrop", some ("point", .tuple [.int m, .int 3])⟩, ⟨He.ga K "NoStage", some ("number", d)⟩, ⟨He.ga K "NotLegal", none⟩]), s7, .non]) (ei_range1 (ea_cons ev_int ea_nil) (by decide) (by decide)) ⟨_, _, rfl⟩ ?body4 ?done4
        case body4 =>
          rintro i x _ hx ⟨s5, s7, rfl⟩
          obtain ⟨hi, rfl⟩ := at_range hx
          have hi : i < 6 := hi
          obtain ⟨e, x, g1, g2, g3, g4⟩ := key i hi
          have hA : ExcC K e.C := by rw [g3]; exact Y.ask x g2
          refine ⟨_, gt_name, ?_⟩
          show WP _ [_, _, _, _, _, s5, _, .val (.d (.int (0 + (i : Int)))), .non] _
          have e0 : (0 : Int) + (i : Int) = i := Int.zero_add _
          refine' wp_if (b := false) (et_or0 (a := false) (b := false) ?c1 (fun _ => et_or0 (a := false) (b := false) (et_test (ev_xcall (ev_ixX (ev_var rfl) (ev_var rfl) e0 g1) ⟨x, g2, e, g3, rfl, rfl⟩)) (fun _ => et_not (b := true) (et_test (ev_isX (c := .ref (He.ga K "MapError")) (cv := .ref (He.ga K "MapError")) (ev_ixX (ev_var rfl) (ev_var rfl) e0 g1) hA (fun u h => h) (by rw [g3]; exact Y.kM x g2)))))) (fun z => by cases z) (fun _ => wp_next ⟨_, _, rfl⟩)
          case c1 =>
            have eL : ((bitsOf x).map PyData.bool) = (List.range 6).map fun z : Nat => PyData.bool (decide ((0 : Int) + (z : Int) = 0 + (i : Int))) := by rw [g4, List.map_map]; rfl
            refine' et_b' (ev_op (r := rNeU K) (ρ := [.val (.scr ns), .val (.d (intsD row)), .own true (.lst [.int (0 + 1 + 1)]), .val (.d (.int m)), .val (.d d), s5, .val (.xs [⟨He.ga K "BadValue", some ("at", .int m)⟩, ⟨He.ga K "BadText", some ("at", .int m)⟩, ⟨He.ga K "BadLevels", some ("at", .int m)⟩, ⟨He.ga K "CannotDrop", some ("point", .tuple [.int m, .int 3])⟩, ⟨He.ga K "NoStage", some ("number", d)⟩, ⟨He.ga K "NotLegal", none⟩]), .val (.d (.int (0 + (i : Int)))), .non]) (ev_xcall (E := E0) (g := gOf K) (ev_ixX (ev_var (i := 6) rfl) (ev_var (i := 7) rfl) e0 g1) ⟨x, g2, e, g3, rfl, rfl⟩) (EO.vl (eo_lc1 (ρ := [.val (.scr ns), .val (.d (intsD row)), .own true (.lst [.int (0 + 1 + 1)]), .val (.d (.int m)), .val (.d d), s5, .val (.xs [⟨He.ga K "BadValue", some ("at", .int m)⟩, ⟨He.ga K "BadText", some ("at", .int m)⟩, ⟨He.ga K "BadLevels", some ("at", .int m)⟩, ⟨He.ga K "CannotDrop", some ("point", .tuple [.int m, .int 3])⟩, ⟨He.ga K "NoStage", some ("number", d)⟩, ⟨He.ga K "NotLegal", none⟩]), .val (.d (.int (0 + (i : Int)))), .non]) (ρ1 := [.val (.scr ns), .val (.d (intsD row)), .own true (.lst [.int (0 + 1 + 1)]), .val (.d (.int m)), .val (.d d), s5, .val (.xs [⟨He.ga K "BadValue", some ("at", .int m)⟩, ⟨He.ga K "BadText", some ("at", .int m)⟩, ⟨He.ga K "BadLevels", some ("at", .int m)⟩, ⟨He.ga K "CannotDrop", some ("point", .tuple [.int m, .int 3])⟩, ⟨He.ga K "NoStage", some ("number", d)⟩, ⟨He.ga K "NotLegal", none⟩]), .val (.d (.int (0 + (i : Int)))), .non]) (vs := [8]) (List.range 6) (fun z : Nat => .d (.int (0 + (z : Int)))) (fun z : Nat => PyData.bool (decide ((0 : Int) + (z : Int) = 0 + (i : Int)))) (fun z : Nat => [.d (.int (0 + (z : Int)))]) (EI.c (ei_range1 (j := 6) (ea_cons ev_int ea_nil) (by decide) (by decide))) (is := [8]) (fun j h => h)
              ?hv (show 6 < sizeLine by decide) (fun z _ => ⟨gt_name, ev_op (ev_var (i := 8) rfl) (ev_var (i := 7) rfl) opd_eq_int⟩))) (opd_neD ?sh1 ?sh2)) ?eq
            case hv =>
              intro j hj l c h
              have hj : j = 8 := by simpa using hj
              subst hj
              cases h
            case sh1 => rfl
            case sh2 => rfl
            case eq =>
              rw [eL]
              have : i = 0 ∨ i = 1 ∨ i = 2 ∨ i = 3 ∨ i = 4 ∨ i = 5 := by omega
              rcases this with rfl | rfl | rfl | rfl | rfl | rfl <;> decide
        case done4 =>
          rintro _ ⟨s5, s7, rfl⟩
          show WP _ _ _
          refine' wp_ret (ev_and (ev_not (a := false) (ev_c1 ev_int ⟨0, rfl, rfl⟩)) (fun _ => ev_c1 (ev_op ev_int (ev_take (ev_var rfl) ⟨_, _, rfl⟩ ev_int rfl hr0 ⟨by decide, by decide⟩ (by decide)) opd_add) ⟨_, rfl, rfl⟩)) ?_
          have l9 := drawZ_lo (row := row) (a := 0 + 1 + 1) (lim := 9) (by decide)
          have n9 : ¬ (1 + drawZ row (0 + 1 + 1) 9 = 0) := by omega
          refine ⟨?_, fun i c h => (no_refs h).elim⟩
          simpa using n9
end
end Pv

set_option Elab.async false
set_option linter.all false
set_option maxRecDepth 100000
set_option maxHeartbeats 4000000
open PySem L2 Pw Hd PyProof.Rows
namespace Pv
theorem facts {P : Program} {w : World} {K : PySem.W.Frag} {h : Heap} {mg : Str → Option Value} {f : Addr} (X : K.In h) (G : h.Ns mainGlobals mg) (hfa : mg ("law" : Str) = some (.ref f)) (c : SaysB fa fn BB K) :
    ∃ fd : FuncData, (∀ (s : Shared) (v : Value), BindsTo s fd ⟨[v], []⟩ [("script", v)]) ∧ noListB K = true ∧ ∀ base : Heap, K.In base → base.Ns mainGlobals mg → FnOk P w K mg base CX0 4 f fd ["script"] (spG gTrue) := by
  have D_law_so : Df K mg "_law_so" s__law_so := by obtain ⟨fd, F⟩ := c.d.def_ 0 (d := dd "_law_so" s__law_so) rfl; exact ⟨_, fd, F, (He.glo_ok X G (c.d.fact 0 (f := .glo "_law_so") rfl))⟩
  have D_law_numbers : Df K mg "_law_numbers" s__law_numbers := by obtain ⟨fd, F⟩ := c.d.def_ 1 (d := dd "_law_numbers" s__law_numbers) rfl; exact ⟨_, fd, F, (He.glo_ok X G (c.d.fact 1 (f := .glo "_law_numbers") rfl))⟩
  have D_law_draw : Df K mg "_law_draw" s__law_draw := by obtain ⟨fd, F⟩ := c.d.def_ 2 (d := dd "_law_draw" s__law_draw) rfl; exact ⟨_, fd, F, (He.glo_ok X G (c.d.fact 2 (f := .glo "_law_draw") rfl))⟩
  have D_law_take : Df K mg "_law_take" s__law_take := by obtain ⟨fd, F⟩ := c.d.def_ 3 (d := dd "_law_take" s__law_take) rfl; exact ⟨_, fd, F, (He.glo_ok X G (c.d.fact 3 (f := .glo "_law_take") rfl))⟩
  have D_law_of : Df K mg "_law_of" s__law_of := by obtain ⟨fd, F⟩ := c.d.def_ 4 (d := dd "_law_of" s__law_of) rfl; exact ⟨_, fd, F, (He.glo_ok X G (c.d.fact 4 (f := .glo "_law_of") rfl))⟩
  have D_law_foreign : Df K mg "_law_foreign" s__law_foreign := by obtain ⟨fd, F⟩ := c.d.def_ 5 (d := dd "_law_foreign" s__law_foreign) rfl; exact ⟨_, fd, F, (He.glo_ok X G (c.d.fact 5 (f := .glo "_law_foreign") rfl))⟩
  have D_law_caught : Df K mg "_law_caught" s__law_caught := by obtain ⟨fd, F⟩ := c.d.def_ 6 (d := dd "_law_caught" s__law_caught) rfl; exact ⟨_, fd, F, (He.glo_ok X G (c.d.fact 6 (f := .glo "_law_caught") rfl))⟩
  obtain ⟨fd, F⟩ := c.d.def_ 7 (d := dd "law" s_law) rfl
  have e := hfa.symm.trans (He.glo_ok X G (c.d.fact 7 (f := .glo "law") rfl))
  cases e
  have bnd := FunD.bindsA (ps := [("script" : Str)]) F fun _ _ _ _ _ _ us hl => match us, hl with | [_], _ => rfl
  have T : Bt mg := { b_ArithmeticError := He.free_ok X G (c.d.fact 8 (f := .free "ArithmeticError") rfl), b_Exception := He.free_ok X G (c.d.fact 9 (f := .free "Exception") rfl), b_LookupError := He.free_ok X G (c.d.fact 10 (f := .free "LookupError") rfl), b_ValueError := He.free_ok X G (c.d.fact 11 (f := .free "ValueError") rfl), b_bool := He.free_ok X G (c.d.fact 12 (f := .free "bool") rfl), b_int := He.free_ok X G (c.d.fact 13 (f := .free "int") rfl), b_isinstance := He.free_ok X G (c.d.fact 14 (f := .free "isinstance") rfl), b_len := He.free_ok X G (c.d.fact 15 (f := .free "len") rfl), b_range := He.free_ok X G (c.d.fact 16 (f := .free "range") rfl), b_str := He.free_ok X G (c.d.fact 17 (f := .free "str") rfl), b_tuple := He.free_ok X G (c.d.fact 18 (f := .free "tuple") rfl) }
  have hb := c.b
  simp only [BB, Bool.and_eq_true, List.all_eq_true] at hb
  obtain ⟨x0, x1, x2, x3, x4, n0, nl, em, k2, kM, kV, kL, kA, kE⟩ := hb
  have m_MapError : mg "MapError" = some (.ref (He.ga K "MapError")) := (He.glo_ok X G (c.d.fact 19 (f := .glo "MapError") rfl))
  have m_BadValue : mg "BadValue" = some (.ref (He.ga K "BadValue")) := (He.glo_ok X G (c.d.fact 20 (f := .glo "BadValue") rfl))
  have m_BadText : mg "BadText" = some (.ref (He.ga K "BadText")) := (He.glo_ok X G (c.d.fact 21 (f := .glo "BadText") rfl))
  have m_BadLevels : mg "BadLevels" = some (.ref (He.ga K "BadLevels")) := (He.glo_ok X G (c.d.fact 22 (f := .glo "BadLevels") rfl))
  have m_CannotDrop : mg "CannotDrop" = some (.ref (He.ga K "CannotDrop")) := (He.glo_ok X G (c.d.fact 23 (f := .glo "CannotDrop") rfl))
  have m_NoStage : mg "NoStage" = some (.ref (He.ga K "NoStage")) := (He.glo_ok X G (c.d.fact 24 (f := .glo "NoStage") rfl))
  have m_NotLegal : mg "NotLegal" = some (.ref (He.ga K "NotLegal")) := (He.glo_ok X G (c.d.fact 25 (f := .glo "NotLegal") rfl))
  obtain ⟨fd0, F0⟩ := c.d.def_ 8 (d := ⟨("BadValue", some "__init__"), "__init__", "BadValue.__init__", defArgs Hd.m_BadValue, defBody Hd.m_BadValue, defScope Hd.m_BadValue, [], []⟩) rfl
  obtain ⟨fd1, F1⟩ := c.d.def_ 9 (d := ⟨("BadText", some "__init__"), "__init__", "BadText.__init__", defArgs Hd.m_BadText, defBody Hd.m_BadText, defScope Hd.m_BadText, [], []⟩) rfl
  obtain ⟨fd2, F2⟩ := c.d.def_ 10 (d := ⟨("BadLevels", some "__init__"), "__init__", "BadLevels.__init__", defArgs Hd.m_BadLevels, defBody Hd.m_BadLevels, defScope Hd.m_BadLevels, [], []⟩) rfl
  obtain ⟨fd3, F3⟩ := c.d.def_ 11 (d := ⟨("CannotDrop", some "__init__"), "__init__", "CannotDrop.__init__", defArgs Hd.m_CannotDrop, defBody Hd.m_CannotDrop, defScope Hd.m_CannotDrop, [], []⟩) rfl
  obtain ⟨fd4, F4⟩ := c.d.def_ 12 (d := ⟨("NoStage", some "__init__"), "__init__", "NoStage.__init__", defArgs Hd.m_NoStage, defBody Hd.m_NoStage, defScope Hd.m_NoStage, [], []⟩) rfl
  refine ⟨fd, fun s v => bnd s [v] rfl, nl, fun base _ _ => ?_⟩
  have ask : ∀ x ∈ six, ExcC K (He.ga K x) := by
    intro x hx
    simp only [six, List.mem_cons, List.not_mem_nil, or_false] at hx
    rcases hx with rfl | rfl | rfl | rfl | rfl | rfl
    · exact (exiB_ok x0).A
    · exact (exiB_ok x1).A
    · exact (exiB_ok x2).A
    · exact (exiB_ok x3).A
    · exact (exiB_ok x4).A
    · exact (ex0B_ok n0 m_NotLegal).2
  have i_BadValue : ExMk P w K mg base 1 "BadValue" (He.ga K "BadValue") "at" := init_ok (p := "at") (s := Hd.m_BadValue) (exiB_ok x0) m_BadValue F0 (He.meth_ok (c.d.fact 26 (f := .meth "BadValue" "__init__") rfl)) ⟨rfl, rfl, rfl, by decide +kernel, rfl, by decide +kernel, by decide +kernel⟩ (fun _ _ _ _ _ _ us hl => match us, hl with | [_, _], _ => rfl) (fun _ _ _ _ _ _ _ _ => rfl) (fun cdv A outer st H E => pss_one (ps_exst (pv 0) (pv 1)))
  have i_BadText : ExMk P w K mg base 1 "BadText" (He.ga K "BadText") "at" := init_ok (p := "at") (s := Hd.m_BadText) (exiB_ok x1) m_BadText F1 (He.meth_ok (c.d.fact 27 (f := .meth "BadText" "__init__") rfl)) ⟨rfl, rfl, rfl, by decide +kernel, rfl, by decide +kernel, by decide +kernel⟩ (fun _ _ _ _ _ _ us hl => match us, hl with | [_, _], _ => rfl) (fun _ _ _ _ _ _ _ _ => rfl) (fun cdv A outer st H E => pss_one (ps_exst (pv 0) (pv 1)))
  have i_BadLevels : ExMk P w K mg base 1 "BadLevels" (He.ga K "BadLevels") "at" := init_ok (p := "at") (s := Hd.m_BadLevels) (exiB_ok x2) m_BadLevels F2 (He.meth_ok (c.d.fact 28 (f := .meth "BadLevels" "__init__") rfl)) ⟨rfl, rfl, rfl, by decide +kernel, rfl, by decide +kernel, by decide +kernel⟩ (fun _ _ _ _ _ _ us hl => match us, hl with | [_, _], _ => rfl) (fun _ _ _ _ _ _ _ _ => rfl) (fun cdv A outer st H E => pss_one (ps_exst (pv 0) (pv 1)))
  have i_CannotDrop : ExMk P w K mg base 1 "CannotDrop" (He.ga K "CannotDrop") "point" := init_ok (p := "point") (s := Hd.m_CannotDrop) (exiB_ok x3) m_CannotDrop F3 (He.meth_ok (c.d.fact 29 (f := .meth "CannotDrop" "__init__") rfl)) ⟨rfl, rfl, rfl, by decide +kernel, rfl, by decide +kernel, by decide +kernel⟩ (fun _ _ _ _ _ _ us hl => match us, hl with | [_, _], _ => rfl) (fun _ _ _ _ _ _ _ _ => rfl) (fun cdv A outer st H E => pss_one (ps_exst (pv 0) (pv 1)))
  have i_NoStage : ExMk P w K mg base 1 "NoStage" (He.ga K "NoStage") "number" := init_ok (p := "number") (s := Hd.m_NoStage) (exiB_ok x4) m_NoStage F4 (He.meth_ok (c.d.fact 30 (f := .meth "NoStage" "__init__") rfl)) ⟨rfl, rfl, rfl, by decide +kernel, rfl, by decide +kernel, by decide +kernel⟩ (fun _ _ _ _ _ _ us hl => match us, hl with | [_, _], _ => rfl) (fun _ _ _ _ _ _ _ _ => rfl) (fun cdv A outer st H E => pss_one (ps_exst (pv 0) (pv 1)))
  have Y : Et P w K mg base := { i_BadValue := i_BadValue, x_BadValue := exiB_ok x0, i_BadText := i_BadText, x_BadText := exiB_ok x1, i_BadLevels := i_BadLevels, x_BadLevels := exiB_ok x2, i_CannotDrop := i_CannotDrop, x_CannotDrop := exiB_ok x3, i_NoStage := i_NoStage, x_NoStage := exiB_ok x4, n_NotLegal := (ex0B_ok n0 m_NotLegal).1, m_MapError := m_MapError, m_BadValue := m_BadValue, m_BadText := m_BadText, m_BadLevels := m_BadLevels, m_CannotDrop := m_CannotDrop, m_NoStage := m_NoStage, m_NotLegal := m_NotLegal, ask := ask, k2 := fun x hx y hy => of_decide_eq_true (k2 x hx y hy), kM := fun x hx => of_decide_eq_true (kM x hx), k_ValueError := fun x hx => of_decide_eq_true (kV x hx), k_LookupError := fun x hx => of_decide_eq_true (kL x hx), k_ArithmeticError := fun x hx => of_decide_eq_true (kA x hx), k_Exception := fun x hx => of_decide_eq_true (kE x hx), eM := fun x hx => of_decide_eq_true (em x hx) }
  have c__law_so : Cal P w K mg base 3 "_law_so" ["found", "meant"] (sp2 (gSo 2)) := c__law_so D_law_so T 2
  have c__law_draw := c__law_draw (P := P) (w := w) (base := base) D_law_draw T
  have c__law_take := c__law_take (P := P) (w := w) (base := base) D_law_take T c__law_draw
  have c__law_numbers := c__law_numbers (P := P) (w := w) (base := base) D_law_numbers T
  have c__law_of := c__law_of D_law_of T Y
  have c__law_foreign := c__law_foreign D_law_foreign T Y
  have c__law_caught := c__law_caught D_law_caught T Y
  exact c_law F T Y c__law_caught c__law_take c__law_foreign c__law_of c__law_so c__law_numbers
end Pv
open PySem PySem.W PySem.Calls PyProof.Rows
theorem PySem.Challenge.cw_cornerfade_k00_errors_holds : PySem.Challenge.rw_cornerfade_k00_errors.Holds := by
  w_on; o_law
  refine HandSHeadRun.head_any (r := OpenLaw.row PySem.Challenge.rw_cornerfade_k00_errors) (q := view (OpenLaw.row PySem.Challenge.rw_cornerfade_k00_errors).prog [16]) (H := Hd.hk) (ob := Hd.ob) (M := 30000) (loose := Hd.loose) (d := HandSHeadRun.topDef (OpenLaw.row PySem.Challenge.rw_cornerfade_k00_errors).prog 16) (kwd := []) Hd.ob_eq
    (by kernel_rfl) (fun s => by kernel_rfl) Hd.run (by kernel_rfl) (by kernel_rfl) (by kernel_rfl) (by rfl) (by first | assumption | decide +kernel) (by decide +kernel) ⟨rfl, rfl, rfl, rfl, rfl, by decide +kernel⟩ ?hw ?hc
  case hw => w_witness2
  case hc =>
    refine L2.walk_ofE (l := PySem.Challenge.rw_cornerfade_k00_errors) (n := 63) (k := 4) (x := "script") (CX := L2.CX0) rfl (by decide) (by kernel_rfl) ⟨rfl, by decide, by decide⟩ ?F (fun _ _ _ _ z => z)
    intro w mg fa h Y G hmg0
    obtain ⟨K, KX, c⟩ := Y
    have hmg : mg ("law" : PySem.Str) = some (.ref fa) := by
      have e : (HandSHeadRun.topDef (OpenLaw.row PySem.Challenge.rw_cornerfade_k00_errors).prog 16).name = ("law" : PySem.Str) := by kernel_rfl
      rw [← e]
      exact hmg0
    obtain ⟨fd, hb, nl, hF⟩ := Pv.facts (P := (PySem.Challenge.rw_cornerfade_k00_errors).prog) (w := w) KX G hmg c
    exact ⟨K, fd, _, KX, hb, fun H a ns hl hO hS => Pw.law_entry nl hl hO hS, hF⟩
