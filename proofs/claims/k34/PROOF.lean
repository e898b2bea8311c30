import PyProof.Rows.All
import Wide.All
import OpenK.AllK
import Wide.FinOn
import HandS.ForMost
import HandS.TryOnly
import HandS.ExcInit
import HandS.TupAny
import HandS.Deep
import HandS.IsInst
import HandS.Flow
import HandS.More
import HandS.Words
import HandS.Defaults
import HandS.HeadHook2
import HandS.Exc
import HandS.ExcIs
import HandS.ExcField
import HandS.ExcSuper
import HandS.WordsExc
import HandS.Head0
import HandS.Head1
import HandS.Head2
import HandS.HeadEnd
import HandS.HeadHook1
import KE.KIsAll
import HandS.Small
import HandS.ExcValue
import KE.HD3
import HandS.Text
import KE.KIntText
import KE.IntTextLaws
import HandS.Iter
import KE.GoesMore
import HandS.DictComp
import HandS.Star
import HandS.SetKeys
import HandS.SetBool
import HandS.CallSlots
import PyProof.EnumStmt
import PyProof.TupleOfSeq
import HandS.StrMore
import HandS.Strs
import HandS.RaiseMore
import HandS.Zip
import PyProof.StrOps2
import KE.KStateDown
import Lean
import PySem.Challenge.RW_cornerfade_k34_maps_printed_and_parsed
set_option Elab.async false
set_option linter.all false
set_option maxRecDepth 100000
/-! A pure layer over the hand layer: readings evaluated over data. -/
namespace Pw
open PySem L2

/-! ### data in a frozen heap -/
def FSub (F F' : Hp) : Prop := ∀ a o, F a = some o → F' a = some o
theorem FSub.rfl {F : Hp} : FSub F F := fun _ _ h => h
theorem FSub.trans {F G L : Hp} (a : FSub F G) (b : FSub G L) : FSub F L := fun x o h => b x o (a x o h)
mutual
inductive Rp (F : Hp) : V → PyData → Prop
  | non : Rp F .non .none
  | bl (b : Bool) : Rp F (.bl b) (.bool b)
  | int (i : Int) : Rp F (.int i) (.int i)
  | str (x : Str) : Rp F (.str x) (.str x)
  | lst {a : Addr} {xs : List V} {ds : List PyData} : F a = some (.lst xs) → RpAll F xs ds → Rp F (.ref a) (.list ds)
  | tup {a : Addr} {xs : List V} {ds : List PyData} : F a = some (.tup xs) → RpAll F xs ds → Rp F (.ref a) (.tuple ds)
inductive RpAll (F : Hp) : List V → List PyData → Prop
  | nil : RpAll F [] []
  | cons {v : V} {vs : List V} {d : PyData} {ds : List PyData} : Rp F v d → RpAll F vs ds → RpAll F (v :: vs) (d :: ds)
end
mutual
theorem Rp.mono {F F' : Hp} (s : FSub F F') : ∀ {d : PyData} {v : V}, Rp F v d → Rp F' v d
  | .none, _, h => by cases h; exact .non
  | .bool b, _, h => by cases h; exact .bl b
  | .int i, _, h => by cases h; exact .int i
  | .str x, _, h => by cases h; exact .str x
  | .list ds, _, h => by cases h with | lst e r => exact .lst (s _ _ e) (RpAll.mono s r)
  | .tuple ds, _, h => by cases h with | tup e r => exact .tup (s _ _ e) (RpAll.mono s r)
  | .dict _, _, h => by cases h
theorem RpAll.mono {F F' : Hp} (s : FSub F F') : ∀ {ds : List PyData} {vs : List V}, RpAll F vs ds → RpAll F' vs ds
  | [], _, h => by cases h; exact .nil
  | d :: ds, _, h => by cases h with | cons a b => exact .cons (Rp.mono s a) (RpAll.mono s b)
end
theorem RpAll.length {F : Hp} : ∀ {ds : List PyData} {vs : List V}, RpAll F vs ds → vs.length = ds.length
  | [], _, .nil => rfl
  | _ :: _, _, .cons _ r => by simp [RpAll.length r]
theorem RpAll.get {F : Hp} : ∀ {ds : List PyData} {vs : List V} {i : Nat} {v : V}, RpAll F vs ds → vs[i]? = some v → ∃ d, ds[i]? = some d ∧ Rp F v d
  | _, _, i, _, .nil, e => by simp at e
  | _, _, 0, _, .cons r _, e => by simp at e; subst e; exact ⟨_, rfl, r⟩
  | _, _, i + 1, v, .cons _ t, e => by
    obtain ⟨d, h1, h2⟩ := RpAll.get (i := i) (v := v) t (by simpa using e)
    exact ⟨d, by simpa using h1, h2⟩
theorem RpAll.get' {F : Hp} : ∀ {ds : List PyData} {vs : List V} {i : Nat} {d : PyData}, RpAll F vs ds → ds[i]? = some d → ∃ v, vs[i]? = some v ∧ Rp F v d
  | _, _, i, _, .nil, e => by simp at e
  | _, _, 0, _, .cons r _, e => by simp at e; subst e; exact ⟨_, rfl, r⟩
  | _, _, i + 1, v, .cons _ t, e => by
    obtain ⟨d, h1, h2⟩ := RpAll.get' (i := i) (d := v) t (by simpa using e)
    exact ⟨d, by simpa using h1, h2⟩
theorem RpAll.append {F : Hp} : ∀ {ds es : List PyData} {vs ws : List V}, RpAll F vs ds → RpAll F ws es → RpAll F (vs ++ ws) (ds ++ es)
  | _, _, _, _, .nil, s => s
  | _, _, _, _, .cons r t, s => .cons r (RpAll.append t s)
theorem RpAll.take {F : Hp} : ∀ {ds : List PyData} {vs : List V} (n : Nat), RpAll F vs ds → RpAll F (vs.take n) (ds.take n)
  | _, _, 0, _ => .nil
  | _, _, _ + 1, .nil => .nil
  | _, _, n + 1, .cons r t => .cons r (RpAll.take n t)
theorem RpAll.drop {F : Hp} : ∀ {ds : List PyData} {vs : List V} (n : Nat), RpAll F vs ds → RpAll F (vs.drop n) (ds.drop n)
  | _, _, 0, r => r
  | _, _, _ + 1, .nil => .nil
  | _, _, n + 1, .cons _ t => RpAll.drop n t
theorem RpAll.set {F : Hp} {v : V} {d : PyData} (r : Rp F v d) : ∀ {ds : List PyData} {vs : List V} (i : Nat), RpAll F vs ds → RpAll F (vs.set i v) (ds.set i d)
  | _, _, _, .nil => .nil
  | _, _, 0, .cons _ t => .cons r t
  | _, _, i + 1, .cons q t => .cons q (RpAll.set r i t)
theorem RpAll.eraseIdx {F : Hp} : ∀ {ds : List PyData} {vs : List V} (i : Nat), RpAll F vs ds → RpAll F (vs.eraseIdx i) (ds.eraseIdx i)
  | _, _, _, .nil => .nil
  | _, _, 0, .cons _ t => t
  | _, _, i + 1, .cons q t => .cons q (RpAll.eraseIdx i t)
theorem RpAll.ints {F : Hp} : ∀ {ns : List Int} {vs : List V}, RpAll F vs (ns.map PyData.int) → vs = ns.map V.int
  | [], _, .nil => rfl
  | n :: ns, _, .cons r t => by cases r; simp [RpAll.ints t]
theorem RpAll.strs {F : Hp} : ∀ {ns : List Str} {vs : List V}, RpAll F vs (ns.map PyData.str) → vs = ns.map V.str
  | [], _, .nil => rfl
  | n :: ns, _, .cons r t => by cases r; simp [RpAll.strs t]
theorem RpAll.bools {F : Hp} : ∀ {ns : List Bool} {vs : List V}, RpAll F vs (ns.map PyData.bool) → vs = ns.map V.bl
  | [], _, .nil => rfl
  | n :: ns, _, .cons r t => by cases r; simp [RpAll.bools t]

/-- what is frozen stands in the heap (a dict may be locked by a walk) -/
def Sub (F H : Hp) : Prop := ∀ a o, F a = some o → H a = some o ∨ ((∃ w, o = .dK w) ∨ (∃ w, o = .dT w)) ∧ ∃ ob, H a = some (.frz ob o)
theorem Sub.rd {F H : Hp} (s : Sub F H) {a : Addr} {o : HO} (h : F a = some o) : Rd H a o := by
  rcases s a o h with e | ⟨_, ob, e⟩
  · exact .inl e
  · exact .inr ⟨ob, e⟩
theorem Sub.lst {F H : Hp} (s : Sub F H) {a : Addr} {xs : List V} (h : F a = some (.lst xs)) : H a = some (.lst xs) := by
  rcases s a _ h with e | ⟨⟨w, e⟩ | ⟨w, e⟩, _⟩
  · exact e
  · cases e
  · cases e
theorem Sub.tup {F H : Hp} (s : Sub F H) {a : Addr} {xs : List V} (h : F a = some (.tup xs)) : H a = some (.tup xs) := by
  rcases s a _ h with e | ⟨⟨w, e⟩ | ⟨w, e⟩, _⟩
  · exact e
  · cases e
  · cases e
theorem Sub.none {F H : Hp} (s : Sub F H) {a : Addr} (h : H a = none) : F a = none := by
  cases q : F a with
  | none => rfl
  | some o =>
    rcases s a o q with e | ⟨_, _, e⟩ <;> rw [h] at e <;> cases e
mutual
theorem Rp.dp {K : PySem.W.Frag} {F H : Hp} (s : Sub F H) : ∀ {d : PyData} {v : V}, Rp F v d → Dp K H v d
  | .none, _, h => by cases h; exact .non
  | .bool b, _, h => by cases h; exact .bl b
  | .int i, _, h => by cases h; exact .int i
  | .str x, _, h => by cases h; exact .str x
  | .list ds, _, h => by cases h with | lst e r => exact .lst (SqL.of (s.lst e)) (RpAll.dp s r)
  | .tuple ds, _, h => by cases h with | tup e r => exact .tup (SqT.of (s.tup e)) (RpAll.dp s r)
  | .dict _, _, h => by cases h
theorem RpAll.dp {K : PySem.W.Frag} {F H : Hp} (s : Sub F H) : ∀ {ds : List PyData} {vs : List V}, RpAll F vs ds → DpAll K H vs ds
  | [], _, h => by cases h; exact .nil
  | d :: ds, _, h => by cases h with | cons a b => exact .cons (Rp.dp s a) (RpAll.dp s b)
end

/-! ### containers -/
inductive Cont where
  | lst (ds : List PyData)
  | dk (kvs : List (Key × PyData))
  | dt (kvs : List (List Key × PyData))
/-- an exception that is held: its class, its one field -/
structure XD where
  C : Addr
  fld : Option (Str × PyData)
def XRp (F : Hp) (v : V) : XD → Prop
  | ⟨C, none⟩ => ∃ a : Addr, v = .ref a ∧ F a = some (exo a C none)
  | ⟨C, some (f, d)⟩ => ∃ (a dx : Addr) (w : V), v = .ref a ∧ F a = some (exo a C (some dx)) ∧ F dx = some (exd dx [(f, w)]) ∧ Rp F w d
theorem XRp.mono {F F' : Hp} (s : FSub F F') {v : V} : ∀ {e : XD}, XRp F v e → XRp F' v e
  | ⟨_, none⟩, ⟨a, e, h⟩ => ⟨a, e, s _ _ h⟩
  | ⟨_, some (_, _)⟩, ⟨a, dx, w, e, h, h2, r⟩ => ⟨a, dx, w, e, s _ _ h, s _ _ h2, r.mono s⟩
inductive XRpAll (F : Hp) : List V → List XD → Prop
  | nil : XRpAll F [] []
  | cons {v : V} {vs : List V} {e : XD} {es : List XD} : XRp F v e → XRpAll F vs es → XRpAll F (v :: vs) (e :: es)
theorem XRpAll.mono {F F' : Hp} (s : FSub F F') : ∀ {vs : List V} {es : List XD}, XRpAll F vs es → XRpAll F' vs es
  | _, _, .nil => .nil
  | _, _, .cons r t => .cons (r.mono s) (t.mono s)
inductive Val where
  | d (x : PyData)
  | c (x : Cont)
  | x (e : XD)
  | xs (es : List XD)
  /-- the script: a list that is locked -/
  | scr (ns : List Int)
  /-- an exception that an except clause holds: it stands at a, its dict at d -/
  | xh (a : Addr) (d : Option Addr) (e : XD)
inductive KRp {κ : Type} (F : Hp) : List (κ × V) → List (κ × PyData) → Prop
  | nil : KRp F [] []
  | cons {k : κ} {v : V} {d : PyData} {ws : List (κ × V)} {kvs : List (κ × PyData)} : Rp F v d → KRp F ws kvs → KRp F ((k, v) :: ws) ((k, d) :: kvs)
theorem KRp.mono {κ : Type} {F F' : Hp} (s : FSub F F') : ∀ {ws : List (κ × V)} {kvs : List (κ × PyData)}, KRp F ws kvs → KRp F' ws kvs
  | _, _, .nil => .nil
  | _, _, .cons r t => .cons (r.mono s) (KRp.mono s t)
theorem KRp.length {κ : Type} {F : Hp} : ∀ {ws : List (κ × V)} {kvs : List (κ × PyData)}, KRp F ws kvs → ws.length = kvs.length
  | _, _, .nil => rfl
  | _, _, .cons r t => by simp [KRp.length t]
def CRp (F : Hp) : Cont → HO → Prop
  | .lst ds, o => ∃ xs, o = .lst xs ∧ RpAll F xs ds
  | .dk kvs, o => ∃ ws, o = .dK ws ∧ KRp F ws kvs
  | .dt kvs, o => ∃ ws, o = .dT ws ∧ KRp F ws kvs
theorem CRp.mono {F F' : Hp} (s : FSub F F') : ∀ {c : Cont} {o : HO}, CRp F c o → CRp F' c o
  | .lst _, _, ⟨xs, e, r⟩ => ⟨xs, e, r.mono s⟩
  | .dk _, _, ⟨xs, e, r⟩ => ⟨xs, e, r.mono s⟩
  | .dt _, _, ⟨xs, e, r⟩ => ⟨xs, e, r.mono s⟩
def RpV (F : Hp) (v : V) : Val → Prop
  | .d x => Rp F v x
  | .c c => ∃ a o, v = .ref a ∧ F a = some o ∧ CRp F c o
  | .x e => XRp F v e
  | .xs es => ∃ a vs, v = .ref a ∧ F a = some (.lst vs) ∧ XRpAll F vs es
  | .scr ns => ∃ a ob, v = .ref a ∧ F a = some (.frz ob (.lst (ns.map V.int)))
  | .xh a d ⟨_, none⟩ => v = .ref a
  | .xh a d ⟨_, some (f, x)⟩ => v = .ref a ∧ ∃ dd w, d = some dd ∧ F dd = some (.xd [(f, w)]) ∧ Rp F w x
theorem RpV.mono {F F' : Hp} (s : FSub F F') {v : V} : ∀ {x : Val}, RpV F v x → RpV F' v x
  | .d _, h => Rp.mono s h
  | .c _, ⟨a, o, e, h, r⟩ => ⟨a, o, e, s _ _ h, r.mono s⟩
  | .x _, h => XRp.mono s h
  | .xs _, ⟨a, vs, e, h, r⟩ => ⟨a, vs, e, s _ _ h, r.mono s⟩
  | .scr _, ⟨a, ob, e, h⟩ => ⟨a, ob, e, s _ _ h⟩
  | .xh _ _ ⟨_, none⟩, h => h
  | .xh _ _ ⟨_, some (_, _)⟩, ⟨e, dd, w, e2, h, r⟩ => ⟨e, dd, w, e2, s _ _ h, r.mono s⟩

/-! ### the state of a def's run -/
inductive Slot where
  | non
  | val (x : Val)
  /-- a container that may be changed: made here (l) or handed in -/
  | own (l : Bool) (c : Cont)
/-- the entry: what is frozen, the heap, what may change, what is held from around, the addresses of what was handed in -/
structure En where
  F0 : Hp
  H0 : Hp
  P : Addr → Prop
  X : Addr → Prop
  Ad : Nat → Option Addr
  pH : ∀ a, P a → H0 a ≠ none
  xP : ∀ a, X a → P a
  aP : ∀ i a, Ad i = some a → P a
structure Sta (e : En) (F : Hp) (ρ : List Slot) (σ : L2.St) (H : Hp) : Prop where
  sub : Sub F H
  f0 : FSub e.F0 F
  new : ∀ a, F a ≠ none → e.F0 a ≠ none ∨ e.H0 a = none
  keep : ∀ a o, e.H0 a = some o → ¬ e.P a → H a = some o
  there : ∀ a, e.H0 a ≠ none → H a ≠ none
  len : σ.length = ρ.length
  val : ∀ (i : Nat) x, ρ[i]? = some (.val x) → ∃ v, σ[i]? = some (some v) ∧ RpV F v x
  own : ∀ (i : Nat) l c, ρ[i]? = some (.own l c) → ∃ a o, σ[i]? = some (some (.ref a)) ∧ F a = none ∧ H a = some o ∧ CRp F c o ∧ (e.H0 a = none ∨ e.P a) ∧ (if l = true then e.H0 a = none ∨ e.X a else e.Ad i = some a)
  sep : ∀ (i j : Nat) li lj ci cj, ρ[i]? = some (.own li ci) → ρ[j]? = some (.own lj cj) → i ≠ j → σ[i]? ≠ σ[j]?

/-- nothing or one new thing that is frozen at once -/
structure Al (F H F' H' : Hp) : Prop where
  f : FSub F F'
  h : FSub H H'
  sub : Sub F' H'
  new : ∀ a, F' a ≠ none → F a ≠ none ∨ H a = none
theorem Al.rfl {F H : Hp} (s : Sub F H) : Al F H F H := ⟨.rfl, .rfl, s, fun _ h => .inl h⟩
theorem Al.trans {F H F1 H1 F2 H2 : Hp} (a : Al F H F1 H1) (b : Al F1 H1 F2 H2) : Al F H F2 H2 :=
  ⟨a.f.trans b.f, a.h.trans b.h, b.sub, fun x h => by
    rcases b.new x h with q | q
    · exact a.new x q
    · refine .inr ?_
      cases z : H x with
      | none => rfl
      | some o => rw [a.h x o z] at q; cases q⟩
theorem Al.one {F H : Hp} (s : Sub F H) {p : Addr} {o : HO} (hp : H p = none) : Al F H (upd F p o) (upd H p o) where
  f := fun a u e => by rw [upd_ne (ne_of_none e (s.none hp))]; exact e
  h := fun a u e => by rw [upd_ne (ne_of_none e hp)]; exact e
  sub := fun a u e => by
    by_cases h : a = p
    · subst h; rw [upd_same] at e ⊢; exact .inl e
    · rw [upd_ne h] at e ⊢; exact s a u e
  new := fun a h => by
    by_cases q : a = p
    · subst q; exact .inr hp
    · rw [upd_ne q] at h; exact .inl h
theorem Sta.al {e : En} {F H F' H' : Hp} {ρ : List Slot} {σ : L2.St} (S : Sta e F ρ σ H) (A : Al F H F' H') : Sta e F' ρ σ H' where
  sub := A.sub
  f0 := S.f0.trans A.f
  new := fun a h => by
    rcases A.new a h with q | q
    · exact S.new a q
    · refine .inr ?_
      cases z : e.H0 a with
      | none => rfl
      | some o => exact absurd q (S.there a (by rw [z]; simp))
  keep := fun a o h hp => A.h a o (S.keep a o h hp)
  there := fun a h => by
    cases z : H a with
    | none => exact absurd z (S.there a h)
    | some o => rw [A.h a o z]; simp
  len := S.len
  val := fun i x h => by
    obtain ⟨v, e1, r⟩ := S.val i x h
    exact ⟨v, e1, r.mono A.f⟩
  own := fun i l c h => by
    obtain ⟨a, o, e1, e2, e3, r, q⟩ := S.own i l c h
    refine ⟨a, o, e1, ?_, A.h _ _ e3, r.mono A.f, q⟩
    cases z : F' a with
    | none => rfl
    | some u =>
      rcases A.new a (by rw [z]; simp) with q | q
      · exact absurd e2 q
      · rw [q] at e3; cases e3
  sep := S.sep
/-- a new thing of one's own -/
theorem Sta.alloc {e : En} {F H : Hp} {ρ : List Slot} {σ : L2.St} (S : Sta e F ρ σ H) {p : Addr} {o : HO} (hp : H p = none) : Sta e F ρ σ (upd H p o) where
  sub := fun a u h => by rw [upd_ne (ne_of_none h (S.sub.none hp))]; exact S.sub a u h
  f0 := S.f0
  new := S.new
  keep := fun a u h q => by
    have z := S.keep a u h q
    rw [upd_ne (ne_of_none z hp)]; exact z
  there := fun a h => by
    by_cases q : a = p
    · subst q; rw [upd_same]; simp
    · rw [upd_ne q]; exact S.there a h
  len := S.len
  val := S.val
  own := fun i l c h => by
    obtain ⟨a, u, e1, e2, e3, r, q⟩ := S.own i l c h
    exact ⟨a, u, e1, e2, by rw [upd_ne (ne_of_none e3 hp)]; exact e3, r, q⟩
  sep := S.sep
theorem Sta.h0 {e : En} {F H : Hp} {ρ : List Slot} {σ : L2.St} (S : Sta e F ρ σ H) {p : Addr} (hp : H p = none) : e.H0 p = none := by
  cases z : e.H0 p with
  | none => rfl
  | some o => exact absurd hp (S.there p (by rw [z]; simp))
theorem get_set {α : Type} {l : List α} {i j : Nat} {x y : α} (h : (l.set i x)[j]? = some y) : (i = j ∧ y = x ∧ i < l.length) ∨ (i ≠ j ∧ l[j]? = some y) := by
  by_cases q : i = j
  · subst q
    rw [List.getElem?_set_self'] at h
    cases z : l[i]? with
    | none => rw [z] at h; cases h
    | some w =>
      rw [z] at h
      exact .inl ⟨rfl, (Option.some.inj h).symm, (List.getElem?_eq_some_iff.mp z).1⟩
  · rw [List.getElem?_set_ne q] at h
    exact .inr ⟨q, h⟩
/-- a slot holds data -/
theorem Sta.setV {e : En} {F H : Hp} {ρ : List Slot} {σ : L2.St} (S : Sta e F ρ σ H) (i : Nat) {x : Val} {v : V} (r : RpV F v x) : Sta e F (ρ.set i (.val x)) (σ.set i (some v)) H where
  sub := S.sub
  f0 := S.f0
  new := S.new
  keep := S.keep
  there := S.there
  len := by rw [List.length_set, List.length_set]; exact S.len
  val := fun j y h => by
    rcases get_set h with ⟨rfl, e1, hl⟩ | ⟨hn, e1⟩
    · cases e1
      exact ⟨v, by rw [List.getElem?_set_self (by rw [S.len]; exact hl)], r⟩
    · rw [List.getElem?_set_ne hn]; exact S.val j y e1
  own := fun j l c h => by
    rcases get_set h with ⟨rfl, e1, hl⟩ | ⟨hn, e1⟩
    · cases e1
    · rw [List.getElem?_set_ne hn]; exact S.own j l c e1
  sep := fun j k lj lk cj ck h1 h2 hn => by
    rcases get_set h1 with ⟨_, e1, _⟩ | ⟨n1, e1⟩
    · cases e1
    rcases get_set h2 with ⟨_, e2, _⟩ | ⟨n2, e2⟩
    · cases e2
    rw [List.getElem?_set_ne n1, List.getElem?_set_ne n2]
    exact S.sep j k lj lk cj ck e1 e2 hn
/-- a slot is emptied -/
theorem Sta.setN {e : En} {F H : Hp} {ρ : List Slot} {σ : L2.St} (S : Sta e F ρ σ H) (i : Nat) {w : Option V} : Sta e F (ρ.set i .non) (σ.set i w) H where
  sub := S.sub
  f0 := S.f0
  new := S.new
  keep := S.keep
  there := S.there
  len := by rw [List.length_set, List.length_set]; exact S.len
  val := fun j y h => by
    rcases get_set h with ⟨rfl, e1, hl⟩ | ⟨hn, e1⟩
    · cases e1
    · rw [List.getElem?_set_ne hn]; exact S.val j y e1
  own := fun j l c h => by
    rcases get_set h with ⟨rfl, e1, hl⟩ | ⟨hn, e1⟩
    · cases e1
    · rw [List.getElem?_set_ne hn]; exact S.own j l c e1
  sep := fun j k lj lk cj ck h1 h2 hn => by
    rcases get_set h1 with ⟨_, e1, _⟩ | ⟨n1, e1⟩
    · cases e1
    rcases get_set h2 with ⟨_, e2, _⟩ | ⟨n2, e2⟩
    · cases e2
    rw [List.getElem?_set_ne n1, List.getElem?_set_ne n2]
    exact S.sep j k lj lk cj ck e1 e2 hn
/-- a slot holds a new thing of one's own -/
theorem Sta.setO {e : En} {F H : Hp} {ρ : List Slot} {σ : L2.St} (S : Sta e F ρ σ H) (i : Nat) {c : Cont} {a : Addr} {o : HO} (hF : F a = none) (hH : H a = some o) (r : CRp F c o) (q : e.H0 a = none)
    (hs : ∀ (j : Nat) l c', ρ[j]? = some (.own l c') → σ[j]? ≠ some (some (.ref a))) : Sta e F (ρ.set i (.own true c)) (σ.set i (some (.ref a))) H where
  sub := S.sub
  f0 := S.f0
  new := S.new
  keep := S.keep
  there := S.there
  len := by rw [List.length_set, List.length_set]; exact S.len
  val := fun j y h => by
    rcases get_set h with ⟨rfl, e1, hl⟩ | ⟨hn, e1⟩
    · cases e1
    · rw [List.getElem?_set_ne hn]; exact S.val j y e1
  own := fun j l c h => by
    rcases get_set h with ⟨rfl, e1, hl⟩ | ⟨hn, e1⟩
    · cases e1
      exact ⟨a, o, by rw [List.getElem?_set_self (by rw [S.len]; exact hl)], hF, hH, r, .inl q, by rw [if_pos rfl]; exact .inl q⟩
    · rw [List.getElem?_set_ne hn]; exact S.own j l c e1
  sep := fun j k lj lk cj ck h1 h2 hn => by
    rcases get_set h1 with ⟨rfl, e1, l1⟩ | ⟨n1, e1⟩
    · rcases get_set h2 with ⟨e, _⟩ | ⟨n2, e2⟩
      · exact absurd e hn
      · rw [List.getElem?_set_self (by rw [S.len]; exact l1), List.getElem?_set_ne n2]
        exact fun z => hs k lk ck e2 z.symm
    · rcases get_set h2 with ⟨rfl, e2, l2⟩ | ⟨n2, e2⟩
      · rw [List.getElem?_set_self (by rw [S.len]; exact l2), List.getElem?_set_ne n1]
        exact fun z => hs j lj cj e1 z
      · rw [List.getElem?_set_ne n1, List.getElem?_set_ne n2]
        exact S.sep j k lj lk cj ck e1 e2 hn
/-- a thing of one's own changes -/
theorem Sta.mut {e : En} {F H : Hp} {ρ : List Slot} {σ : L2.St} (S : Sta e F ρ σ H) {i : Nat} {l : Bool} {c c' : Cont} {a : Addr} {o' : HO} (hi : ρ[i]? = some (.own l c)) (ha : σ[i]? = some (some (.ref a))) (r : CRp F c' o') : Sta e F (ρ.set i (.own l c')) σ (upd H a o') := by
  obtain ⟨a', o, e1, e2, e3, r0, q, ql⟩ := S.own i l c hi
  rw [ha] at e1
  cases e1
  have hil : i < ρ.length := (List.getElem?_eq_some_iff.mp hi).1
  exact {
    sub := fun b u h => by rw [upd_ne (ne_of_none h e2)]; exact S.sub b u h
    f0 := S.f0
    new := S.new
    keep := fun b u h hp => by
      have z : b ≠ a := fun z => by
        subst z
        rcases q with q | q
        · rw [h] at q; cases q
        · exact hp q
      rw [upd_ne z]; exact S.keep b u h hp
    there := fun b h => by
      by_cases z : b = a
      · subst z; rw [upd_same]; simp
      · rw [upd_ne z]; exact S.there b h
    len := by rw [List.length_set]; exact S.len
    val := fun j y h => by
      rcases get_set h with ⟨rfl, e1, hl⟩ | ⟨hn, e1⟩
      · cases e1
      · exact S.val j y e1
    own := fun j lj cj h => by
      rcases get_set h with ⟨rfl, e1, hl⟩ | ⟨hn, e1⟩
      · cases e1
        exact ⟨a, o', ha, e2, upd_same, r, q, ql⟩
      · obtain ⟨b, u, f1, f2, f3, fr, fq⟩ := S.own j lj cj e1
        have z : b ≠ a := fun z => by
          subst z
          exact S.sep i j l lj c cj hi e1 hn (by rw [ha, f1])
        exact ⟨b, u, f1, f2, by rw [upd_ne z]; exact f3, fr, fq⟩
    sep := fun j k lj lk cj ck h1 h2 hn => by
      have k1 : ∃ l1 c1, ρ[j]? = some (.own l1 c1) := by
        rcases get_set h1 with ⟨rfl, _, _⟩ | ⟨_, e1⟩
        · exact ⟨_, _, hi⟩
        · exact ⟨_, _, e1⟩
      have k2 : ∃ l1 c1, ρ[k]? = some (.own l1 c1) := by
        rcases get_set h2 with ⟨rfl, _, _⟩ | ⟨_, e1⟩
        · exact ⟨_, _, hi⟩
        · exact ⟨_, _, e1⟩
      obtain ⟨l1, c1, z1⟩ := k1
      obtain ⟨l2, c2, z2⟩ := k2
      exact S.sep j k l1 l2 c1 c2 z1 z2 hn }
/-- forgetting -/
def Le (ρ ρ' : List Slot) : Prop := ρ.length = ρ'.length ∧ ∀ (i : Nat) s, ρ'[i]? = some s → s = .non ∨ ρ[i]? = some s
theorem Le.rfl {ρ : List Slot} : Le ρ ρ := ⟨Eq.refl _, fun _ _ h => .inr h⟩
theorem Sta.le {e : En} {F H : Hp} {ρ ρ' : List Slot} {σ : L2.St} (S : Sta e F ρ σ H) (l : Le ρ ρ') : Sta e F ρ' σ H where
  sub := S.sub
  f0 := S.f0
  new := S.new
  keep := S.keep
  there := S.there
  len := by rw [S.len, l.1]
  val := fun i x h => by
    rcases l.2 i _ h with z | z
    · cases z
    · exact S.val i x z
  own := fun i lb x h => by
    rcases l.2 i _ h with z | z
    · cases z
    · exact S.own i lb x z
  sep := fun i j li lj ci cj h1 h2 => by
    rcases l.2 i _ h1 with z | z
    · cases z
    rcases l.2 j _ h2 with z2 | z2
    · cases z2
    exact S.sep i j li lj ci cj z z2
/-- something of one's own that stands apart from the slots is frozen -/
theorem Sta.frz {e : En} {F H : Hp} {ρ : List Slot} {σ : L2.St} (S : Sta e F ρ σ H) {a : Addr} {o : HO} (e1 : F a = none) (e2 : H a = some o) (e3 : e.H0 a = none) (hs : ∀ (j : Nat) l c', ρ[j]? = some (.own l c') → σ[j]? ≠ some (some (.ref a))) :
    FSub F (upd F a o) ∧ Sta e (upd F a o) ρ σ H := by
  have fs : FSub F (upd F a o) := fun b u h => by rw [upd_ne (ne_of_none h e1)]; exact h
  refine ⟨fs, ?_⟩
  exact {
    sub := fun b u h => by
      by_cases z : b = a
      · subst z; rw [upd_same] at h; cases h; exact .inl e2
      · rw [upd_ne z] at h; exact S.sub b u h
    f0 := S.f0.trans fs
    new := fun b h => by
      by_cases z : b = a
      · subst z; exact .inr e3
      · rw [upd_ne z] at h; exact S.new b h
    keep := S.keep
    there := S.there
    len := S.len
    val := fun j y h => by
      obtain ⟨v, f1, f2⟩ := S.val j y h
      exact ⟨v, f1, f2.mono fs⟩
    own := fun j l cj h => by
      obtain ⟨b, u, f1, f2, f3, fr, fq⟩ := S.own j l cj h
      have z : b ≠ a := fun z => by
        subst z
        exact hs j l cj h f1
      exact ⟨b, u, f1, by rw [upd_ne z]; exact f2, f3, fr.mono fs, fq⟩
    sep := S.sep }
theorem le_set (ρ : List Slot) (i : Nat) : Le ρ (ρ.set i .non) := by
  refine ⟨by simp, fun j s h => ?_⟩
  rcases get_set h with ⟨_, e, _⟩ | ⟨_, e⟩
  · exact .inl e
  · exact .inr e
/-- a slot's own thing is frozen -/
theorem Sta.freeze {e : En} {F H : Hp} {ρ : List Slot} {σ : L2.St} (S : Sta e F ρ σ H) {i : Nat} {c : Cont} (hi : ρ[i]? = some (.own true c)) (hX : ∀ a, ¬ e.X a) :
    ∃ F', FSub F F' ∧ Sta e F' (ρ.set i (.val (.c c))) σ H := by
  obtain ⟨a, o, ha, e2, e3, r, q, ql⟩ := S.own i true c hi
  rw [if_pos rfl] at ql
  have hq : e.H0 a = none := by
    rcases ql with z | z
    · exact z
    · exact absurd z (hX a)
  have S1 : Sta e F (ρ.set i .non) σ H := S.le (le_set ρ i)
  have hs : ∀ (j : Nat) l c', (ρ.set i .non)[j]? = some (.own l c') → σ[j]? ≠ some (some (.ref a)) := fun j l c' h z => by
    rcases get_set h with ⟨_, e, _⟩ | ⟨n, e⟩
    · cases e
    · exact S.sep i j true l c c' hi e n (by rw [ha, z])
  obtain ⟨fs, S2⟩ := S1.frz e2 e3 hq hs
  refine ⟨_, fs, ?_⟩
  have S3 := S2.setV i (x := .c c) (v := .ref a) ⟨a, o, rfl, upd_same, r.mono fs⟩
  rw [List.set_set] at S3
  have : σ.set i (some (.ref a)) = σ := by
    apply List.ext_getElem?
    intro j
    by_cases z : i = j
    · subst z
      rw [List.getElem?_set_self (List.getElem?_eq_some_iff.mp ha).1, ha]
    · rw [List.getElem?_set_ne z]
  rw [this] at S3
  exact S3
theorem RpV.lst {F : Hp} {v : V} {ds : List PyData} : RpV F v (.c (.lst ds)) → RpV F v (.d (.list ds)) := fun ⟨a, o, e, h, xs, e1, r⟩ => by
  subst e; subst e1; exact Rp.lst h r
theorem RpV.lst' {F : Hp} {v : V} {ds : List PyData} : RpV F v (.d (.list ds)) → RpV F v (.c (.lst ds)) := fun h => by
  cases h with | lst e r => exact ⟨_, _, rfl, e, _, rfl, r⟩
/-- one def's state seen from within a part of it: all that the slots don't own is kept -/
def Sta.sub_en {e : En} {F H : Hp} {ρ : List Slot} {σ : L2.St} (S : Sta e F ρ σ H) : En where
  F0 := F
  H0 := H
  P := fun a => e.P a ∨ ∃ (i : Nat) (l : Bool) (c : Cont), ρ[i]? = some (.own l c) ∧ σ[i]? = some (some (.ref a))
  X := fun a => ∃ (i : Nat) (c : Cont), ρ[i]? = some (.own true c) ∧ σ[i]? = some (some (.ref a))
  Ad := e.Ad
  pH := fun a h => by
    rcases h with h | ⟨i, l, c, h1, h2⟩
    · exact S.there a (e.pH a h)
    · obtain ⟨b, o, e1, _, e3, _⟩ := S.own i l c h1
      rw [h2] at e1; cases e1; rw [e3]; simp
  xP := fun a ⟨i, c, h1, h2⟩ => .inr ⟨i, true, c, h1, h2⟩
  aP := fun i a h => .inl (e.aP i a h)
theorem Sta.enter {e : En} {F H : Hp} {ρ : List Slot} {σ : L2.St} (S : Sta e F ρ σ H) : Sta S.sub_en F ρ σ H where
  sub := S.sub
  f0 := .rfl
  new := fun a h => .inl h
  keep := fun a o h _ => h
  there := fun a h => h
  len := S.len
  val := S.val
  own := fun i l c h => by
    obtain ⟨a, o, e1, e2, e3, r, q, ql⟩ := S.own i l c h
    refine ⟨a, o, e1, e2, e3, r, .inr (.inr ⟨i, l, c, h, e1⟩), ?_⟩
    cases l with
    | true => rw [if_pos rfl]; exact .inr ⟨i, c, h, e1⟩
    | false => rw [if_neg (by decide)] at ql ⊢; exact ql
  sep := S.sep
/-- back -/
theorem Sta.leave {e : En} {F H F' H' : Hp} {ρ ρ' : List Slot} {σ σ' : L2.St} (S : Sta e F ρ σ H) (T : Sta S.sub_en F' ρ' σ' H') : Sta e F' ρ' σ' H' where
  sub := T.sub
  f0 := S.f0.trans T.f0
  new := fun a h => by
    rcases T.new a h with q | q
    · exact S.new a q
    · exact .inr (S.h0 q)
  keep := fun a o h hp => by
    refine T.keep a o (S.keep a o h hp) ?_
    rintro (z | ⟨i, l, c, h1, h2⟩)
    · exact hp z
    · obtain ⟨b, u, e1, _, _, _, q, _⟩ := S.own i l c h1
      rw [h2] at e1; cases e1
      rcases q with q | q
      · rw [h] at q; cases q
      · exact hp q
  there := fun a h => T.there a (S.there a h)
  len := T.len
  val := T.val
  own := fun i l c h => by
    obtain ⟨a, o, e1, e2, e3, r, q, ql⟩ := T.own i l c h
    have key : (∃ (i : Nat) (l : Bool) (c : Cont), ρ[i]? = some (.own l c) ∧ σ[i]? = some (some (.ref a))) → e.H0 a = none ∨ e.P a := fun ⟨j, lj, cj, h1, h2⟩ => by
      obtain ⟨b, u, f1, _, _, _, q, _⟩ := S.own j lj cj h1
      rw [h2] at f1; cases f1; exact q
    refine ⟨a, o, e1, e2, e3, r, ?_, ?_⟩
    · rcases q with q | q | q
      · exact .inl (S.h0 q)
      · exact .inr q
      · exact key q
    · cases l with
      | true =>
        rw [if_pos rfl] at ql ⊢
        rcases ql with q | ⟨j, cj, h1, h2⟩
        · exact .inl (S.h0 q)
        · obtain ⟨b, u, f1, _, _, _, _, z⟩ := S.own j true cj h1
          rw [h2] at f1; cases f1
          rw [if_pos rfl] at z; exact z
      | false => rw [if_neg (by decide)] at ql ⊢; exact ql
  sep := T.sep
/-- what stands apart is kept -/
theorem Sta.apart {e : En} {F H F' H' : Hp} {ρ ρ' : List Slot} {σ σ' : L2.St} (S : Sta e F ρ σ H) (T : Sta S.sub_en F' ρ' σ' H') {a : Addr} {o : HO} (h : H a = some o) (hp : e.H0 a = none) (hs : ∀ (j : Nat) l c', ρ[j]? = some (.own l c') → σ[j]? ≠ some (some (.ref a))) :
    H' a = some o ∧ (F a = none → F' a = none) := by
  refine ⟨T.keep a o h ?_, fun z => ?_⟩
  · rintro (z | ⟨i, l, c, h1, h2⟩)
    · exact e.pH a z hp
    · exact hs i l c h1 h2
  · cases y : F' a with
    | none => rfl
    | some u =>
      rcases T.new a (by rw [y]; simp) with q | q
      · exact absurd z q
      · have q : H a = none := q
        rw [h] at q; cases q

/-! ### what a reading comes to -/
inductive Out where
  | nx (ρ : List Slot)
  | rt (x : Val) (ρ : List Slot)
  | ro (c : Cont) (ρ : List Slot)
  | bk (ρ : List Slot)
  | ct (ρ : List Slot)
  /-- an exception leaves: where it goes, its class, its one field -/
  | ex (W : WX) (C : Addr) (fld : Option (Str × PyData)) (ρ : List Slot)
/-- an exception goes to W -/
def FinX (W : WX) (C : Addr) : Option (Str × PyData) → Hp → L2.St → Hp → Prop
  | none, _, σ, H => W (.ref C) none σ H
  | some (f, x), F, σ, H => ∀ v d, Rp F v x → H d = none → W (.ref C) (some d) σ (upd H d (.xd [(f, v)]))
def Fin (e : En) (F : Hp) (D : Ends) : Out → Prop
  | .nx ρ => ∀ F' σ H, FSub F F' → Sta e F' ρ σ H → D.nx σ H
  | .bk ρ => ∀ F' σ H, FSub F F' → Sta e F' ρ σ H → D.bk σ H
  | .ct ρ => ∀ F' σ H, FSub F F' → Sta e F' ρ σ H → D.ct σ H
  | .rt x ρ => ∀ F' σ H v, FSub F F' → Sta e F' ρ σ H → RpV F' v x → D.rt v H
  | .ro c ρ => ∀ F' σ H a o, FSub F F' → Sta e F' ρ σ H → F' a = none → H a = some o → CRp F' c o → e.H0 a = none → D.rt (.ref a) H
  | .ex W C fld ρ => ∀ F' σ H, FSub F F' → Sta e F' ρ σ H → FinX W C fld F' σ H
theorem Fin.mono {e : En} {F F' : Hp} {D : Ends} (s : FSub F F') : ∀ {o : Out}, Fin e F D o → Fin e F' D o
  | .nx _, h => fun G σ H f S => h G σ H (s.trans f) S
  | .bk _, h => fun G σ H f S => h G σ H (s.trans f) S
  | .ct _, h => fun G σ H f S => h G σ H (s.trans f) S
  | .rt _ _, h => fun G σ H v f S r => h G σ H v (s.trans f) S r
  | .ro _ _, h => fun G σ H a o f S => h G σ H a o (s.trans f) S
  | .ex _ _ _ _, h => fun G σ H f S => h G σ H (s.trans f) S
def WP (t : TS) (ρ : List Slot) (P : Out → Prop) : Prop := ∀ e F σ H D, (∀ a, ¬ En.X e a) → Sta e F ρ σ H → (∀ o, P o → Fin e F D o) → t D σ H
def EV (t : TE) (ρ : List Slot) (x : Val) (ρ' : List Slot) : Prop := ∀ e F σ H (Q : VK), Sta e F ρ σ H → (∀ F' H' v, FSub F F' → Sta e F' ρ' σ H' → RpV F' v x → Q v H') → t σ H Q
def EO (t : TE) (ρ : List Slot) (c : Cont) (ρ' : List Slot) : Prop := ∀ e F σ H (Q : VK), Sta e F ρ σ H →
  (∀ F' H' a o, FSub F F' → Sta e F' ρ' σ H' → F' a = none → H' a = some o → CRp F' c o → e.H0 a = none → (∀ (j : Nat) l c', ρ'[j]? = some (.own l c') → σ[j]? ≠ some (some (.ref a))) → Q (.ref a) H') → t σ H Q
/-- a container that is looked at -/
def EW (t : TE) (ρ : List Slot) (c : Cont) (ρ' : List Slot) : Prop := ∀ e F σ H (Q : VK), Sta e F ρ σ H → (∀ F' H' a o, FSub F F' → Sta e F' ρ' σ H' → Rd H' a o → CRp F' c o → Q (.ref a) H') → t σ H Q
def ET (t : TT) (ρ : List Slot) (b : Bool) (ρ' : List Slot) : Prop := ∀ e F σ H (Q : Bool → Hp → Prop), Sta e F ρ σ H → (∀ F' H', FSub F F' → Sta e F' ρ' σ H' → Q b H') → t σ H Q
inductive Src where
  | d (x : Val)
  | s (i : Nat)
def SrcRp (F : Hp) (σ : L2.St) : Src → V → Prop
  | .d x, v => RpV F v x
  | .s i, v => σ[i]? = some (some v)
inductive Srcs (F : Hp) (σ : L2.St) : List Src → List V → Prop
  | nil : Srcs F σ [] []
  | cons {s : Src} {v : V} {ss : List Src} {vs : List V} : SrcRp F σ s v → Srcs F σ ss vs → Srcs F σ (s :: ss) (v :: vs)
def EA (t : TA) (ρ : List Slot) (ss : List Src) (ρ' : List Slot) : Prop := ∀ e F σ H (Q : List V → Hp → Prop), Sta e F ρ σ H → (∀ F' H' vs, FSub F F' → Sta e F' ρ' σ H' → Srcs F' σ ss vs → Q vs H') → t σ H Q
theorem SrcRp.mono {F F' : Hp} {σ : L2.St} (f : FSub F F') : ∀ {s : Src} {v : V}, SrcRp F σ s v → SrcRp F' σ s v
  | .d _, _, h => RpV.mono f h
  | .s _, _, h => h
theorem Srcs.mono {F F' : Hp} {σ : L2.St} (f : FSub F F') : ∀ {ss : List Src} {vs : List V}, Srcs F σ ss vs → Srcs F' σ ss vs
  | _, _, .nil => .nil
  | _, _, .cons a b => .cons (a.mono f) (b.mono f)
theorem Srcs.data {F : Hp} {σ : L2.St} : ∀ {ds : List PyData} {vs : List V}, Srcs F σ (ds.map fun d => Src.d (.d d)) vs → RpAll F vs ds
  | [], _, .nil => .nil
  | _ :: _, _, .cons a b => .cons a b.data

variable {ρ ρ1 ρ2 ρ3 : List Slot} {ta tb : TE} {x y z : Val} {P : Out → Prop}
theorem EV.le (h : EV ta ρ x ρ1) (l : Le ρ1 ρ2) : EV ta ρ x ρ2 := fun e F σ H Q S k => h e F σ H Q S fun F' H' v f S' r => k F' H' v f (S'.le l) r
theorem ev_var {i : Nat} (h : ρ[i]? = some (.val x)) : EV (tVar i) ρ x ρ := fun e F σ H Q S k => by
  obtain ⟨v, e1, r⟩ := S.val i x h
  exact ⟨v, e1, k F H v .rfl S r⟩
theorem ew_var {i : Nat} {l : Bool} {c : Cont} (h : ρ[i]? = some (.own l c)) : EW (tVar i) ρ c ρ := fun e F σ H Q S k => by
  obtain ⟨a, o, e1, e2, e3, r, q⟩ := S.own i l c h
  exact ⟨.ref a, e1, k F H a o .rfl S (.inl e3) r⟩
theorem EV.w {c : Cont} (h : EV ta ρ (.c c) ρ1) : EW ta ρ c ρ1 := fun e F σ H Q S k => h e F σ H Q S fun F' H' v f S' ⟨a, o, e1, e2, r⟩ => by
  subst e1
  exact k F' H' a o f S' (S'.sub.rd e2) r
theorem EV.wl {ds : List PyData} (h : EV ta ρ (.d (.list ds)) ρ1) : EW ta ρ (.lst ds) ρ1 := EV.w fun e F σ H Q S k => h e F σ H Q S fun F' H' v f S' r => k F' H' v f S' r.lst'
theorem EO.w {c : Cont} (h : EO ta ρ c ρ1) : EW ta ρ c ρ1 := fun e F σ H Q S k => h e F σ H Q S fun F' H' a o f S' _ e2 r _ _ => k F' H' a o f S' (.inl e2) r
theorem EO.v {c : Cont} (h : EO ta ρ c ρ1) : EV ta ρ (.c c) ρ1 := fun e F σ H Q S k => h e F σ H Q S fun F' H' a o f S' e1 e2 r e3 hs => by
  obtain ⟨fs, S2⟩ := S'.frz e1 e2 e3 hs
  exact k (upd F' a o) H' _ (f.trans fs) S2 ⟨a, o, rfl, upd_same, r.mono fs⟩
theorem EO.vl {ds : List PyData} (h : EO ta ρ (.lst ds) ρ1) : EV ta ρ (.d (.list ds)) ρ1 := fun e F σ H Q S k => h.v e F σ H Q S fun F' H' v f S' r => k F' H' v f S' r.lst
/-- constants -/
theorem ev_int {i : Int} : EV (tC (.int i)) ρ (.d (.int i)) ρ := fun e F σ H Q S k => k F H _ .rfl S (.int i)
theorem ev_bl {b : Bool} : EV (tC (.bl b)) ρ (.d (.bool b)) ρ := fun e F σ H Q S k => k F H _ .rfl S (.bl b)
theorem ev_non : EV (tC .non) ρ (.d .none) ρ := fun e F σ H Q S k => k F H _ .rfl S .non
theorem ev_str {s : Str} : EV (tC (.str s)) ρ (.d (.str s)) ρ := fun e F σ H Q S k => k F H _ .rfl S (.str s)
/-! ### operations by value -/
def OpD (r : R2) (a b c : PyData) : Prop := ∀ F H (Q : VK) v w, Sub F H → Rp F v a → Rp F w b → (∀ F' H' u, Al F H F' H' → Rp F' u c → Q u H') → r v w H Q
def UnD (r : V → Hp → VK → Prop) (a c : PyData) : Prop := ∀ F H (Q : VK) v, Sub F H → Rp F v a → (∀ F' H' u, Al F H F' H' → Rp F' u c → Q u H') → r v H Q
def CallD (r : List V → Hp → VK → Prop) (as : List PyData) (c : PyData) : Prop := ∀ F H (Q : VK) vs, Sub F H → RpAll F vs as → (∀ F' H' u, Al F H F' H' → Rp F' u c → Q u H') → r vs H Q
def CallW (r : List V → Hp → VK → Prop) (c : Cont) (d : PyData) : Prop := ∀ F H (Q : VK) a o, Sub F H → Rd H a o → CRp F c o → (∀ F' H' u, Al F H F' H' → Rp F' u d → Q u H') → r [.ref a] H Q
theorem ev_op {r : R2} {a b c : PyData} (h1 : EV ta ρ (.d a) ρ1) (h2 : EV tb ρ1 (.d b) ρ2) (h : OpD r a b c) : EV (tOp r ta tb) ρ (.d c) ρ2 := fun e F σ H Q S k =>
  h1 e F σ H _ S fun F1 H1 v f1 S1 r1 => h2 e F1 σ H1 _ S1 fun F2 H2 w f2 S2 r2 => h F2 H2 Q v w S2.sub (Rp.mono f2 r1) r2 fun F3 H3 u A r3 => k F3 H3 u ((f1.trans f2).trans A.f) (S2.al A) r3
theorem ev_un {r : V → Hp → VK → Prop} {a c : PyData} (h1 : EV ta ρ (.d a) ρ1) (h : UnD r a c) : EV (tUn r ta) ρ (.d c) ρ1 := fun e F σ H Q S k =>
  h1 e F σ H _ S fun F1 H1 v f1 S1 r1 => h F1 H1 Q v S1.sub r1 fun F3 H3 u A r3 => k F3 H3 u (f1.trans A.f) (S1.al A) r3
theorem ea_nil : EA tNil ρ [] ρ := fun e F σ H Q S k => k F H [] .rfl S .nil
theorem ea_cons {t : TA} {ss : List Src} (h1 : EV ta ρ x ρ1) (h2 : EA t ρ1 ss ρ2) : EA (tCons ta t) ρ (.d x :: ss) ρ2 := fun e F σ H Q S k =>
  h1 e F σ H _ S fun F1 H1 v f1 S1 r1 => h2 e F1 σ H1 _ S1 fun F2 H2 vs f2 S2 r2 => k F2 H2 (v :: vs) (f1.trans f2) S2 (.cons (RpV.mono f2 r1) r2)
theorem ea_ref {t : TA} {ss : List Src} {i : Nat} {l : Bool} {c : Cont} (h1 : ρ[i]? = some (.own l c)) (h2 : EA t ρ ss ρ2) : EA (tCons (tVar i) t) ρ (.s i :: ss) ρ2 := fun e F σ H Q S k => by
  obtain ⟨a, o, e1, _⟩ := S.own i l c h1
  exact ⟨.ref a, e1, h2 e F σ H _ S fun F2 H2 vs f2 S2 r2 => k F2 H2 (.ref a :: vs) f2 S2 (.cons e1 r2)⟩
theorem ev_cb {r : List V → Hp → VK → Prop} {t : TA} {as : List PyData} {c : PyData} (h1 : EA t ρ (as.map fun d => Src.d (.d d)) ρ1) (h : CallD r as c) : EV (tCB r t) ρ (.d c) ρ1 := fun e F σ H Q S k =>
  h1 e F σ H _ S fun F1 H1 vs f1 S1 r1 => h F1 H1 Q vs S1.sub r1.data fun F3 H3 u A r3 => k F3 H3 u (f1.trans A.f) (S1.al A) r3
theorem ev_cb1 {r : List V → Hp → VK → Prop} {a c : PyData} (h1 : EV ta ρ (.d a) ρ1) (h : CallD r [a] c) : EV (tCB r (tCons ta tNil)) ρ (.d c) ρ1 := ev_cb (as := [a]) (ea_cons h1 ea_nil) h
theorem ev_cb2 {r : List V → Hp → VK → Prop} {a b c : PyData} (h1 : EV ta ρ (.d a) ρ1) (h2 : EV tb ρ1 (.d b) ρ2) (h : CallD r [a, b] c) : EV (tCB r (tCons ta (tCons tb tNil))) ρ (.d c) ρ2 := ev_cb (as := [a, b]) (ea_cons h1 (ea_cons h2 ea_nil)) h
theorem ev_cw {r : List V → Hp → VK → Prop} {c : Cont} {d : PyData} (h1 : EW ta ρ c ρ1) (h : CallW r c d) : EV (tCB r (tCons ta tNil)) ρ (.d d) ρ1 := fun e F σ H Q S k =>
  h1 e F σ H _ S fun F1 H1 a o f1 S1 r1 q => h F1 H1 Q a o S1.sub r1 q fun F3 H3 u A r3 => k F3 H3 u (f1.trans A.f) (S1.al A) r3
/-- tests -/
theorem et_test {b : Bool} (h : EV ta ρ (.d (.bool b)) ρ1) : ET (tTest ta) ρ b ρ1 := fun e F σ H Q S k => h e F σ H _ S fun F' H' v f S' r => by cases r; exact ⟨b, rfl, k F' H' f S'⟩
theorem et_b {b : Bool} (h : EV ta ρ (.d (.bool b)) ρ1) : ET (tB ta) ρ b ρ1 := fun e F σ H Q S k => h e F σ H _ S fun F' H' v f S' r => by cases r; exact ⟨b, rfl, k F' H' f S'⟩
theorem et_not {t : TT} {b : Bool} (h : ET t ρ b ρ1) : ET (tNot t) ρ (!b) ρ1 := fun e F σ H Q S k => h e F σ H _ S fun F' H' f S' => k F' H' f S'
theorem et_and {t u : TT} {a b : Bool} (h1 : ET t ρ a ρ1) (h2 : a = true → ET u ρ1 b ρ2) : ET (tAnd t u) ρ (a && b) (bif a then ρ2 else ρ1) := fun e F σ H Q S k => h1 e F σ H _ S fun F1 H1 f1 S1 => by
  cases a with
  | true => rw [if_pos rfl]; exact h2 rfl e F1 σ H1 Q S1 fun F2 H2 f2 S2 => k F2 H2 (f1.trans f2) S2
  | false => rw [if_neg (by decide)]; exact k F1 H1 f1 S1
theorem et_or {t u : TT} {a b : Bool} (h1 : ET t ρ a ρ1) (h2 : a = false → ET u ρ1 b ρ2) : ET (tOr t u) ρ (a || b) (bif a then ρ1 else ρ2) := fun e F σ H Q S k => h1 e F σ H _ S fun F1 H1 f1 S1 => by
  cases a with
  | true => rw [if_pos rfl]; exact k F1 H1 f1 S1
  | false => rw [if_neg (by decide)]; exact h2 rfl e F1 σ H1 Q S1 fun F2 H2 f2 S2 => k F2 H2 (f1.trans f2) S2
theorem et_and0 {t u : TT} {a b : Bool} (h1 : ET t ρ a ρ) (h2 : a = true → ET u ρ b ρ) : ET (tAnd t u) ρ (a && b) ρ := by
  have := et_and h1 h2; cases a <;> exact this
theorem et_or0 {t u : TT} {a b : Bool} (h1 : ET t ρ a ρ) (h2 : a = false → ET u ρ b ρ) : ET (tOr t u) ρ (a || b) ρ := by
  have := et_or h1 h2; cases a <;> exact this
theorem ev_and {a b : Bool} (h1 : EV ta ρ (.d (.bool a)) ρ1) (h2 : a = true → EV tb ρ1 (.d (.bool b)) ρ2) : EV (tAndV ta tb) ρ (.d (.bool (a && b))) (bif a then ρ2 else ρ1) := fun e F σ H Q S k => h1 e F σ H _ S fun F1 H1 v f1 S1 r1 => by
  cases r1
  cases a with
  | true => exact ⟨true, rfl, by rw [if_pos rfl]; exact h2 rfl e F1 σ H1 Q S1 fun F2 H2 v f2 S2 r2 => k F2 H2 v (f1.trans f2) S2 r2⟩
  | false => exact ⟨false, rfl, by rw [if_neg (by decide)]; exact k F1 H1 _ f1 S1 (.bl false)⟩
theorem ev_or {a b : Bool} (h1 : EV ta ρ (.d (.bool a)) ρ1) (h2 : a = false → EV tb ρ1 (.d (.bool b)) ρ2) : EV (tOrV ta tb) ρ (.d (.bool (a || b))) (bif a then ρ1 else ρ2) := fun e F σ H Q S k => h1 e F σ H _ S fun F1 H1 v f1 S1 r1 => by
  cases r1
  cases a with
  | true => exact ⟨true, rfl, by rw [if_pos rfl]; exact k F1 H1 _ f1 S1 (.bl true)⟩
  | false => exact ⟨false, rfl, by rw [if_neg (by decide)]; exact h2 rfl e F1 σ H1 Q S1 fun F2 H2 v f2 S2 r2 => k F2 H2 v (f1.trans f2) S2 r2⟩
theorem ev_and0 {a b : Bool} (h1 : EV ta ρ (.d (.bool a)) ρ) (h2 : a = true → EV tb ρ (.d (.bool b)) ρ) : EV (tAndV ta tb) ρ (.d (.bool (a && b))) ρ := by
  have := ev_and h1 h2; cases a <;> exact this
theorem ev_or0 {a b : Bool} (h1 : EV ta ρ (.d (.bool a)) ρ) (h2 : a = false → EV tb ρ (.d (.bool b)) ρ) : EV (tOrV ta tb) ρ (.d (.bool (a || b))) ρ := by
  have := ev_or h1 h2; cases a <;> exact this
theorem ev_not {a : Bool} (h1 : EV ta ρ (.d (.bool a)) ρ1) : EV (tNotV ta) ρ (.d (.bool (!a))) ρ1 := fun e F σ H Q S k => h1 e F σ H _ S fun F1 H1 v f1 S1 r1 => by
  cases r1; exact ⟨a, rfl, k F1 H1 _ f1 S1 (.bl _)⟩
theorem ev_if {t : TT} {b : Bool} (h : ET t ρ b ρ1) (h1 : b = true → EV ta ρ1 x ρ2) (h2 : b = false → EV tb ρ1 x ρ2) : EV (tIf t ta tb) ρ x ρ2 := fun e F σ H Q S k => h e F σ H _ S fun F1 H1 f1 S1 => by
  cases b with
  | true => rw [if_pos rfl]; exact h1 rfl e F1 σ H1 Q S1 fun F2 H2 v f2 S2 r => k F2 H2 v (f1.trans f2) S2 r
  | false => rw [if_neg (by decide)]; exact h2 rfl e F1 σ H1 Q S1 fun F2 H2 v f2 S2 r => k F2 H2 v (f1.trans f2) S2 r
/-- displays -/
theorem ev_tup {t : TA} {ds : List PyData} (h : EA t ρ (ds.map fun d => Src.d (.d d)) ρ1) (hl : ds.length ≤ sizeLine) : EV (tTup t) ρ (.d (.tuple ds)) ρ1 := fun e F σ H Q S k => h e F σ H _ S fun F1 H1 vs f1 S1 r1 => by
  have r := r1.data
  refine ⟨by rw [r.length]; exact hl, fun p hp => ?_⟩
  have A := Al.one (o := .tup vs) S1.sub hp
  exact k _ _ _ (f1.trans A.f) (S1.al A) (.tup upd_same (r.mono A.f))
theorem Sta.fresh {e : En} {F H : Hp} {σ : L2.St} (S : Sta e F ρ σ H) {p : Addr} (hp : H p = none) : ∀ (j : Nat) l c', ρ[j]? = some (.own l c') → σ[j]? ≠ some (some (.ref p)) := fun j l c' h z => by
  obtain ⟨a, o, e1, e2, e3, _⟩ := S.own j l c' h
  rw [e1] at z; cases z
  rw [hp] at e3; cases e3
theorem eo_lst {t : TA} {ds : List PyData} (h : EA t ρ (ds.map fun d => Src.d (.d d)) ρ1) (hl : ds.length ≤ sizeLine) : EO (tLst t) ρ (.lst ds) ρ1 := fun e F σ H Q S k => h e F σ H _ S fun F1 H1 vs f1 S1 r1 => by
  have r := r1.data
  refine ⟨by rw [r.length]; exact hl, fun p hp => ?_⟩
  exact k F1 _ p _ f1 (S1.alloc hp) (S1.sub.none hp) upd_same ⟨vs, rfl, r⟩ (S1.h0 hp) (S1.fresh hp)
theorem eo_dk : EO tDNewK ρ (.dk []) ρ := fun e F σ H Q S k p hp => k F _ p _ .rfl (S.alloc hp) (S.sub.none hp) upd_same ⟨[], rfl, .nil⟩ (S.h0 hp) (S.fresh hp)
theorem eo_dt : EO tDNewT ρ (.dt []) ρ := fun e F σ H Q S k p hp => k F _ p _ .rfl (S.alloc hp) (S.sub.none hp) upd_same ⟨[], rfl, .nil⟩ (S.h0 hp) (S.fresh hp)
/-! ### statements -/
def sq (u : TS) (P : Out → Prop) : Out → Prop
  | .nx ρ => WP u ρ P
  | o => P o
theorem wp_seq {t u : TS} (h : WP t ρ (sq u P)) : WP (tSeq t u) ρ P := fun e F σ H D hX S k => h e F σ H _ hX S fun o ho => by
  cases o with
  | nx ρ' => exact fun F' σ' H' f S' => ho e F' σ' H' D hX S' fun o' p => (k o' p).mono f
  | bk ρ' => exact k _ ho
  | ct ρ' => exact k _ ho
  | rt x ρ' => exact k _ ho
  | ro x ρ' => exact k _ ho
  | ex W C fld ρ' => exact k _ ho
theorem wp_next (h : P (.nx ρ)) : WP tNext ρ P := fun e F σ H D hX S k => k _ h F σ H .rfl S
theorem wp_break (h : P (.bk ρ)) : WP tBreak ρ P := fun e F σ H D hX S k => k _ h F σ H .rfl S
theorem wp_cont (h : P (.ct ρ)) : WP tCont ρ P := fun e F σ H D hX S k => k _ h F σ H .rfl S
theorem WP.imp {t : TS} {P' : Out → Prop} (h : WP t ρ P) (k : ∀ o, P o → P' o) : WP t ρ P' := fun e F σ H D hX S q => h e F σ H D hX S fun o p => q o (k o p)
theorem WP.le {t : TS} (h : WP t ρ1 P) (l : Le ρ ρ1) : WP t ρ P := fun e F σ H D hX S q => h e F σ H D hX (S.le l) q
theorem wp_freeze {t : TS} {i : Nat} {c : Cont} (hi : ρ[i]? = some (.own true c)) (h : WP t (ρ.set i (.val (.c c))) P) : WP t ρ P := fun e F σ H D hX S q => by
  obtain ⟨F', f, S'⟩ := S.freeze hi hX
  exact h e F' σ H D hX S' fun o p => (q o p).mono f
theorem wp_freezeL {t : TS} {i : Nat} {ds : List PyData} (hi : ρ[i]? = some (.own true (.lst ds))) (h : WP t (ρ.set i (.val (.d (.list ds)))) P) : WP t ρ P := fun e F σ H D hX S q => by
  obtain ⟨F', f, S'⟩ := S.freeze hi hX
  have hil : i < ρ.length := (List.getElem?_eq_some_iff.mp hi).1
  refine h e F' σ H D hX ?_ fun o p => (q o p).mono f
  exact { sub := S'.sub, f0 := S'.f0, new := S'.new, keep := S'.keep, there := S'.there
          len := by rw [S'.len]; simp
          val := fun j x hx => by
            rcases get_set hx with ⟨rfl, e1, hl⟩ | ⟨hn, e1⟩
            · cases e1
              obtain ⟨v, e2, r⟩ := S'.val i _ (List.getElem?_set_self hil)
              exact ⟨v, e2, r.lst⟩
            · exact S'.val j x (by rw [List.getElem?_set_ne hn]; exact e1)
          own := fun j l x hx => by
            rcases get_set hx with ⟨rfl, e1, hl⟩ | ⟨hn, e1⟩
            · cases e1
            · exact S'.own j l x (by rw [List.getElem?_set_ne hn]; exact e1)
          sep := fun j k lj lk cj ck h1 h2 hn => by
            rcases get_set h1 with ⟨_, e1, _⟩ | ⟨n1, e1⟩
            · cases e1
            rcases get_set h2 with ⟨_, e2, _⟩ | ⟨n2, e2⟩
            · cases e2
            exact S'.sep j k lj lk cj ck (by rw [List.getElem?_set_ne n1]; exact e1) (by rw [List.getElem?_set_ne n2]; exact e2) hn }
theorem wp_asg {i : Nat} (h : EV ta ρ x ρ1) (k : P (.nx (ρ1.set i (.val x)))) : WP (tAsg ta (gName i)) ρ P := fun e F σ H D hX S q => h e F σ H _ S fun F' H' v f S' r => q _ k F' _ H' f (S'.setV i r)
theorem wp_asgO {i : Nat} {c : Cont} (h : EO ta ρ c ρ1) (k : P (.nx (ρ1.set i (.own true c)))) : WP (tAsg ta (gName i)) ρ P := fun e F σ H D hX S q => h e F σ H _ S fun F' H' a o f S' e1 e2 r e3 hs =>
  q _ k F' _ H' f (S'.setO i e1 e2 r e3 hs)
theorem wp_ret (h : EV ta ρ x ρ1) (k : P (.rt x ρ1)) : WP (tRet ta) ρ P := fun e F σ H D hX S q => h e F σ H _ S fun F' H' v f S' r => q _ k F' σ H' v f S' r
theorem wp_retO {c : Cont} (h : EO ta ρ c ρ1) (k : P (.ro c ρ1)) : WP (tRet ta) ρ P := fun e F σ H D hX S q => h e F σ H _ S fun F' H' a o f S' e1 e2 r e3 hs => q _ k F' σ H' a o f S' e1 e2 r e3
theorem wp_retV {i : Nat} {c : Cont} (hi : ρ[i]? = some (.own true c)) (k : P (.ro c ρ)) : WP (tRet (tVar i)) ρ P := fun e F σ H D hX S q => by
  obtain ⟨a, o, e1, e2, e3, r, _, z⟩ := S.own i true c hi
  rw [if_pos rfl] at z
  refine ⟨.ref a, e1, q _ k F σ H a o .rfl S e2 e3 r ?_⟩
  rcases z with z | z
  · exact z
  · exact absurd z (hX a)
theorem wp_retN (k : P (.rt (.d .none) ρ)) : WP tRetN ρ P := fun e F σ H D hX S q => q _ k F σ H _ .rfl S Rp.non
theorem wp_drop (h : EV ta ρ x ρ1) (k : P (.nx ρ1)) : WP (tDrop ta) ρ P := fun e F σ H D hX S q => h e F σ H _ S fun F' H' v f S' r => q _ k F' σ H' f S'
theorem wp_if {c : TT} {t u : TS} {b : Bool} (h : ET c ρ b ρ1) (h1 : b = true → WP t ρ1 P) (h2 : b = false → WP u ρ1 P) : WP (tIfS c t u) ρ P := fun e F σ H D hX S q => h e F σ H _ S fun F' H' f S' => by
  cases b with
  | true => rw [if_pos rfl]; exact h1 rfl e F' σ H' D hX S' fun o p => (q o p).mono f
  | false => rw [if_neg (by decide)]; exact h2 rfl e F' σ H' D hX S' fun o p => (q o p).mono f
end Pw

set_option Elab.async false
set_option linter.all false
set_option maxRecDepth 100000
namespace Pw
open PySem L2
inductive Arg where
  | d (x : Val)
  | r (c : Cont)
inductive Ret where
  | v (x : Val)
  | o (c : Cont)
def ArgRp (F H : Hp) : Arg → V → Prop
  | .d x, v => RpV F v x
  | .r c, v => ∃ a o, v = .ref a ∧ F a = none ∧ H a = some o ∧ CRp F c o
inductive ArgsRp (F H : Hp) : List Arg → List V → Prop
  | nil : ArgsRp F H [] []
  | cons {x : Arg} {v : V} {as : List Arg} {vs : List V} : ArgRp F H x v → ArgsRp F H as vs → ArgsRp F H (x :: as) (v :: vs)
theorem ArgsRp.length {F H : Hp} : ∀ {as : List Arg} {vs : List V}, ArgsRp F H as vs → vs.length = as.length
  | _, _, .nil => rfl
  | _, _, .cons _ t => by simp [t.length]
/-- the i-th argument is handed in to be changed, at a -/
def RefAt (as : List Arg) (vs : List V) (i : Nat) (a : Addr) : Prop := (∃ c, as[i]? = some (.r c)) ∧ vs[i]? = some (.ref a)
def Sep (as : List Arg) (vs : List V) : Prop := ∀ i j a, RefAt as vs i a → RefAt as vs j a → i = j
/-- what the changed arguments hold behind the call: by place -/
def OutsRp (F' H' : Hp) (as : List Arg) (vs : List V) (outs : Nat → Cont) : Prop := ∀ i a, RefAt as vs i a → F' a = none ∧ ∃ o, H' a = some o ∧ CRp F' (outs i) o
def RetRp (F' H' H : Hp) : Ret → V → Prop
  | .v x, v => RpV F' v x
  | .o c, v => ∃ a o, v = .ref a ∧ F' a = none ∧ H a = none ∧ H' a = some o ∧ CRp F' c o
/-- a def's promise over data: g tells the answer, and what the changed arguments then hold -/
def spG (g : List Arg → Ret → (Nat → Cont) → Prop) : Sp := fun vs H Q _ => ∃ F as ret outs, Sub F H ∧ ArgsRp F H as vs ∧ Sep as vs ∧ g as ret outs ∧
  ∀ F' H' v, FSub F F' → (∀ a, F' a ≠ none → F a ≠ none ∨ H a = none) → Sub F' H' → (∀ a o, H a = some o → (¬ ∃ i, RefAt as vs i a) → H' a = some o) → (∀ a, H a ≠ none → H' a ≠ none) →
    RetRp F' H' H ret v → OutsRp F' H' as vs outs → Q v H'
def slotOf : Arg → Slot
  | .d x => .val x
  | .r c => .own false c
theorem ArgsRp.get {F H : Hp} : ∀ {as : List Arg} {vs : List V} {i : Nat} {x : Arg}, ArgsRp F H as vs → as[i]? = some x → ∃ v, vs[i]? = some v ∧ ArgRp F H x v
  | _, _, _, _, .nil, h => by simp at h
  | _, _, 0, _, .cons r _, h => by simp at h; subst h; exact ⟨_, rfl, r⟩
  | _, _, i + 1, _, .cons _ t, h => by
    obtain ⟨v, e, r⟩ := t.get (i := i) (by simpa using h)
    exact ⟨v, by simpa using e, r⟩
/-- the slots at a def's entry -/
def rho (N : List Str) (as : List Arg) : List Slot := as.map slotOf ++ List.replicate (N.length - as.length) .non
open Classical in
noncomputable def enOf (F H : Hp) (as : List Arg) (vs : List V) (A : ArgsRp F H as vs) : En where
  F0 := F
  H0 := H
  P := fun a => ∃ i, RefAt as vs i a
  X := fun _ => False
  Ad := fun i => if h : ∃ a, RefAt as vs i a then some h.choose else none
  pH := fun a ⟨i, ⟨c, h1⟩, h2⟩ => by
    obtain ⟨v, e, r⟩ := A.get h1
    rw [h2] at e; cases e
    obtain ⟨b, o, e, _, h, _⟩ := r
    cases e; rw [h]; simp
  xP := fun _ h => h.elim
  aP := fun i a h => by
    by_cases z : ∃ a, RefAt as vs i a
    · rw [dif_pos z] at h
      cases h
      exact ⟨i, z.choose_spec⟩
    · rw [dif_neg z] at h; cases h
open Classical in
theorem enOf_ad {F H : Hp} {as : List Arg} {vs : List V} {A : ArgsRp F H as vs} {i : Nat} {a : Addr} (h : RefAt as vs i a) : (enOf F H as vs A).Ad i = some a := by
  have z : ∃ a, RefAt as vs i a := ⟨a, h⟩
  show (if h : ∃ a, RefAt as vs i a then some h.choose else none) = some a
  rw [dif_pos z]
  have y := z.choose_spec.2
  rw [h.2] at y
  cases y
  rfl
theorem rho_get {N : List Str} {as : List Arg} {i : Nat} {s : Slot} (h : (rho N as)[i]? = some s) (hs : s ≠ .non) : ∃ x, as[i]? = some x ∧ s = slotOf x := by
  unfold rho at h
  by_cases z : i < (as.map slotOf).length
  · rw [List.getElem?_append_left z, List.getElem?_map] at h
    cases y : as[i]? with
    | none => rw [y] at h; cases h
    | some x => rw [y] at h; exact ⟨x, rfl, (Option.some.inj h).symm⟩
  · rw [List.getElem?_append_right (Nat.le_of_not_lt z)] at h
    exact absurd (List.eq_of_mem_replicate (List.mem_of_getElem? h)) hs
theorem start_get {N : List Str} {vs : List V} {i : Nat} {v : V} (h : vs[i]? = some v) : (L2.start N vs)[i]? = some (some v) := by
  unfold L2.start
  have z : i < (vs.map some).length := by
    rw [List.length_map]; exact (List.getElem?_eq_some_iff.mp h).1
  rw [List.getElem?_append_left z, List.getElem?_map, h]; rfl
theorem sta0 {F H : Hp} {as : List Arg} {vs : List V} {N : List Str} (S : Sub F H) (A : ArgsRp F H as vs) (sp : Sep as vs) : Sta (enOf F H as vs A) F (rho N as) (L2.start N vs) H where
  sub := S
  f0 := .rfl
  new := fun a h => .inl h
  keep := fun a o h _ => h
  there := fun a h => h
  len := by
    unfold L2.start rho
    rw [List.length_append, List.length_append, List.length_map, List.length_map, List.length_replicate, List.length_replicate, A.length]
  val := fun i x h => by
    obtain ⟨y, e, es⟩ := rho_get h (by simp)
    obtain ⟨v, e2, r⟩ := A.get e
    cases y with
    | d z => cases es; exact ⟨v, start_get e2, r⟩
    | r c => cases es
  own := fun i l c h => by
    obtain ⟨y, e, es⟩ := rho_get h (by simp)
    obtain ⟨v, e2, r⟩ := A.get e
    cases y with
    | d z => cases es
    | r c =>
      cases es
      obtain ⟨a, o, ev, h1, h2, h3⟩ := r
      subst ev
      have ra : RefAt as vs i a := ⟨⟨c, e⟩, e2⟩
      exact ⟨a, o, start_get e2, h1, h2, h3, .inr ⟨i, ra⟩, by rw [if_neg (by decide)]; exact enOf_ad ra⟩
  sep := fun i j li lj ci cj h1 h2 hn => by
    obtain ⟨y1, e1, es1⟩ := rho_get h1 (by simp)
    obtain ⟨y2, e2, es2⟩ := rho_get h2 (by simp)
    obtain ⟨v1, f1, r1⟩ := A.get e1
    obtain ⟨v2, f2, r2⟩ := A.get e2
    cases y1 with
    | d z => cases es1
    | r c1 =>
    cases y2 with
    | d z => cases es2
    | r c2 =>
    obtain ⟨a, o, ev, _⟩ := r1
    obtain ⟨b, u, ew, _⟩ := r2
    subst ev; subst ew
    rw [start_get f1, start_get f2]
    intro q
    cases q
    exact hn (sp i j a ⟨⟨c1, e1⟩, f1⟩ ⟨⟨c2, e2⟩, f2⟩)
/-- what a def's run must come to -/
def Good (as : List Arg) (ret : Ret) (outs : Nat → Cont) : Out → Prop
  | .rt x ρ => ret = .v x ∧ ∀ (i : Nat) c, as[i]? = some (.r c) → ρ[i]? = some (.own false (outs i))
  | .ro c ρ => (ret = .o c ∨ ret = .v (.c c) ∨ ∃ ds, c = .lst ds ∧ ret = .v (.d (.list ds))) ∧ ∀ (i : Nat) c, as[i]? = some (.r c) → ρ[i]? = some (.own false (outs i))
  | .nx ρ => ret = .v (.d .none) ∧ ∀ (i : Nat) c, as[i]? = some (.r c) → ρ[i]? = some (.own false (outs i))
  | .bk _ => False
  | .ct _ => False
  | .ex _ _ _ _ => False
theorem wp_def {g : List Arg → Ret → (Nat → Cont) → Prop} {vs : List V} {H : Hp} {Q : VK} {E : XK} {N : List Str} {t : TS} (h : spG g vs H Q E)
    (hb : ∀ as ret outs, g as ret outs → as.length = vs.length → WP t (rho N as) (Good as ret outs)) : t { nx := fun _ H' => Q .non H', rt := Q } (L2.start N vs) H := by
  obtain ⟨F, as, ret, outs, S, A, sp, hg, k⟩ := h
  have outs_of : ∀ {F' H' : Hp} {ρ : List Slot} {σ : L2.St}, Sta (enOf F H as vs A) F' ρ σ H' → (∀ (i : Nat) c, as[i]? = some (.r c) → ρ[i]? = some (.own false (outs i))) → OutsRp F' H' as vs outs := fun S' ho i a ⟨⟨c, h1⟩, h2⟩ => by
    obtain ⟨b, o, e1, e2, e3, r, _, z⟩ := S'.own i false _ (ho i c h1)
    rw [if_neg (by decide), enOf_ad ⟨⟨c, h1⟩, h2⟩] at z
    cases z
    exact ⟨e2, o, e3, r⟩
  refine hb as ret outs hg A.length.symm (enOf F H as vs A) F (L2.start N vs) H _ (fun _ z => z) (sta0 S A sp) fun o ho => ?_
  cases o with
  | bk _ => exact ho.elim
  | ct _ => exact ho.elim
  | ex _ _ _ _ => exact ho.elim
  | nx ρ =>
    intro F' σ' H' f S'
    obtain ⟨e, ho⟩ := ho
    subst e
    exact k F' H' _ f S'.new S'.sub S'.keep S'.there Rp.non (outs_of S' ho)
  | rt x ρ =>
    intro F' σ' H' v f S' r
    obtain ⟨e, ho⟩ := ho
    subst e
    exact k F' H' _ f S'.new S'.sub S'.keep S'.there r (outs_of S' ho)
  | ro c ρ =>
    intro F' σ' H' a o f S' e1 e2 r e3
    obtain ⟨e, ho⟩ := ho
    have key : ∀ x, RpV (upd F' a o) (.ref a) x → ret = .v x → Q (.ref a) H' := fun x rx ex => by
      subst ex
      have fs : FSub F' (upd F' a o) := fun b u h => by rw [upd_ne (ne_of_none h e1)]; exact h
      refine k (upd F' a o) H' _ (f.trans fs) (fun b h => ?_) (fun b u h => ?_) S'.keep S'.there rx fun i b rb => ?_
      · by_cases z : b = a
        · subst z; exact .inr e3
        · rw [upd_ne z] at h; exact S'.new b h
      · by_cases z : b = a
        · subst z; rw [upd_same] at h; cases h; exact .inl e2
        · rw [upd_ne z] at h; exact S'.sub b u h
      · obtain ⟨g1, u, g2, g3⟩ := outs_of S' ho i b rb
        have z : b ≠ a := fun z => by
          subst z
          exact (enOf F H as vs A).pH b ⟨i, rb⟩ e3
        exact ⟨by rw [upd_ne z]; exact g1, u, g2, g3.mono fs⟩
    have fs : FSub F' (upd F' a o) := fun b u h => by rw [upd_ne (ne_of_none h e1)]; exact h
    rcases e with e | e | ⟨ds, ec, e⟩
    · subst e
      exact k F' H' _ f S'.new S'.sub S'.keep S'.there ⟨a, o, rfl, e1, e3, e2, r⟩ (outs_of S' ho)
    · exact key (.c c) (show RpV (upd F' a o) (.ref a) (.c c) from ⟨a, o, rfl, upd_same, r.mono fs⟩) e
    · subst ec
      exact key _ (RpV.lst (show RpV (upd F' a o) (.ref a) (.c (.lst ds)) from ⟨a, o, rfl, upd_same, r.mono fs⟩)) e

/-! ### the caller's side -/
def argOf (ρ : List Slot) : Src → Arg
  | .d x => .d x
  | .s i => match ρ[i]? with
    | some (.own _ c) => .r c
    | _ => .d (.d .none)
/-- the slots that are handed over to be changed are one's own, each once -/
def SrcOk (ρ : List Slot) (ss : List Src) : Prop := (∀ (k i : Nat), ss[k]? = some (.s i) → ∃ l c, ρ[i]? = some (.own l c)) ∧ ∀ (j k i : Nat), ss[j]? = some (.s i) → ss[k]? = some (.s i) → j = k
/-- the slots behind the call -/
def putOuts (outs : Nat → Cont) : Nat → List Src → List Slot → List Slot
  | _, [], ρ => ρ
  | k, .d _ :: ss, ρ => putOuts outs (k + 1) ss ρ
  | k, .s i :: ss, ρ => putOuts outs (k + 1) ss (match ρ[i]? with
    | some (.own l _) => ρ.set i (.own l (outs k))
    | _ => ρ)
theorem putOuts_len {outs : Nat → Cont} : ∀ {ss : List Src} {k : Nat} {ρ : List Slot}, (putOuts outs k ss ρ).length = ρ.length
  | [], _, _ => rfl
  | .d _ :: ss, k, ρ => putOuts_len (ss := ss)
  | .s i :: ss, k, ρ => by
    unfold putOuts
    rw [putOuts_len (ss := ss)]
    split <;> simp
/-- slot i behind: untouched, or the out of the last place that names it -/
theorem putOuts_get {outs : Nat → Cont} : ∀ {ss : List Src} {k : Nat} {ρ : List Slot} {i : Nat} {s : Slot}, (putOuts outs k ss ρ)[i]? = some s →
    (ρ[i]? = some s ∧ ∀ (j : Nat), ss[j]? = some (Src.s i) → ∀ l c, ρ[i]? ≠ some (Slot.own l c)) ∨ ∃ (j : Nat) (l : Bool) (c : Cont), ss[j]? = some (Src.s i) ∧ ρ[i]? = some (.own l c) ∧ s = .own l (outs (k + j)) := by
  intro ss
  induction ss with
  | nil => intro k ρ i s h; exact .inl ⟨h, fun j z => by simp at z⟩
  | cons x ss ih =>
    intro k ρ i s h
    cases x with
    | d y =>
      rcases ih (k := k + 1) h with ⟨h1, h2⟩ | ⟨j, l, c, h1, h2, h3⟩
      · refine .inl ⟨h1, fun j z => ?_⟩
        cases j with
        | zero => simp at z
        | succ j => exact h2 j (by simpa using z)
      · exact .inr ⟨j + 1, l, c, by simpa using h1, h2, by rw [h3]; congr 2; omega⟩
    | s m =>
      unfold putOuts at h
      cases hm : ρ[m]? with
      | none =>
        rw [hm] at h
        rcases ih (k := k + 1) h with ⟨h1, h2⟩ | ⟨j, l, c, h1, h2, h3⟩
        · refine .inl ⟨h1, fun j z => ?_⟩
          cases j with
          | zero => simp at z; subst z; rw [hm]; simp
          | succ j => exact h2 j (by simpa using z)
        · exact .inr ⟨j + 1, l, c, by simpa using h1, h2, by rw [h3]; congr 2; omega⟩
      | some w =>
        cases w with
        | non =>
          rw [hm] at h
          rcases ih (k := k + 1) h with ⟨h1, h2⟩ | ⟨j, l, c, h1, h2, h3⟩
          · refine .inl ⟨h1, fun j z => ?_⟩
            cases j with
            | zero => simp at z; subst z; rw [hm]; simp
            | succ j => exact h2 j (by simpa using z)
          · exact .inr ⟨j + 1, l, c, by simpa using h1, h2, by rw [h3]; congr 2; omega⟩
        | val v =>
          rw [hm] at h
          rcases ih (k := k + 1) h with ⟨h1, h2⟩ | ⟨j, l, c, h1, h2, h3⟩
          · refine .inl ⟨h1, fun j z => ?_⟩
            cases j with
            | zero => simp at z; subst z; rw [hm]; simp
            | succ j => exact h2 j (by simpa using z)
          · exact .inr ⟨j + 1, l, c, by simpa using h1, h2, by rw [h3]; congr 2; omega⟩
        | own l0 c0 =>
          rw [hm] at h
          have hml : m < ρ.length := (List.getElem?_eq_some_iff.mp hm).1
          rcases ih (k := k + 1) h with ⟨h1, h2⟩ | ⟨j, l, c, h1, h2, h3⟩
          · rcases get_set h1 with ⟨rfl, e, _⟩ | ⟨n, e⟩
            · exact .inr ⟨0, l0, c0, rfl, hm, by rw [e]; rfl⟩
            · refine .inl ⟨e, fun j z => ?_⟩
              cases j with
              | zero => simp at z; exact absurd z n
              | succ j =>
                have := h2 j (by simpa using z)
                rw [List.getElem?_set_ne n] at this
                exact this
          · rcases get_set h2 with ⟨rfl, e, _⟩ | ⟨n, e⟩
            · cases e
              exact .inr ⟨j + 1, l0, c0, by simpa using h1, hm, by rw [h3]; congr 2; omega⟩
            · exact .inr ⟨j + 1, l, c, by simpa using h1, e, by rw [h3]; congr 2; omega⟩
theorem Srcs.args {e : En} {F H : Hp} {ρ : List Slot} {σ : L2.St} (S : Sta e F ρ σ H) : ∀ {ss : List Src} {vs : List V}, Srcs F σ ss vs → (∀ (k i : Nat), ss[k]? = some (.s i) → ∃ l c, ρ[i]? = some (.own l c)) → ArgsRp F H (ss.map (argOf ρ)) vs
  | _, _, .nil, _ => .nil
  | .d x :: ss, _, .cons r t, h => .cons r (t.args S fun k i z => h (k + 1) i (by simpa using z))
  | .s i :: ss, _, .cons (v := v) r t, h => by
    obtain ⟨l, c, hi⟩ := h 0 i rfl
    obtain ⟨a, o, e1, e2, e3, q, _⟩ := S.own i l c hi
    have r : σ[i]? = some (some v) := r
    rw [r] at e1
    cases e1
    refine .cons ?_ (t.args S fun k i z => h (k + 1) i (by simpa using z))
    show ArgRp F H (match ρ[i]? with
    | some (.own _ c) => .r c
    | _ => .d (.d .none)) (.ref a)
    rw [hi]
    exact ⟨a, o, rfl, e2, e3, q⟩
theorem Srcs.get {F : Hp} {σ : L2.St} : ∀ {ss : List Src} {vs : List V} {k : Nat} {v : V}, Srcs F σ ss vs → vs[k]? = some v → ∃ s, ss[k]? = some s ∧ SrcRp F σ s v
  | _, _, _, _, .nil, h => by simp at h
  | _, _, 0, _, .cons r _, h => by simp at h; subst h; exact ⟨_, rfl, r⟩
  | _, _, k + 1, _, .cons _ t, h => by
    obtain ⟨s, e, r⟩ := t.get (k := k) (by simpa using h)
    exact ⟨s, by simpa using e, r⟩
theorem Srcs.get' {F : Hp} {σ : L2.St} : ∀ {ss : List Src} {vs : List V} {k : Nat} {s : Src}, Srcs F σ ss vs → ss[k]? = some s → ∃ v, vs[k]? = some v ∧ SrcRp F σ s v
  | _, _, _, _, .nil, h => by simp at h
  | _, _, 0, _, .cons r _, h => by simp at h; subst h; exact ⟨_, rfl, r⟩
  | _, _, k + 1, _, .cons _ t, h => by
    obtain ⟨s, e, r⟩ := t.get' (k := k) (by simpa using h)
    exact ⟨s, by simpa using e, r⟩
theorem refAt_src {F : Hp} {ρ : List Slot} {σ : L2.St} {ss : List Src} {vs : List V} (hs : Srcs F σ ss vs) {k : Nat} {a : Addr} (h : RefAt (ss.map (argOf ρ)) vs k a) : ∃ i l c, ss[k]? = some (.s i) ∧ ρ[i]? = some (.own l c) ∧ σ[i]? = some (some (.ref a)) := by
  obtain ⟨⟨c, h1⟩, h2⟩ := h
  obtain ⟨s, e, r⟩ := hs.get h2
  rw [List.getElem?_map, e] at h1
  cases s with
  | d x => cases h1
  | s i =>
    have h1 : argOf ρ (.s i) = .r c := Option.some.inj h1
    have h1 : (match ρ[i]? with
    | some (.own _ c) => Arg.r c
    | _ => .d (.d .none)) = .r c := h1
    cases hi : ρ[i]? with
    | none => rw [hi] at h1; cases h1
    | some w =>
      rw [hi] at h1
      cases w with
      | non => cases h1
      | val _ => cases h1
      | own l c' => exact ⟨i, l, c', e, hi, r⟩
/-- behind a call -/
theorem Sta.call {e : En} {F H F' H' : Hp} {ρ : List Slot} {σ : L2.St} {ss : List Src} {vs : List V} {outs : Nat → Cont} (S : Sta e F ρ σ H) (hs : Srcs F σ ss vs) (ok : SrcOk ρ ss)
    (f : FSub F F') (new : ∀ a, F' a ≠ none → F a ≠ none ∨ H a = none) (sub : Sub F' H') (keep : ∀ a o, H a = some o → (¬ ∃ i, RefAt (ss.map (argOf ρ)) vs i a) → H' a = some o) (there : ∀ a, H a ≠ none → H' a ≠ none)
    (ho : OutsRp F' H' (ss.map (argOf ρ)) vs outs) : Sta e F' (putOuts outs 0 ss ρ) σ H' where
  sub := sub
  f0 := S.f0.trans f
  new := fun a h => by
    rcases new a h with q | q
    · exact S.new a q
    · exact .inr (S.h0 q)
  keep := fun a o h hp => by
    refine keep a o (S.keep a o h hp) fun ⟨k, hk⟩ => ?_
    obtain ⟨i, l, c, h1, h2, h3⟩ := refAt_src hs hk
    obtain ⟨b, u, e1, _, _, _, q, _⟩ := S.own i l c h2
    rw [h3] at e1; cases e1
    rcases q with q | q
    · rw [h] at q; cases q
    · exact hp q
  there := fun a h => there a (S.there a h)
  len := by rw [putOuts_len]; exact S.len
  val := fun i x h => by
    rcases putOuts_get h with ⟨h1, _⟩ | ⟨j, l, c, h1, h2, h3⟩
    · obtain ⟨v, e1, r⟩ := S.val i x h1
      exact ⟨v, e1, r.mono f⟩
    · cases h3
  own := fun i l c h => by
    rcases putOuts_get h with ⟨h1, h2⟩ | ⟨j, l', c', h1, h2, h3⟩
    · obtain ⟨a, o, e1, e2, e3, r, q⟩ := S.own i l c h1
      have nr : ¬ ∃ k, RefAt (ss.map (argOf ρ)) vs k a := fun ⟨k, hk⟩ => by
        obtain ⟨m, lm, cm, f1, f2, f3⟩ := refAt_src hs hk
        by_cases z : i = m
        · subst z; exact h2 k f1 l c h1
        · exact S.sep i m l lm c cm h1 f2 z (by rw [e1, f3])
      refine ⟨a, o, e1, ?_, keep a o e3 nr, r.mono f, q⟩
      cases y : F' a with
      | none => rfl
      | some u =>
        rcases new a (by rw [y]; simp) with q | q
        · exact absurd e2 q
        · rw [q] at e3; cases e3
    · cases h3
      obtain ⟨a, o, e1, e2, e3, r, q⟩ := S.own i l c' h2
      obtain ⟨v, f1, f2⟩ := hs.get' h1
      have f2 : σ[i]? = some (some v) := f2
      rw [f2] at e1; cases e1
      have ra : RefAt (ss.map (argOf ρ)) vs j a := ⟨⟨c', by rw [List.getElem?_map, h1]; show some (match ρ[i]? with | some (.own _ c) => Arg.r c | _ => .d (.d .none)) = some (Arg.r c'); rw [h2]⟩, f1⟩
      obtain ⟨g1, u, g2, g3⟩ := ho j a ra
      exact ⟨a, u, f2, g1, g2, by rw [Nat.zero_add]; exact g3, q⟩
  sep := fun i j li lj ci cj h1 h2 hn => by
    have k1 : ∃ l1 c1, ρ[i]? = some (.own l1 c1) := by
      rcases putOuts_get h1 with ⟨q, _⟩ | ⟨_, l, c, _, q, _⟩
      · exact ⟨_, _, q⟩
      · exact ⟨_, _, q⟩
    have k2 : ∃ l1 c1, ρ[j]? = some (.own l1 c1) := by
      rcases putOuts_get h2 with ⟨q, _⟩ | ⟨_, l, c, _, q, _⟩
      · exact ⟨_, _, q⟩
      · exact ⟨_, _, q⟩
    obtain ⟨l1, c1, z1⟩ := k1
    obtain ⟨l2, c2, z2⟩ := k2
    exact S.sep i j l1 l2 c1 c2 z1 z2 hn
theorem sep_of {e : En} {F H : Hp} {ρ : List Slot} {σ : L2.St} {ss : List Src} {vs : List V} (S : Sta e F ρ σ H) (hs : Srcs F σ ss vs) (ok : SrcOk ρ ss) : Sep (ss.map (argOf ρ)) vs := fun j k a h1 h2 => by
  obtain ⟨i, l, c, e1, e2, e3⟩ := refAt_src hs h1
  obtain ⟨m, lm, cm, f1, f2, f3⟩ := refAt_src hs h2
  by_cases z : i = m
  · subst z; exact ok.2 j k i e1 f1
  · exact absurd (by rw [e3, f3]) (S.sep i m l lm c cm e2 f2 z)
variable {ρ ρ1 ρ2 : List Slot} {x : Val} {t : TA} {E : XK} {ss : List Src} {g : List Arg → Ret → (Nat → Cont) → Prop} {outs : Nat → Cont}
theorem ev_call (ha : EA t ρ ss ρ1) (ok : SrcOk ρ1 ss) (hg : g (ss.map (argOf ρ1)) (.v x) outs) : EV (tCall (spG g) [] E t) ρ x (putOuts outs 0 ss ρ1) := fun e F σ H Q S k =>
  ha e F σ H _ S fun F1 H1 vs f1 S1 hs => by
    show spG g (vs ++ []) H1 Q E
    rw [List.append_nil]
    exact ⟨F1, _, _, _, S1.sub, hs.args S1 ok.1, sep_of S1 hs ok, hg, fun F' H' v f new sub keep there r ho => k F' H' v (f1.trans f) (S1.call hs ok f new sub keep there ho) r⟩
theorem eo_call {c : Cont} (ha : EA t ρ ss ρ1) (ok : SrcOk ρ1 ss) (hg : g (ss.map (argOf ρ1)) (.o c) outs) : EO (tCall (spG g) [] E t) ρ c (putOuts outs 0 ss ρ1) := fun e F σ H Q S k =>
  ha e F σ H _ S fun F1 H1 vs f1 S1 hs => by
    show spG g (vs ++ []) H1 Q E
    rw [List.append_nil]
    refine ⟨F1, _, _, _, S1.sub, hs.args S1 ok.1, sep_of S1 hs ok, hg, fun F' H' v f new sub keep there r ho => ?_⟩
    obtain ⟨a, o, e1, e2, e3, e4, r⟩ := r
    subst e1
    have S2 := S1.call hs ok f new sub keep there ho
    refine k F' H' a o (f1.trans f) S2 e2 e4 r (S1.h0 e3) fun j l c' h z => ?_
    have k1 : ∃ l1 c1, ρ1[j]? = some (.own l1 c1) := by
      rcases putOuts_get h with ⟨q, _⟩ | ⟨_, l, c, _, q, _⟩
      · exact ⟨_, _, q⟩
      · exact ⟨_, _, q⟩
    obtain ⟨l1, c1, z1⟩ := k1
    exact S1.fresh e3 j l1 c1 z1 z
/-- a def of data alone -/
def pureG (f : List PyData → PyData → Prop) : List Arg → Ret → (Nat → Cont) → Prop := fun as ret _ => ∃ ds y, as = (ds.map fun d => Arg.d (.d d)) ∧ f ds y ∧ ret = .v (.d y)
theorem putOuts_data {outs : Nat → Cont} : ∀ {ds : List PyData} {k : Nat} {ρ : List Slot}, putOuts outs k (ds.map fun d => Src.d (.d d)) ρ = ρ
  | [], _, _ => rfl
  | _ :: ds, k, ρ => putOuts_data (ds := ds)
theorem srcOk_data {ds : List PyData} : SrcOk ρ (ds.map fun d => Src.d (.d d)) := by
  have z : ∀ (k i : Nat), (ds.map fun d => Src.d (.d d))[k]? ≠ some (Src.s i) := fun k i h => by
    rw [List.getElem?_map] at h
    cases y : ds[k]? with
    | none => rw [y] at h; cases h
    | some w => rw [y] at h; cases h
  exact ⟨fun k i h => absurd h (z k i), fun j k i h => absurd h (z j i)⟩
theorem ev_pure {f : List PyData → PyData → Prop} {ds : List PyData} {y : PyData} (ha : EA t ρ (ds.map fun d => Src.d (.d d)) ρ1) (hf : f ds y) : EV (tCall (spG (pureG f)) [] E t) ρ (.d y) ρ1 := by
  have h := ev_call (E := E) (g := pureG f) (x := .d y) (outs := fun _ => .lst []) ha srcOk_data ⟨ds, y, by rw [List.map_map]; rfl, hf, rfl⟩
  rw [putOuts_data] at h
  exact h
def GoodP (y : PyData) : Out → Prop
  | .rt x _ => x = .d y
  | .ro (.lst ds) _ => y = .list ds
  | .nx _ => y = .none
  | _ => False
def rhoD (N : List Str) (ds : List PyData) : List Slot := ds.map (fun d => Slot.val (.d d)) ++ List.replicate (N.length - ds.length) .non
theorem wp_pure {f : List PyData → PyData → Prop} {vs : List V} {H : Hp} {Q : VK} {E : XK} {N : List Str} {t : TS} (h : spG (pureG f) vs H Q E)
    (hb : ∀ ds y, f ds y → ds.length = vs.length → WP t (rhoD N ds) (GoodP y)) : t { nx := fun _ H' => Q .non H', rt := Q } (L2.start N vs) H := by
  refine wp_def h fun as ret outs hg hl => ?_
  obtain ⟨ds, y, e1, e2, e3⟩ := hg
  subst e1; subst e3
  have e : rho N (ds.map fun d => Arg.d (.d d)) = rhoD N ds := by
    unfold rho rhoD
    rw [List.map_map, List.length_map]; rfl
  rw [e]
  refine (hb ds y e2 (by simpa using hl)).imp fun o ho => ?_
  have nr : ∀ (i : Nat) c, (ds.map fun d => Arg.d (.d d))[i]? ≠ some (Arg.r c) := fun i c h => by
    rw [List.getElem?_map] at h
    cases y : ds[i]? with
    | none => rw [y] at h; cases h
    | some w => rw [y] at h; cases h
  cases o with
  | nx ρ => exact ⟨by rw [show y = .none from ho], fun i c h => absurd h (nr i c)⟩
  | rt x ρ => exact ⟨by rw [show x = .d y from ho], fun i c h => absurd h (nr i c)⟩
  | ro c ρ => cases c with
    | lst zs =>
      have ho : y = .list zs := ho
      subst ho
      exact ⟨.inr (.inr ⟨zs, rfl, rfl⟩), fun i c h => absurd h (nr i c)⟩
    | dk _ => exact ho.elim
    | dt _ => exact ho.elim
  | bk ρ => exact ho.elim
  | ct ρ => exact ho.elim
  | ex _ _ _ _ => exact ho.elim
end Pw

set_option Elab.async false
set_option linter.all false
set_option maxRecDepth 100000
namespace Pw
open PySem L2
/-! ### targets -/
inductive RpVs (F : Hp) : List V → List Val → Prop
  | nil : RpVs F [] []
  | cons {v : V} {x : Val} {vs : List V} {xs : List Val} : RpV F v x → RpVs F vs xs → RpVs F (v :: vs) (x :: xs)
def sets : L2.St → List Nat → List V → L2.St
  | σ, i :: is, v :: vs => sets (σ.set i (some v)) is vs
  | σ, _, _ => σ
def setsR : List Slot → List Nat → List Val → List Slot
  | ρ, i :: is, x :: xs => setsR (ρ.set i (.val x)) is xs
  | ρ, _, _ => ρ
theorem Sta.sets {e : En} {F H : Hp} : ∀ {is : List Nat} {vs : List V} {xs : List Val} {ρ : List Slot} {σ : L2.St}, Sta e F ρ σ H → RpVs F vs xs → Sta e F (setsR ρ is xs) (Pw.sets σ is vs) H
  | [], _, _, _, _, S, _ => S
  | _ :: _, _, _, _, _, S, .nil => S
  | i :: is, _, _, _, _, S, .cons r t => Sta.sets (is := is) (S.setV i r) t
/-- the target g stores into the slots is; x falls into ys -/
def GT (g : TG) (is : List Nat) (x : Val) (ys : List Val) : Prop := ∀ F H v (Q : L2.St → Hp → Prop) σ, Sub F H → RpV F v x → (∀ vs, RpVs F vs ys → vs.length = is.length → Q (sets σ is vs) H) → g v σ H Q
def GTs (g : TGs) (is : List Nat) (xs : List Val) (ys : List Val) : Prop := ∀ F H vs (Q : L2.St → Hp → Prop) σ, Sub F H → RpVs F vs xs → (∀ ws, RpVs F ws ys → ws.length = is.length → Q (sets σ is ws) H) → g vs σ H Q
theorem gt_name {i : Nat} {x : Val} : GT (gName i) [i] x [x] := fun F H v Q σ _ r k => k [v] (.cons r .nil) rfl
theorem gts_nil : GTs gNil [] [] [] := fun F H vs Q σ _ r k => by cases r; exact ⟨rfl, k [] .nil rfl⟩
theorem sets_app : ∀ {is js : List Nat} {vs ws : List V} {σ : L2.St}, vs.length = is.length → sets (sets σ is vs) js ws = sets σ (is ++ js) (vs ++ ws)
  | [], _, [], _, _, _ => rfl
  | i :: is, _, v :: vs, _, _, h => sets_app (is := is) (by simpa using h)
theorem RpVs.append {F : Hp} : ∀ {vs ws : List V} {xs ys : List Val}, RpVs F vs xs → RpVs F ws ys → RpVs F (vs ++ ws) (xs ++ ys)
  | _, _, _, _, .nil, s => s
  | _, _, _, _, .cons r t, s => .cons r (t.append s)
theorem gts_cons {g : TG} {u : TGs} {is js : List Nat} {x : Val} {xs ys zs : List Val} (h1 : GT g is x ys) (h2 : GTs u js xs zs) : GTs (gCons g u) (is ++ js) (x :: xs) (ys ++ zs) := fun F H vs Q σ S r k => by
  cases r with
  | cons r t =>
    refine ⟨_, _, rfl, h1 F H _ _ σ S r fun vs1 r1 l1 => h2 F H _ _ _ S t fun vs2 r2 l2 => ?_⟩
    rw [sets_app l1]
    exact k _ (r1.append r2) (by simp [l1, l2])
theorem RpAll.vs {F : Hp} : ∀ {ds : List PyData} {vs : List V}, RpAll F vs ds → RpVs F vs (ds.map .d)
  | [], _, .nil => .nil
  | _ :: _, _, .cons a b => .cons a b.vs
theorem gt_tup {K : PySem.W.Frag} {n : Nat} {t : TGs} {is : List Nat} {ds : List PyData} {ys : List Val} (h : GTs t is (ds.map .d) ys) (hl : ds.length = n) : GT (gTup K n t) is (.d (.tuple ds)) ys := fun F H v Q σ S r k => by
  cases r with
  | tup e r => exact ⟨_, _, rfl, SqT.of (S.tup e), by rw [r.length, hl], h F H _ Q σ S r.vs k⟩
theorem gt_lst {K : PySem.W.Frag} {n : Nat} {t : TGs} {is : List Nat} {ds : List PyData} {ys : List Val} (h : GTs t is (ds.map .d) ys) (hl : ds.length = n) : GT (gLst K n t) is (.d (.list ds)) ys := fun F H v Q σ S r k => by
  cases r with
  | lst e r => exact ⟨_, _, rfl, SqL.of (S.lst e), by rw [r.length, hl], h F H _ Q σ S r.vs k⟩
/-- a target for tuples and lists -/
def gOr (g h : TG) : TG := fun v σ H Q => g v σ H Q ∨ h v σ H Q
theorem pg_or {X : Cx} {e : Expr} {g h : TG} (h1 : PG X e g) (h2 : PG X e h) : PG X e (gOr g h) := ⟨fun pins s σ H v u Q I r hw => by
  rcases hw with hw | hw
  · exact h1.run pins s σ H v u Q I r hw
  · exact h2.run pins s σ H v u Q I r hw⟩
theorem gt_or1 {g h : TG} {is : List Nat} {x : Val} {ys : List Val} (a : GT g is x ys) : GT (gOr g h) is x ys := fun F H v Q σ S r k => .inl (a F H v Q σ S r k)
theorem gt_or2 {g h : TG} {is : List Nat} {x : Val} {ys : List Val} (a : GT h is x ys) : GT (gOr g h) is x ys := fun F H v Q σ S r k => .inr (a F H v Q σ S r k)
variable {ρ ρ1 ρ2 ρ3 : List Slot} {ta tb : TE} {x y z : Val} {P : Out → Prop}
theorem wp_asgG {g : TG} {is : List Nat} {ys : List Val} (h : EV ta ρ x ρ1) (hg : GT g is x ys) (k : P (.nx (setsR ρ1 is ys))) : WP (tAsg ta g) ρ P := fun e F σ H D hX S q => h e F σ H _ S fun F' H' v f S' r =>
  hg F' H' v _ σ S'.sub r fun vs rv _ => q _ k F' _ H' f (S'.sets rv)

/-! ### what is walked -/
structure SI (J : It) (F : Hp) (C : Hp → Hp → Prop) (xs : List Val) : Prop where
  go : ∀ F' H i, FSub F F' → Sub F' H → C F' H → i < xs.length → J.go i H
  stop : ∀ F' H i, FSub F F' → Sub F' H → C F' H → xs.length ≤ i → J.stop i H
  yld : ∀ F' H i v H', FSub F F' → Sub F' H → C F' H → J.yld i H v H' → i < xs.length → ∃ F'' x, Al F' H F'' H' ∧ xs[i]? = some x ∧ RpV F'' v x
abbrev C0 : Hp → Hp → Prop := fun _ _ => True
def EI (wi : TI) (ρ : List Slot) (xs : List Val) (ρ' : List Slot) : Prop := ∀ e F σ H (R : It → Hp → Prop), Sta e F ρ σ H → (∀ F' H' J, FSub F F' → Sta e F' ρ' σ H' → SI J F' C0 xs → R J H') → wi σ H R
/-- .. or a slot's own container, for what leaves it as it is -/
def CW (σ : L2.St) : Option (Nat × Cont) → Hp → Hp → Prop
  | none => C0
  | some (i, c) => fun F H => ∃ a o, σ[i]? = some (some (.ref a)) ∧ H a = some o ∧ CRp F c o
def EIC (wi : TI) (ρ : List Slot) (xs : List Val) (ρ' : List Slot) (ws : Option (Nat × Cont)) : Prop :=
  (∀ i c, ws = some (i, c) → ∃ l, ρ'[i]? = some (.own l c)) ∧ ∀ e F σ H (R : It → Hp → Prop), Sta e F ρ σ H → (∀ F' H' J, FSub F F' → Sta e F' ρ' σ H' → SI J F' (CW σ ws) xs → R J H') → wi σ H R
theorem EI.c {wi : TI} {xs : List Val} (h : EI wi ρ xs ρ1) : EIC wi ρ xs ρ1 none := ⟨fun _ _ h => (by cases h), h⟩
theorem si_list {K : PySem.W.Frag} {F : Hp} {a : Addr} {vs : List V} {ds : List PyData} {C : Hp → Hp → Prop} (e : ∀ F' H, FSub F F' → Sub F' H → C F' H → ∃ vs, H a = some (.lst vs) ∧ RpAll F' vs ds) : SI (Itl K a) F C (ds.map .d) where
  go := fun F' H i f S c h => by
    obtain ⟨vs, q, r⟩ := e F' H f S c
    rw [List.length_map] at h
    have hl : i < vs.length := by rw [r.length]; exact h
    exact ⟨vs, vs[i], SqL.of q, by simp [hl]⟩
  stop := fun F' H i f S c h => by
    obtain ⟨vs, q, r⟩ := e F' H f S c
    rw [List.length_map] at h
    exact ⟨vs, SqL.of q, by rw [r.length]; exact h⟩
  yld := fun F' H i v H' f S c y h => by
    obtain ⟨rfl, y⟩ := y
    obtain ⟨vs, q, r⟩ := e F' _ f S c
    obtain ⟨d, hd, rd⟩ := r.get (y vs (SqL.of q))
    exact ⟨F', .d d, .rfl S, by rw [List.getElem?_map, hd]; rfl, rd⟩
theorem si_tup {K : PySem.W.Frag} {F : Hp} {a : Addr} {vs : List V} {ds : List PyData} (e : F a = some (.tup vs)) (r : RpAll F vs ds) : SI (Itt K a) F C0 (ds.map .d) where
  go := fun F' H i f S c h => by
    rw [List.length_map] at h
    have hl : i < vs.length := by rw [r.length]; exact h
    exact ⟨vs, vs[i], SqT.of (S.tup (f _ _ e)), by simp [hl]⟩
  stop := fun F' H i f S c h => by
    rw [List.length_map] at h
    exact ⟨vs, SqT.of (S.tup (f _ _ e)), by rw [r.length]; exact h⟩
  yld := fun F' H i v H' f S c y h => by
    obtain ⟨rfl, y⟩ := y
    obtain ⟨d, hd, rd⟩ := (r.mono f).get (y vs (SqT.of (S.tup (f _ _ e))))
    exact ⟨F', .d d, .rfl S, by rw [List.getElem?_map, hd]; rfl, rd⟩
def rangeD (lo : Int) (n : Nat) : List Val := (List.range n).map fun k : Nat => .d (.int (lo + k))
theorem si_range {lo : Int} {n : Nat} {F : Hp} : SI (Itr lo n) F C0 (rangeD lo n) where
  go := fun F' H i f S c h => show i < n by simpa [rangeD] using h
  stop := fun F' H i f S c h => show n ≤ i by simpa [rangeD] using h
  yld := fun F' H i v H' f S c y h => by
    obtain ⟨rfl, rfl⟩ := y
    have h : i < n := by simpa [rangeD] using h
    exact ⟨F', .d (.int (lo + i)), .rfl S, by unfold rangeD; rw [List.getElem?_map, List.getElem?_range h]; rfl, Rp.int _⟩
theorem ei_list {K : PySem.W.Frag} {tl : TE} {ds : List PyData} (h : EV tl ρ (.d (.list ds)) ρ1) : EI (iList K tl) ρ (ds.map .d) ρ1 := fun e F σ H R S k => h e F σ H _ S fun F' H' v f S' r => by
  cases r with
  | lst q r =>
    refine ⟨_, rfl, ⟨_, SqL.of (S'.sub.lst q)⟩, k F' H' _ f S' (si_list (vs := []) fun G L g T _ => ⟨_, T.lst (g _ _ q), r.mono g⟩)⟩
theorem ei_tup {K : PySem.W.Frag} {tl : TE} {ds : List PyData} (h : EV tl ρ (.d (.tuple ds)) ρ1) : EI (iTup K tl) ρ (ds.map .d) ρ1 := fun e F σ H R S k => h e F σ H _ S fun F' H' v f S' r => by
  cases r with
  | tup q r => exact ⟨_, rfl, ⟨_, SqT.of (S'.sub.tup q)⟩, k F' H' _ f S' (si_tup q r)⟩
/-- a source that may be a list or a tuple -/
def iOr (a b : TI) : TI := fun σ H R => a σ H R ∨ b σ H R
theorem pi_or {X : Cx} {tg e : Expr} {a b : TI} (h1 : PI X tg e a) (h2 : PI X tg e b) : PI X tg e (iOr a b) := ⟨fun pins s σ H R I h => by
  rcases h with h | h
  · exact h1.run pins s σ H R I h
  · exact h2.run pins s σ H R I h⟩
theorem ei_or1 {a b : TI} {xs : List Val} (h : EI a ρ xs ρ1) : EI (iOr a b) ρ xs ρ1 := fun e F σ H R S k => .inl (h e F σ H R S k)
theorem ei_or2 {a b : TI} {xs : List Val} (h : EI b ρ xs ρ1) : EI (iOr a b) ρ xs ρ1 := fun e F σ H R S k => .inr (h e F σ H R S k)
theorem ei_own {K : PySem.W.Frag} {i : Nat} {l : Bool} {ds : List PyData} (h : ρ[i]? = some (.own l (.lst ds))) : EIC (iList K (tVar i)) ρ (ds.map .d) ρ (some (i, .lst ds)) := by
  refine ⟨fun j c q => by cases q; exact ⟨l, h⟩, fun e F σ H R S k => ?_⟩
  obtain ⟨a, o, e1, e2, e3, ⟨vs, ev, r⟩, _⟩ := S.own i l _ h
  subst ev
  refine ⟨_, e1, a, rfl, ⟨vs, SqL.of e3⟩, k F H _ .rfl S (si_list (vs := []) fun G L g T ⟨b, u, q1, q2, ws, q3, q4⟩ => ?_)⟩
  rw [e1] at q1; cases q1; subst q3
  exact ⟨ws, q2, q4⟩
theorem ei_range1 {ta : TA} {j : Int} (h : EA ta ρ [.d (.d (.int j))] ρ1) (h1 : -(2 ^ 62) ≤ j) (h2 : j < 2 ^ 62) : EI (iRng1 ta) ρ (rangeD 0 j.toNat) ρ1 := fun e F σ H R S k => h e F σ H _ S fun F' H' vs f S' r => by
  cases r with
  | cons r t => cases r; cases t; exact ⟨j, rfl, h1, h2, k F' H' _ f S' si_range⟩
theorem ei_range2 {ta : TA} {i j : Int} (h : EA ta ρ [.d (.d (.int i)), .d (.d (.int j))] ρ1) (h1 : -(2 ^ 62) ≤ i ∧ i < 2 ^ 62 ∧ -(2 ^ 62) ≤ j ∧ j < 2 ^ 62) : EI (iRng2 ta) ρ (rangeD i (j - i).toNat) ρ1 := fun e F σ H R S k => h e F σ H _ S fun F' H' vs f S' r => by
  cases r with
  | cons r t => cases r; cases t with
    | cons r t => cases r; cases t; exact ⟨i, j, rfl, h1, k F' H' _ f S' si_range⟩

/-! ### for -/
def LoopP (I : List Slot → Prop) (P : Out → Prop) : Out → Prop
  | .nx ρ => I ρ
  | .ct ρ => I ρ
  | .bk ρ => P (.nx ρ)
  | o => P o
theorem wp_for {wi : TI} {g : TG} {tb : TS} {xs : List Val} {is : List Nat} (I : Nat → List Slot → Prop) (hi : EI wi ρ xs ρ1) (h0 : I 0 ρ1)
    (hs : ∀ i x ρ, xs[i]? = some x → I i ρ → ∃ ys, GT g is x ys ∧ WP tb (setsR ρ is ys) (LoopP (I (i + 1)) P)) (hd : ∀ ρ, I xs.length ρ → P (.nx ρ)) : WP (tFor wi g tb) ρ P := fun e F σ H D hX S q =>
  hi e F σ H _ S fun F1 H1 J f1 S1 si => by
    refine ⟨fun i m σ H => m = xs.length - i ∧ i ≤ xs.length ∧ ∃ F' ρ, FSub F1 F' ∧ Sta e F' ρ σ H ∧ I i ρ, ⟨xs.length, by simp, Nat.zero_le _, F1, ρ1, .rfl, S1, h0⟩, ?_⟩
    rintro i m σ' H' ⟨rfl, hle, F2, ρ2, f2, S2, p⟩
    by_cases hlt : i < xs.length
    · refine .inr ⟨si.go F2 H' i f2 S2.sub trivial hlt, fun σ'' H'' => ∃ F' ρ, FSub F1 F' ∧ Sta e F' ρ σ'' H'' ∧ I (i + 1) ρ, fun σ'' H'' ⟨F', ρ', a, b, c⟩ => ⟨xs.length - (i + 1), by omega, rfl, hlt, F', ρ', a, b, c⟩, fun v H'' y => ?_⟩
      obtain ⟨F3, x, A, hx, rx⟩ := si.yld F2 H' i v H'' f2 S2.sub trivial y hlt
      have S3 := S2.al A
      obtain ⟨ys, hg, hw⟩ := hs i x ρ2 hx p
      refine hg F3 H'' v _ σ' S3.sub rx fun vs rv _ => ?_
      refine hw e F3 _ H'' _ hX (S3.sets rv) fun o ho => ?_
      have f3 : FSub F1 F3 := f2.trans A.f
      cases o with
      | nx ρ' => exact fun F' σ'' H'' f S' => ⟨F', ρ', f3.trans f, S', ho⟩
      | ct ρ' => exact fun F' σ'' H'' f S' => ⟨F', ρ', f3.trans f, S', ho⟩
      | bk ρ' => exact fun F' σ'' H'' f S' => q _ (show P (.nx ρ') from ho) F' σ'' H'' ((f1.trans f3).trans f) S'
      | rt y ρ' => exact fun F' σ'' H'' v f S' r => q _ (show P (.rt y ρ') from ho) F' σ'' H'' v ((f1.trans f3).trans f) S' r
      | ro c ρ' => exact fun F' σ'' H'' a u f S' => q _ (show P (.ro c ρ') from ho) F' σ'' H'' a u ((f1.trans f3).trans f) S'
      | ex W C fld ρ' => exact fun F' σ'' H'' f S' => q _ (show P (.ex W C fld ρ') from ho) F' σ'' H'' ((f1.trans f3).trans f) S'
    · have e' : i = xs.length := by omega
      subst e'
      exact .inl ⟨si.stop F2 H' _ f2 S2.sub trivial (Nat.le_refl _), q _ (hd ρ2 p) F2 σ' H' (f1.trans f2) S2⟩

/-! ### comprehensions -/
def wipeR (ρ : List Slot) : List Nat → List Slot
  | [] => ρ
  | v :: vs => (wipeR ρ vs).set v .non
theorem Sta.wipe {e : En} {F H : Hp} {ρ : List Slot} {σ : L2.St} (S : Sta e F ρ σ H) : ∀ vs : List Nat, Sta e F (wipeR ρ vs) (L2.wipe σ vs) H
  | [] => S
  | v :: vs => (S.wipe vs).setN v
theorem wipeR_get {ρ : List Slot} : ∀ {vs : List Nat} {j : Nat}, j ∉ vs → (wipeR ρ vs)[j]? = ρ[j]?
  | [], _, _ => rfl
  | v :: vs, j, h => by
    have h1 : v ≠ j := fun z => h (by simp [z])
    have h2 : j ∉ vs := fun z => h (by simp [z])
    unfold wipeR; rw [List.getElem?_set_ne h1]; exact wipeR_get h2
theorem wipe_get {σ : L2.St} : ∀ {vs : List Nat} {j : Nat}, j ∉ vs → (L2.wipe σ vs)[j]? = σ[j]?
  | [], _, _ => rfl
  | v :: vs, j, h => by
    have h1 : v ≠ j := fun z => h (by simp [z])
    have h2 : j ∉ vs := fun z => h (by simp [z])
    unfold L2.wipe; rw [List.getElem?_set_ne h1]; exact wipe_get h2
theorem wipe_in {σ : L2.St} : ∀ {vs : List Nat} {j : Nat}, j ∈ vs → (L2.wipe σ vs)[j]? = if j < σ.length then some none else none
  | v :: vs, j, h => by
    unfold L2.wipe
    by_cases z : v = j
    · subst z
      rw [List.getElem?_set]
      simp [wipe_length]
    · rw [List.getElem?_set_ne z]
      exact wipe_in (by rcases List.mem_cons.mp h with q | q; exact absurd q.symm z; exact q)
theorem sets_get : ∀ {is : List Nat} {vs : List V} {σ : L2.St} {j : Nat}, j ∉ is → (sets σ is vs)[j]? = σ[j]?
  | [], _, _, _, _ => by unfold sets; rfl
  | i :: is, [], _, _, _ => by unfold sets; rfl
  | i :: is, v :: vs, σ, j, h => by
    have h1 : i ≠ j := fun z => h (by simp [z])
    have h2 : j ∉ is := fun z => h (by simp [z])
    unfold sets; rw [sets_get h2, List.getElem?_set_ne h1]
theorem setsR_get : ∀ {is : List Nat} {vs : List Val} {ρ : List Slot} {j : Nat}, j ∉ is → (setsR ρ is vs)[j]? = ρ[j]?
  | [], _, _, _, _ => by unfold setsR; rfl
  | i :: is, [], _, _, _ => by unfold setsR; rfl
  | i :: is, v :: vs, σ, j, h => by
    have h1 : i ≠ j := fun z => h (by simp [z])
    have h2 : j ∉ is := fun z => h (by simp [z])
    unfold setsR; rw [setsR_get h2, List.getElem?_set_ne h1]
theorem sets_length : ∀ {is : List Nat} {vs : List V} {σ : L2.St}, (sets σ is vs).length = σ.length
  | [], _, _ => by unfold sets; rfl
  | i :: is, [], _ => by unfold sets; rfl
  | i :: is, v :: vs, σ => by unfold sets; rw [sets_length]; simp
theorem setsR_length : ∀ {is : List Nat} {vs : List Val} {ρ : List Slot}, (setsR ρ is vs).length = ρ.length
  | [], _, _ => by unfold setsR; rfl
  | i :: is, [], _ => by unfold setsR; rfl
  | i :: is, v :: vs, σ => by unfold setsR; rw [setsR_length]; simp
theorem wipeR_length {ρ : List Slot} : ∀ {vs : List Nat}, (wipeR ρ vs).length = ρ.length
  | [] => rfl
  | v :: vs => by unfold wipeR; rw [List.length_set, wipeR_length]
/-- the slots that a block's names hide forget what was stored there -/
theorem wipe_sets {σ : L2.St} {vs is : List Nat} {ws : List V} (h : ∀ i ∈ is, i ∈ vs) : L2.wipe (sets (L2.wipe σ vs) is ws) vs = L2.wipe σ vs := by
  apply List.ext_getElem?
  intro j
  by_cases z : j ∈ vs
  · rw [wipe_in z, wipe_in z, sets_length, wipe_length]
  · rw [wipe_get z, sets_get (fun q => z (h j q))]
/-- out of a block: what it did not hide is as it stands, what it hid as it was -/
theorem Sta.unwipe {e : En} {F H F' H' : Hp} {ρ ρ' ρ1 : List Slot} {σ σ1 : L2.St} {vs : List Nat} (S : Sta e F ρ σ H) (T : Sta e F' ρ1 σ1 H') (f : FSub F F') (hσ : ∀ j, j ∉ vs → σ1[j]? = σ[j]?) (hv : ∀ j ∈ vs, ∀ l c, ρ[j]? ≠ some (.own l c))
    (hl : ρ'.length = ρ.length) (hi : ∀ j ∈ vs, ρ'[j]? = ρ[j]?) (ho : ∀ j, j ∉ vs → ρ'[j]? = ρ1[j]?) : Sta e F' ρ' σ H' where
  sub := T.sub
  f0 := S.f0.trans f
  new := T.new
  keep := T.keep
  there := T.there
  len := by rw [S.len, hl]
  val := fun i x h => by
    by_cases z : i ∈ vs
    · rw [hi i z] at h
      obtain ⟨v, e1, r⟩ := S.val i x h
      exact ⟨v, e1, r.mono f⟩
    · rw [ho i z] at h
      obtain ⟨v, e1, r⟩ := T.val i x h
      exact ⟨v, by rw [← hσ i z]; exact e1, r⟩
  own := fun i l c h => by
    by_cases z : i ∈ vs
    · rw [hi i z] at h
      exact absurd h (hv i z l c)
    · rw [ho i z] at h
      obtain ⟨a, o, e1, r⟩ := T.own i l c h
      exact ⟨a, o, by rw [← hσ i z]; exact e1, r⟩
  sep := fun i j li lj ci cj h1 h2 hn => by
    by_cases z : i ∈ vs
    · rw [hi i z] at h1; exact absurd h1 (hv i z li ci)
    by_cases y : j ∈ vs
    · rw [hi j y] at h2; exact absurd h2 (hv j y lj cj)
    rw [ho i z] at h1
    rw [ho j y] at h2
    rw [← hσ i z, ← hσ j y]
    exact T.sep i j li lj ci cj h1 h2 hn
/-- one turn of a comprehension: from R i by the item x to R (i + 1), the list made so far from A to A' -/
structure Turn1 (g : TG) (tt : TT) (te : TE) (vs : List Nat) (x : Val) (r r' : List Slot) (A A' : List PyData) : Prop where
  turn : ∃ is ys b ρ2, (∀ i ∈ is, i ∈ vs) ∧ GT g is x ys ∧ ET tt (setsR (wipeR r vs) is ys) b ρ2 ∧
    (if b = true then ∃ y ρ3, EV te ρ2 (.d y) ρ3 ∧ A' = A ++ [y] ∧ ∀ j, j ∉ vs → r'[j]? = ρ3[j]? else A' = A ∧ ∀ j, j ∉ vs → r'[j]? = ρ2[j]?)
theorem eo_lc {wi : TI} {g : TG} {tt : TT} {te : TE} {vs : List Nat} {xs : List Val} {ws : Option (Nat × Cont)} (R : Nat → List Slot) (A : Nat → List PyData) (hi : EIC wi ρ xs (R 0) ws) (hA : A 0 = [])
    (hv : ∀ i, i ≤ xs.length → ∀ j ∈ vs, ((R i)[j]? = (R 0)[j]? ∧ ∀ l c, (R i)[j]? ≠ some (.own l c))) (hl : ∀ i, i ≤ xs.length → (R i).length = (R 0).length) (hw : ∀ i k c, i ≤ xs.length → ws = some (k, c) → ∃ l, (R i)[k]? = some (.own l c))
    (hz : xs.length < sizeLine) (hs : ∀ i x, xs[i]? = some x → Turn1 g tt te vs x (R i) (R (i + 1)) (A i) (A (i + 1))) : EO (tLc wi g tt te vs) ρ (.lst (A xs.length)) (R xs.length) := fun e F σ H Q S k =>
  hi.2 e F σ H _ S fun F1 H1 J f1 S1 si D hD => by
    have hlen : ∀ i, i ≤ xs.length → (A i).length ≤ i := by
      intro i
      induction i with
      | zero => intro _; rw [hA]; exact Nat.le_refl _
      | succ i ih =>
        intro h
        have h1 := ih (by omega)
        obtain ⟨x, hx⟩ : ∃ x, xs[i]? = some x := ⟨xs[i], by simp⟩
        obtain ⟨is, ys, b, ρ2, _, _, _, q⟩ := (hs i x hx).turn
        cases b with
        | true =>
          rw [if_pos rfl] at q
          obtain ⟨y, ρ3, _, e, _⟩ := q
          rw [e]; simp; exact h1
        | false =>
          rw [if_neg (by decide)] at q
          rw [q.1]; omega
    refine ⟨fun i m H => m = xs.length - i ∧ i ≤ xs.length ∧ ∃ F' vs', FSub F1 F' ∧ Sta e F' (R i) σ H ∧ F' D = none ∧ H D = some (.lst vs') ∧ RpAll F' vs' (A i) ∧ (∀ (j : Nat) l c', (R i)[j]? = some (.own l c') → σ[j]? ≠ some (some (.ref D))),
      ⟨xs.length, by simp, Nat.zero_le _, F1, [], .rfl, S1.alloc hD, S1.sub.none hD, upd_same, by rw [hA]; exact .nil, S1.fresh hD⟩, ?_⟩
    rintro i m H2 ⟨rfl, hle, F2, vs', f2, S2, hF2, hH2, hr2, hf2⟩
    have cw : ∀ {F' H'}, Sta e F' (R i) σ H' → CW σ ws F' H' := fun {F' H'} T => by
      cases hws : ws with
      | none => trivial
      | some p =>
        obtain ⟨k, c⟩ := p
        obtain ⟨l, hk⟩ := hw i k c hle hws
        obtain ⟨a, o, e1, _, e3, r, _⟩ := T.own k l c hk
        exact ⟨a, o, e1, e3, r⟩
    by_cases hlt : i < xs.length
    · refine .inr ⟨si.go F2 H2 i f2 S2.sub (cw S2) hlt, fun H' => ∃ F' vs', FSub F1 F' ∧ Sta e F' (R (i + 1)) σ H' ∧ F' D = none ∧ H' D = some (.lst vs') ∧ RpAll F' vs' (A (i + 1)) ∧ (∀ (j : Nat) l c', (R (i + 1))[j]? = some (.own l c') → σ[j]? ≠ some (some (.ref D))),
        fun H' ⟨F', vs', q⟩ => ⟨xs.length - (i + 1), by omega, rfl, hlt, F', vs', q⟩, fun v H3 y => ?_⟩
      obtain ⟨F3, x, Ax, hx, rx⟩ := si.yld F2 H2 i v H3 f2 S2.sub (cw S2) y hlt
      have S3 := S2.al Ax
      have hH3 := Ax.h _ _ hH2
      have hF3 : F3 D = none := by
        cases z : F3 D with
        | none => rfl
        | some u =>
          rcases Ax.new D (by rw [z]; simp) with q | q
          · exact absurd hF2 q
          · rw [hH2] at q; cases q
      obtain ⟨is, ys, b, ρ2, hsub, hg, ht, hrest⟩ := (hs i x hx).turn
      -- within the block
      have W : Sta e F3 (wipeR (R i) vs) (L2.wipe σ vs) H3 := S3.wipe vs
      have W1 := W.enter
      refine hg F3 H3 v _ _ S3.sub rx fun ws' rw' hlw => ⟨wipe_sets hsub, ?_⟩
      have W2 : Sta W.sub_en F3 (setsR (wipeR (R i) vs) is ys) (sets (L2.wipe σ vs) is ws') H3 := W1.sets rw'
      refine ht _ F3 _ H3 _ W2 fun F4 H4 f4 S4 => ?_
      have hσ : ∀ j, j ∉ vs → (sets (L2.wipe σ vs) is ws')[j]? = σ[j]? := fun j hj => by
        rw [sets_get (fun q => hj (hsub j q)), wipe_get hj]
      have hfw : ∀ (j : Nat) l c', (wipeR (R i) vs)[j]? = some (.own l c') → (L2.wipe σ vs)[j]? ≠ some (some (.ref D)) := fun j l c' h => by
        by_cases z : j ∈ vs
        · rw [wipe_in z]; split <;> simp
        · rw [wipe_get z]; rw [wipeR_get z] at h; exact hf2 j l c' h
      have hp : e.H0 D = none := by
        cases z : e.H0 D with
        | none => rfl
        | some o => exact absurd hD (S1.there D (by rw [z]; simp))
      -- the end of a turn
      have fin : ∀ {F' H' ρ'}, FSub F3 F' → Sta W.sub_en F' ρ' (sets (L2.wipe σ vs) is ws') H' → (∀ j, j ∉ vs → (R (i + 1))[j]? = ρ'[j]?) → Sta e F' (R (i + 1)) σ H' ∧ H' D = some (.lst vs') ∧ F' D = none := fun {F' H' ρ'} f T q => by
        have T2 := W.leave T
        obtain ⟨g1, g2⟩ := W.apart T hH3 hp hfw
        refine ⟨S3.unwipe (vs := vs) T2 f hσ (fun j hj l c => (hv i hle j hj).2 l c) ?_ (fun j hj => ?_) q, g1, g2 hF3⟩
        · rw [hl (i + 1) hlt, hl i hle]
        · rw [(hv (i + 1) hlt j hj).1, (hv i hle j hj).1]
      have hf' : ∀ {F' H'}, Sta e F' (R (i + 1)) σ H' → F' D = none → (∀ (j : Nat) l c', (R (i + 1))[j]? = some (.own l c') → σ[j]? ≠ some (some (.ref D))) → True := fun _ _ _ => trivial
      have own_back : ∀ {F' H' ρ'}, Sta W.sub_en F' ρ' (sets (L2.wipe σ vs) is ws') H' → (∀ j, j ∉ vs → (R (i + 1))[j]? = ρ'[j]?) → ∀ (j : Nat) l c', (R (i + 1))[j]? = some (.own l c') → σ[j]? ≠ some (some (.ref D)) := fun {F' H' ρ'} T q j l c' h z => by
        by_cases y : j ∈ vs
        · exact (hv (i + 1) hlt j y).2 l c' h
        · rw [q j y] at h
          obtain ⟨a, o, e1, e2, e3, r, hq, _⟩ := T.own j l c' h
          rw [hσ j y, z] at e1
          cases e1
          have hq : H3 D = none ∨ W.sub_en.P D := hq
          rcases hq with hq | hq | ⟨i', l', c'', h1, h2⟩
          · rw [hH3] at hq; cases hq
          · exact e.pH D hq hp
          · exact hfw i' l' c'' h1 h2
      cases b with
      | true =>
        rw [if_pos rfl] at hrest ⊢
        obtain ⟨y0, ρ3, hev, hA', hR'⟩ := hrest
        refine hev _ F4 _ H4 _ S4 fun F5 H5 v5 f5 S5 r5 => ?_
        obtain ⟨T, gH, gF⟩ := fin (f4.trans f5) S5 hR'
        have own5 := own_back S5 hR'
        have r5 : Rp F5 v5 y0 := r5
        refine ⟨vs', gH, ?_, ?_⟩
        · rw [hr2.length]
          exact Nat.lt_of_le_of_lt (hlen i hle) (by omega)
        · refine ⟨F5, vs' ++ [v5], (f2.trans Ax.f).trans (f4.trans f5), ?_, gF, upd_same, ?_, own5⟩
          · exact { sub := fun b u h => by
                      rw [upd_ne (ne_of_none h gF)]; exact T.sub b u h
                    f0 := T.f0, new := T.new
                    keep := fun a o h hpp => by
                      have z : a ≠ D := fun z => by subst z; rw [hp] at h; cases h
                      rw [upd_ne z]; exact T.keep a o h hpp
                    there := fun a h => by
                      by_cases z : a = D
                      · subst z; rw [upd_same]; simp
                      · rw [upd_ne z]; exact T.there a h
                    len := T.len, val := T.val
                    own := fun j l c h => by
                      obtain ⟨a, o, e1, e2, e3, q⟩ := T.own j l c h
                      have z : a ≠ D := fun z => by subst z; exact own5 j l c h e1
                      exact ⟨a, o, e1, e2, by rw [upd_ne z]; exact e3, q⟩
                    sep := T.sep }
          · rw [hA']
            exact (hr2.mono (Ax.f.trans (f4.trans f5))).append (.cons r5 .nil)
      | false =>
        rw [if_neg (by decide)] at hrest ⊢
        obtain ⟨hA', hR'⟩ := hrest
        obtain ⟨T, gH, gF⟩ := fin f4 S4 hR'
        exact ⟨F4, vs', (f2.trans Ax.f).trans f4, T, gF, gH, by rw [hA']; exact hr2.mono (Ax.f.trans f4), own_back S4 hR'⟩
    · have e' : i = xs.length := by omega
      subst e'
      have hp : e.H0 D = none := by
        cases z : e.H0 D with
        | none => rfl
        | some o => exact absurd hD (S1.there D (by rw [z]; simp))
      exact .inl ⟨si.stop F2 H2 _ f2 S2.sub (cw S2) (Nat.le_refl _), k F2 H2 D _ (f1.trans f2) S2 hF2 hH2 ⟨vs', rfl, hr2⟩ hp hf2⟩
/-- .. that changes nothing -/
theorem eo_lc0 {α : Type} {wi : TI} {g : TG} {tt : TT} {te : TE} {vs is : List Nat} {ws : Option (Nat × Cont)} (zs : List α) (inj : α → Val) (p : α → Bool) (f : α → PyData) (ys : α → List Val) (hi : EIC wi ρ (zs.map inj) ρ1 ws) (hsub : ∀ i ∈ is, i ∈ vs)
    (hv : ∀ j ∈ vs, ∀ l c, ρ1[j]? ≠ some (.own l c)) (hz : zs.length < sizeLine)
    (hs : ∀ z ∈ zs, GT g is (inj z) (ys z) ∧ ET tt (setsR (wipeR ρ1 vs) is (ys z)) (p z) (setsR (wipeR ρ1 vs) is (ys z)) ∧ (p z = true → EV te (setsR (wipeR ρ1 vs) is (ys z)) (.d (f z)) (setsR (wipeR ρ1 vs) is (ys z)))) :
    EO (tLc wi g tt te vs) ρ (.lst ((zs.filter p).map f)) ρ1 := by
  have back : ∀ z j, j ∉ vs → ρ1[j]? = (setsR (wipeR ρ1 vs) is (ys z))[j]? := fun z j hj => by
    rw [setsR_get (fun q => hj (hsub j q)), wipeR_get hj]
  have h := eo_lc (ρ := ρ) (vs := vs) (R := fun _ => ρ1) (A := fun i => ((zs.take i).filter p).map f) hi rfl (fun i _ j hj => ⟨rfl, hv j hj⟩) (fun _ _ => rfl) (fun i k c _ hw => hi.1 k c hw) (by rw [List.length_map]; exact hz) (g := g) (tt := tt) (te := te) fun i x hx => by
    rw [List.getElem?_map] at hx
    cases hz : zs[i]? with
    | none => rw [hz] at hx; cases hx
    | some z =>
      rw [hz] at hx
      cases hx
      obtain ⟨h1, h2, h3⟩ := hs z (List.mem_of_getElem? hz)
      refine ⟨is, ys z, p z, _, hsub, h1, h2, ?_⟩
      have tk : zs.take (i + 1) = zs.take i ++ [z] := by rw [List.take_add_one, hz]; rfl
      cases hp : p z with
      | true =>
        rw [if_pos rfl]
        exact ⟨f z, _, h3 hp, by rw [tk, List.filter_append, List.map_append]; simp [hp], back z⟩
      | false =>
        rw [if_neg (by decide)]
        exact ⟨by rw [tk, List.filter_append, List.map_append]; simp [hp], back z⟩
  have e : ((zs.take (zs.map inj).length).filter p).map f = (zs.filter p).map f := by rw [List.length_map, List.take_length]
  have h : EO (tLc wi g tt te vs) ρ (.lst (((zs.take (zs.map inj).length).filter p).map f)) ρ1 := h
  rw [e] at h
  exact h
theorem et_yes : ET tYes ρ true ρ := fun e F σ H Q S k => k F H .rfl S
/-- .. without a test -/
theorem eo_lc1 {α : Type} {wi : TI} {g : TG} {te : TE} {vs is : List Nat} {ws : Option (Nat × Cont)} (zs : List α) (inj : α → Val) (f : α → PyData) (ys : α → List Val) (hi : EIC wi ρ (zs.map inj) ρ1 ws) (hsub : ∀ i ∈ is, i ∈ vs)
    (hv : ∀ j ∈ vs, ∀ l c, ρ1[j]? ≠ some (.own l c)) (hz : zs.length < sizeLine)
    (hs : ∀ z ∈ zs, GT g is (inj z) (ys z) ∧ EV te (setsR (wipeR ρ1 vs) is (ys z)) (.d (f z)) (setsR (wipeR ρ1 vs) is (ys z))) :
    EO (tLc wi g tYes te vs) ρ (.lst (zs.map f)) ρ1 := by
  have h := eo_lc0 (ρ := ρ) zs inj (fun _ => true) f ys hi hsub hv hz (tt := tYes) fun z hz => ⟨(hs z hz).1, et_yes, fun _ => (hs z hz).2⟩
  rw [List.filter_eq_self.mpr (fun _ _ => rfl)] at h
  exact h
end Pw

set_option Elab.async false
set_option linter.all false
set_option maxRecDepth 100000
namespace Pw
open PySem L2
section
variable {X : Cx}
theorem OpR.or {f : Value → Value → Sem Value} {r r' : R2} (h : OpR X f r) (h' : OpR X f r') : OpR X f (fun x y H Q => r x y H Q ∨ r' x y H Q) := fun pins s σ H x y v u Q I rx ry q => by
  rcases q with q | q
  · exact h pins s σ H x y v u Q I rx ry q
  · exact h' pins s σ H x y v u Q I rx ry q
theorem CallR.or {f : Value} {r r' : List V → Hp → VK → Prop} (h : CallR X f r) (h' : CallR X f r') : CallR X f (fun x H Q => r x H Q ∨ r' x H Q) := fun pins s σ H x u Q I rx q => by
  rcases q with q | q
  · exact h pins s σ H x u Q I rx q
  · exact h' pins s σ H x u Q I rx q
theorem SlR.or {r r' : V → Option Int → Option Int → Hp → VK → Prop} (h : SlR X r) (h' : SlR X r') : SlR X (fun x l u H Q => r x l u H Q ∨ r' x l u H Q) := by
  intro pins s σ H x v vl vu lo hi sl Q I rx hs pl pu q
  rcases q with q | q
  · exact h pins s σ H x v vl vu lo hi sl Q I rx hs pl pu q
  · exact h' pins s σ H x v vl vu lo hi sl Q I rx hs pl pu q
abbrev rStrCat : R2 := fun x y H Q => ∃ i j, x = .str i ∧ y = .str j ∧ i.length + j.length ≤ sizeLine ∧ Q (.str (i ++ j)) H
/-- + of whatever kind -/
abbrev rPlus (K : PySem.W.Frag) : R2 := fun x y H Q => (rI0 (fun i j => .int (i + j)) x y H Q) ∨ (rCatA K x y H Q ∨ (rCat x y H Q ∨ rStrCat x y H Q))
theorem op_plus : OpR X (binaryOp .Add) (rPlus X.K) := OpR.or op_add (OpR.or op_catA (OpR.or op_cat op_add_str))
abbrev rEqU (K : PySem.W.Frag) : R2 := fun x y H Q => rEq x y H Q ∨ rEqD K x y H Q
abbrev rNeU (K : PySem.W.Frag) : R2 := fun x y H Q => rNe x y H Q ∨ rNeD K x y H Q
theorem op_eqU (hu : X.A.units + 64 < cLine) : OpR X (compareOp .Eq) (rEqU X.K) := OpR.or op_eq (op_eqD hu)
theorem op_neU (hu : X.A.units + 64 < cLine) : OpR X (compareOp .NotEq) (rNeU X.K) := OpR.or op_ne (op_neD hu)
/-- in a tuple of data -/
def rInT (K : PySem.W.Frag) : R2 := fun x y H Q => ∃ d ds, Dp K H x d ∧ Dp K H y (.tuple ds) ∧ SeqAt.shaped d = true ∧ SeqAt.shaped (.tuple ds) = true ∧ Q (.bl (ds.any fun z => PyData.eqv z d)) H
def rNotInT (K : PySem.W.Frag) : R2 := fun x y H Q => ∃ d ds, Dp K H x d ∧ Dp K H y (.tuple ds) ∧ SeqAt.shaped d = true ∧ SeqAt.shaped (.tuple ds) = true ∧ Q (.bl (!ds.any fun z => PyData.eqv z d)) H
open PyProof.Rows in
theorem op_inT (hu : X.A.units + 65 < cLine) : OpR X (compareOp .In) (rInT X.K) := by
  intro pins s σ H x y v u Q I rx ry h
  obtain ⟨d, ds, hd, he, sd, se, q⟩ := h
  obtain ⟨as, r1⟩ := Dp.reads I d x v hd rx
  obtain ⟨bs, r2⟩ := Dp.reads I (.tuple ds) y u he ry
  exact SeqAt.in_tuple_reads r2 r1 (SeqAt.canLay_of_shaped se) (SeqAt.canLay_of_shaped sd) (PyProof.Rows.room_in_shaped sd hu) ⟨.bl _, H, I, rfl, q⟩
open PyProof.Rows in
theorem op_notInT (hu : X.A.units + 65 < cLine) : OpR X (compareOp .NotIn) (rNotInT X.K) := by
  intro pins s σ H x y v u Q I rx ry h
  obtain ⟨d, ds, hd, he, sd, se, q⟩ := h
  obtain ⟨as, r1⟩ := Dp.reads I d x v hd rx
  obtain ⟨bs, r2⟩ := Dp.reads I (.tuple ds) y u he ry
  exact SeqAt.notIn_tuple_reads r2 r1 (SeqAt.canLay_of_shaped se) (SeqAt.canLay_of_shaped sd) (PyProof.Rows.room_in_shaped sd hu) ⟨.bl _, H, I, rfl, q⟩
abbrev rSign : R2 := fun x y H Q => ∃ (c : Nat) (z : Str), x = .str ⟨#[c]⟩ ∧ y = .str z ∧ Q (.bl (decide (c ∈ z.cps.toList))) H
abbrev rNotSign : R2 := fun x y H Q => ∃ (c : Nat) (z : Str), x = .str ⟨#[c]⟩ ∧ y = .str z ∧ Q (.bl (!decide (c ∈ z.cps.toList))) H
abbrev rInU (K : PySem.W.Frag) : R2 := fun x y H Q => rIn K false x y H Q ∨ (rInD K x y H Q ∨ (rInT K x y H Q ∨ rSign x y H Q))
abbrev rNotInU (K : PySem.W.Frag) : R2 := fun x y H Q => rIn K true x y H Q ∨ (rNotInD K x y H Q ∨ (rNotInT K x y H Q ∨ rNotSign x y H Q))
theorem op_inU (hu : X.A.units + 65 < cLine) : OpR X (compareOp .In) (rInU X.K) := OpR.or op_in_seq (OpR.or (op_inD hu) (OpR.or (op_inT hu) op_in_sign))
theorem op_notInU (hu : X.A.units + 65 < cLine) : OpR X (compareOp .NotIn) (rNotInU X.K) := OpR.or op_notIn_seq (OpR.or (op_notInD hu) (OpR.or (op_notInT hu) op_notIn_sign))
abbrev rSlU (K : PySem.W.Frag) : V → Option Int → Option Int → Hp → VK → Prop := fun x l u H Q => rSlL K x l u H Q ∨ (rSlA K x l u H Q ∨ rSlS x l u H Q)
theorem sl_any : SlR X (rSlU X.K) := SlR.or sl_list (SlR.or sl_tupA sl_str)
theorem hu64 {A : Around} {k : Nat} (hr : Room k A) : A.units + 64 < cLine := hr.units
theorem hu65 {A : Around} {k : Nat} (hr : Room k A) : A.units + 65 < cLine := by have := hr.un; omega
end

section
variable {K : PySem.W.Frag}
theorem opd_add {i j : Int} : OpD (rPlus K) (.int i) (.int j) (.int (i + j)) := fun F H Q v w S r1 r2 k => by
  cases r1; cases r2
  exact .inl ⟨i, j, rfl, rfl, k F H _ (.rfl S) (.int _)⟩
theorem opd_cat_str {i j : Str} (h : i.length + j.length ≤ sizeLine) : OpD (rPlus K) (.str i) (.str j) (.str (i ++ j)) := fun F H Q v w S r1 r2 k => by
  cases r1; cases r2
  exact .inr (.inr (.inr ⟨i, j, rfl, rfl, h, k F H _ (.rfl S) (.str _)⟩))
theorem opd_cat_tup {xs ys : List PyData} (h : xs.length + ys.length ≤ sizeLine) : OpD (rPlus K) (.tuple xs) (.tuple ys) (.tuple (xs ++ ys)) := fun F H Q v w S r1 r2 k => by
  cases r1 with
  | tup e1 r1 => cases r2 with
    | tup e2 r2 =>
      refine .inr (.inl ⟨_, _, _, _, rfl, rfl, SqT.of (S.tup e1), SqT.of (S.tup e2), by rw [r1.length, r2.length]; exact h, fun z => ?_, fun _ z => ?_, fun _ _ p hp => ?_⟩)
      · subst z; cases r1; exact k F H _ (.rfl S) (.tup e2 r2)
      · subst z; cases r2; rw [List.append_nil] at k; exact k F H _ (.rfl S) (.tup e1 r1)
      · exact k _ _ _ (Al.one S hp) (.tup upd_same ((r1.append r2).mono (Al.one S hp).f))
theorem opd_cat_lst {xs ys : List PyData} (h : xs.length + ys.length ≤ sizeLine) : OpD (rPlus K) (.list xs) (.list ys) (.list (xs ++ ys)) := fun F H Q v w S r1 r2 k => by
  cases r1 with
  | lst e1 r1 => cases r2 with
    | lst e2 r2 =>
      refine .inr (.inr (.inl ⟨_, _, _, _, rfl, rfl, S.lst e1, S.lst e2, by rw [r1.length, r2.length]; exact h, fun p hp => ?_⟩))
      exact k _ _ _ (Al.one S hp) (.lst upd_same ((r1.append r2).mono (Al.one S hp).f))
theorem opd_I0 {g : Int → Int → Int} {i j : Int} : OpD (rI0 fun i j => .int (g i j)) (.int i) (.int j) (.int (g i j)) := fun F H Q v w S r1 r2 k => by
  cases r1; cases r2
  exact ⟨i, j, rfl, rfl, k F H _ (.rfl S) (.int _)⟩
theorem opd_sub {i j : Int} : OpD (rI0 fun i j => .int (i - j)) (.int i) (.int j) (.int (i - j)) := opd_I0
theorem opd_I {C : Int → Int → Prop} {g : Int → Int → Int} {i j : Int} (h : C i j) : OpD (rI C fun i j => .int (g i j)) (.int i) (.int j) (.int (g i j)) := fun F H Q v w S r1 r2 k => by
  cases r1; cases r2
  exact ⟨i, j, rfl, rfl, h, k F H _ (.rfl S) (.int _)⟩
theorem opd_mul {i j : Int} (h : CMul i j) : OpD (rI CMul fun i j => .int (i * j)) (.int i) (.int j) (.int (i * j)) := opd_I h
theorem opd_fdiv {i j : Int} (h : CDiv i j) : OpD (rI CDiv fun i j => .int (i / j)) (.int i) (.int j) (.int (i / j)) := opd_I h
theorem opd_mod {i j : Int} (h : 0 < j) : OpD (rI (fun _ j => 0 < j) fun i j => .int (i % j)) (.int i) (.int j) (.int (i % j)) := opd_I h
theorem opd_cmp {p : Int → Int → Bool} {i j : Int} : OpD (rI0 fun i j => .bl (p i j)) (.int i) (.int j) (.bool (p i j)) := fun F H Q v w S r1 r2 k => by
  cases r1; cases r2
  exact ⟨i, j, rfl, rfl, k F H _ (.rfl S) (.bl _)⟩
theorem opd_lt {i j : Int} : OpD (rI0 fun i j => .bl (decide (i < j))) (.int i) (.int j) (.bool (decide (i < j))) := opd_cmp
theorem opd_le {i j : Int} : OpD (rI0 fun i j => .bl (decide (i ≤ j))) (.int i) (.int j) (.bool (decide (i ≤ j))) := opd_cmp
theorem opd_gt {i j : Int} : OpD (rI0 fun i j => .bl (decide (j < i))) (.int i) (.int j) (.bool (decide (j < i))) := opd_cmp
theorem opd_ge {i j : Int} : OpD (rI0 fun i j => .bl (decide (j ≤ i))) (.int i) (.int j) (.bool (decide (j ≤ i))) := opd_cmp
theorem und_neg {i : Int} : UnD (rU fun i => .int (-i)) (.int i) (.int (-i)) := fun F H Q v S r1 k => by
  cases r1; exact ⟨i, rfl, k F H _ (.rfl S) (.int _)⟩
theorem opd_eq_int {i j : Int} : OpD (rEqU K) (.int i) (.int j) (.bool (decide (i = j))) := fun F H Q v w S r1 r2 k => by
  cases r1; cases r2
  refine .inl ⟨rfl, ?_⟩
  have e : decide (V.int i = V.int j) = decide (i = j) := by simp
  rw [e]; exact k F H _ (.rfl S) (.bl _)
theorem opd_eq_str {i j : Str} : OpD (rEqU K) (.str i) (.str j) (.bool (decide (i = j))) := fun F H Q v w S r1 r2 k => by
  cases r1; cases r2
  refine .inl ⟨rfl, ?_⟩
  have e : decide (V.str i = V.str j) = decide (i = j) := by simp
  rw [e]; exact k F H _ (.rfl S) (.bl _)
theorem opd_eq_bl {i j : Bool} : OpD (rEqU K) (.bool i) (.bool j) (.bool (decide (i = j))) := fun F H Q v w S r1 r2 k => by
  cases r1; cases r2
  refine .inl ⟨rfl, ?_⟩
  have e : decide (V.bl i = V.bl j) = decide (i = j) := by simp
  rw [e]; exact k F H _ (.rfl S) (.bl _)
theorem opd_ne_int {i j : Int} : OpD (rNeU K) (.int i) (.int j) (.bool (!decide (i = j))) := fun F H Q v w S r1 r2 k => by
  cases r1; cases r2
  refine .inl ⟨rfl, ?_⟩
  have e : decide (V.int i = V.int j) = decide (i = j) := by simp
  rw [e]; exact k F H _ (.rfl S) (.bl _)
theorem opd_ne_str {i j : Str} : OpD (rNeU K) (.str i) (.str j) (.bool (!decide (i = j))) := fun F H Q v w S r1 r2 k => by
  cases r1; cases r2
  refine .inl ⟨rfl, ?_⟩
  have e : decide (V.str i = V.str j) = decide (i = j) := by simp
  rw [e]; exact k F H _ (.rfl S) (.bl _)
theorem opd_eqD {a b : PyData} (ha : SeqAt.shaped a = true) (hb : SeqAt.shaped b = true) : OpD (rEqU K) a b (.bool (PyData.eqv a b)) := fun F H Q v w S r1 r2 k =>
  .inr ⟨a, b, r1.dp S, r2.dp S, ha, hb, k F H _ (.rfl S) (.bl _)⟩
theorem opd_neD {a b : PyData} (ha : SeqAt.shaped a = true) (hb : SeqAt.shaped b = true) : OpD (rNeU K) a b (.bool (!PyData.eqv a b)) := fun F H Q v w S r1 r2 k =>
  .inr ⟨a, b, r1.dp S, r2.dp S, ha, hb, k F H _ (.rfl S) (.bl _)⟩
theorem opd_inL {d : PyData} {ds : List PyData} (ha : SeqAt.shaped d = true) (hb : SeqAt.shaped (.list ds) = true) : OpD (rInU K) d (.list ds) (.bool (ds.any fun z => PyData.eqv z d)) := fun F H Q v w S r1 r2 k =>
  .inr (.inl ⟨d, ds, r1.dp S, r2.dp S, ha, hb, k F H _ (.rfl S) (.bl _)⟩)
theorem opd_inT {d : PyData} {ds : List PyData} (ha : SeqAt.shaped d = true) (hb : SeqAt.shaped (.tuple ds) = true) : OpD (rInU K) d (.tuple ds) (.bool (ds.any fun z => PyData.eqv z d)) := fun F H Q v w S r1 r2 k =>
  .inr (.inr (.inl ⟨d, ds, r1.dp S, r2.dp S, ha, hb, k F H _ (.rfl S) (.bl _)⟩))
theorem opd_notInL {d : PyData} {ds : List PyData} (ha : SeqAt.shaped d = true) (hb : SeqAt.shaped (.list ds) = true) : OpD (rNotInU K) d (.list ds) (.bool (!ds.any fun z => PyData.eqv z d)) := fun F H Q v w S r1 r2 k =>
  .inr (.inl ⟨d, ds, r1.dp S, r2.dp S, ha, hb, k F H _ (.rfl S) (.bl _)⟩)
theorem opd_notInT {d : PyData} {ds : List PyData} (ha : SeqAt.shaped d = true) (hb : SeqAt.shaped (.tuple ds) = true) : OpD (rNotInU K) d (.tuple ds) (.bool (!ds.any fun z => PyData.eqv z d)) := fun F H Q v w S r1 r2 k =>
  .inr (.inr (.inl ⟨d, ds, r1.dp S, r2.dp S, ha, hb, k F H _ (.rfl S) (.bl _)⟩))
theorem opd_sign {c : Nat} {z : Str} : OpD (rInU K) (.str ⟨#[c]⟩) (.str z) (.bool (decide (c ∈ z.cps.toList))) := fun F H Q v w S r1 r2 k => by
  cases r1; cases r2
  exact .inr (.inr (.inr ⟨c, z, rfl, rfl, k F H _ (.rfl S) (.bl _)⟩))
theorem opd_notSign {c : Nat} {z : Str} : OpD (rNotInU K) (.str ⟨#[c]⟩) (.str z) (.bool (!decide (c ∈ z.cps.toList))) := fun F H Q v w S r1 r2 k => by
  cases r1; cases r2
  exact .inr (.inr (.inr ⟨c, z, rfl, rfl, k F H _ (.rfl S) (.bl _)⟩))
/-- flat data: nothing, truths, numbers, texts -/
def flatD : PyData → Bool
  | .none => true | .bool _ => true | .int _ => true | .str _ => true | _ => false
theorem flat_rp {F : Hp} {v : V} {d : PyData} (r : Rp F v d) (h : flatD d = true) : flatV v = true := by
  cases r <;> first | rfl | cases h
theorem flats_rp {F : Hp} : ∀ {ds : List PyData} {vs : List V}, RpAll F vs ds → ds.all flatD = true → vs.all flatV = true
  | [], _, .nil, _ => rfl
  | d :: ds, _, .cons r t, h => by
    rw [List.all_cons, Bool.and_eq_true] at h
    rw [List.all_cons, flat_rp r h.1, flats_rp t h.2]; rfl
theorem eqV_rp {F : Hp} {v w : V} {a b : PyData} (r : Rp F v a) (q : Rp F w b) (ha : flatD a = true) (hb : flatD b = true) : eqV v w = PyData.eqv a b := by
  cases r <;> cases q <;> first | rfl | cases ha | cases hb
theorem inV_rp {F : Hp} {v : V} {d : PyData} (r : Rp F v d) (hd : flatD d = true) : ∀ {ds : List PyData} {vs : List V}, RpAll F vs ds → ds.all flatD = true → inV v vs = ds.any fun z => PyData.eqv z d
  | [], _, .nil, _ => rfl
  | e :: ds, _, .cons q t, h => by
    rw [List.all_cons, Bool.and_eq_true] at h
    show (List.any _ _) = _
    rw [List.any_cons, List.any_cons, eqV_rp q r h.1 hd]
    congr 1
    exact inV_rp r hd t h.2
theorem opd_inF {d : PyData} {ds : List PyData} (hd : flatD d = true) (hs : ds.all flatD = true) : OpD (rInU K) d (.list ds) (.bool (ds.any fun z => PyData.eqv z d)) := fun F H Q v w S r1 r2 k => by
  cases r2 with
  | lst e r =>
    refine .inl ⟨_, _, rfl, .inl (SqL.of (S.lst e)), flat_rp r1 hd, flats_rp r hs, ?_⟩
    rw [if_neg (by decide), inV_rp r1 hd r hs]
    exact k F H _ (.rfl S) (.bl _)
theorem opd_notInF {d : PyData} {ds : List PyData} (hd : flatD d = true) (hs : ds.all flatD = true) : OpD (rNotInU K) d (.list ds) (.bool (!ds.any fun z => PyData.eqv z d)) := fun F H Q v w S r1 r2 k => by
  cases r2 with
  | lst e r =>
    refine .inl ⟨_, _, rfl, .inl (SqL.of (S.lst e)), flat_rp r1 hd, flats_rp r hs, ?_⟩
    rw [if_pos rfl, inV_rp r1 hd r hs]
    exact k F H _ (.rfl S) (.bl _)
theorem opd_inFT {d : PyData} {ds : List PyData} (hd : flatD d = true) (hs : ds.all flatD = true) : OpD (rInU K) d (.tuple ds) (.bool (ds.any fun z => PyData.eqv z d)) := fun F H Q v w S r1 r2 k => by
  cases r2 with
  | tup e r =>
    refine .inl ⟨_, _, rfl, .inr (SqT.of (S.tup e)), flat_rp r1 hd, flats_rp r hs, ?_⟩
    rw [if_neg (by decide), inV_rp r1 hd r hs]
    exact k F H _ (.rfl S) (.bl _)
/-! ### items -/
theorem ixN_len {α β : Type} {xs : List α} {ys : List β} (h : xs.length = ys.length) (i : Int) : ixN xs.length i = ixN ys.length i := by rw [h]
theorem atI_rp {F : Hp} {vs : List V} {ds : List PyData} {i : Int} {d : PyData} (r : RpAll F vs ds) (h : atI ds i = some d) : ∃ v, atI vs i = some v ∧ Rp F v d := by
  unfold atI at h ⊢
  rw [ixN_len r.length]
  cases z : ixN ds.length i with
  | none => rw [z] at h; cases h
  | some j =>
    rw [z] at h
    exact r.get' h
theorem opd_ixT {ds : List PyData} {i : Int} {d : PyData} (h : atI ds i = some d) : OpD (rIx K) (.tuple ds) (.int i) d := fun F H Q v w S r1 r2 k => by
  cases r2
  cases r1 with
  | tup e r =>
    obtain ⟨u, h1, h2⟩ := atI_rp r h
    exact .inr (.inl ⟨_, _, i, u, rfl, rfl, SqT.of (S.tup e), h1, k F H u (.rfl S) h2⟩)
theorem opd_ixL {ds : List PyData} {i : Int} {d : PyData} (h : atI ds i = some d) : OpD (rIx K) (.list ds) (.int i) d := fun F H Q v w S r1 r2 k => by
  cases r2
  cases r1 with
  | lst e r =>
    obtain ⟨u, h1, h2⟩ := atI_rp r h
    exact .inl ⟨_, _, i, u, rfl, rfl, SqL.of (S.lst e), h1, k F H u (.rfl S) h2⟩
theorem opd_ixS {z : Str} {i : Int} {c : Nat} (hz : z.length ≤ sizeLine) (h : atI z.cps.toList i = some c) : OpD (rIx K) (.str z) (.int i) (.str ⟨#[c]⟩) := fun F H Q v w S r1 r2 k => by
  cases r2; cases r1
  exact .inr (.inr ⟨z, i, c, rfl, rfl, hz, h, k F H _ (.rfl S) (.str _)⟩)
theorem atI_nat {α : Type} {xs : List α} {i : Nat} {d : α} (h : xs[i]? = some d) : atI xs (i : Int) = some d := by
  have hl : i < xs.length := (List.getElem?_eq_some_iff.mp h).1
  unfold atI ixN
  rw [if_pos (by omega), if_pos (by omega)]
  show xs[(i : Int).toNat]? = some d
  rw [Int.toNat_natCast]; exact h
/-! items at written places -/
theorem opd_ix0T {a : PyData} {l : List PyData} : OpD (rIx K) (.tuple (a :: l)) (.int 0) a := opd_ixT (atI_nat (i := 0) rfl)
theorem opd_ix0L {a : PyData} {l : List PyData} : OpD (rIx K) (.list (a :: l)) (.int 0) a := opd_ixL (atI_nat (i := 0) rfl)
theorem opd_ix1T {a b : PyData} {l : List PyData} : OpD (rIx K) (.tuple (a :: b :: l)) (.int 1) b := opd_ixT (atI_nat (i := 1) rfl)
theorem opd_ix1L {a b : PyData} {l : List PyData} : OpD (rIx K) (.list (a :: b :: l)) (.int 1) b := opd_ixL (atI_nat (i := 1) rfl)
theorem opd_ix2T {a b c : PyData} {l : List PyData} : OpD (rIx K) (.tuple (a :: b :: c :: l)) (.int 2) c := opd_ixT (atI_nat (i := 2) rfl)
theorem opd_ix2L {a b c : PyData} {l : List PyData} : OpD (rIx K) (.list (a :: b :: c :: l)) (.int 2) c := opd_ixL (atI_nat (i := 2) rfl)
theorem opd_ix3T {a b c d : PyData} {l : List PyData} : OpD (rIx K) (.tuple (a :: b :: c :: d :: l)) (.int 3) d := opd_ixT (atI_nat (i := 3) rfl)
theorem opd_ix3L {a b c d : PyData} {l : List PyData} : OpD (rIx K) (.list (a :: b :: c :: d :: l)) (.int 3) d := opd_ixL (atI_nat (i := 3) rfl)
theorem opd_ix4T {a b c d e : PyData} {l : List PyData} : OpD (rIx K) (.tuple (a :: b :: c :: d :: e :: l)) (.int 4) e := opd_ixT (atI_nat (i := 4) rfl)
theorem opd_ix4L {a b c d e : PyData} {l : List PyData} : OpD (rIx K) (.list (a :: b :: c :: d :: e :: l)) (.int 4) e := opd_ixL (atI_nat (i := 4) rfl)
/-! ### slices -/
def cutD (xs : List PyData) (lo hi : Option Int) : List PyData := (xs.drop (HT.sIx xs.length 0 lo)).take (HT.sIx xs.length xs.length hi - HT.sIx xs.length 0 lo)
theorem cut_rp {F : Hp} {vs : List V} {ds : List PyData} (r : RpAll F vs ds) (lo hi : Option Int) : RpAll F (cutV vs lo hi) (cutD ds lo hi) := by
  unfold cutV cutD
  rw [r.length]
  exact (r.drop _).take _
variable {ρ ρ1 ρ2 ρ3 : List Slot} {ta tb : TE} {x y z : Val} {P : Out → Prop}
def EO1 (t : TO) (ρ : List Slot) (o : Option Int) (ρ' : List Slot) : Prop := ∀ e F σ H (Q : Option Int → Hp → Prop), Sta e F ρ σ H → (∀ F' H', FSub F F' → Sta e F' ρ' σ H' → Q o H') → t σ H Q
theorem eo_none : EO1 tNoPart ρ none ρ := fun e F σ H Q S k => k F H .rfl S
theorem eo_some {i : Int} (h : EV ta ρ (.d (.int i)) ρ1) : EO1 (tPart ta) ρ (some i) ρ1 := fun e F σ H Q S k => h e F σ H _ S fun F' H' v f S' r => by
  cases r; exact ⟨i, rfl, k F' H' f S'⟩
theorem ev_slT {tl th : TO} {ds : List PyData} {lo hi : Option Int} (h : EV ta ρ (.d (.tuple ds)) ρ1) (h1 : EO1 tl ρ1 lo ρ2) (h2 : EO1 th ρ2 hi ρ3) : EV (tSl (rSlU K) ta tl th) ρ (.d (.tuple (cutD ds lo hi))) ρ3 := fun e F σ H Q S k =>
  h e F σ H _ S fun F1 H1 v f1 S1 r1 => h1 e F1 σ H1 _ S1 fun F2 H2 f2 S2 => h2 e F2 σ H2 _ S2 fun F3 H3 f3 S3 => by
    have r : Rp F3 v (.tuple ds) := (Rp.mono f2 r1).mono f3
    cases r with
    | tup e r =>
      refine .inr (.inl ⟨_, _, rfl, SqT.of (S3.sub.tup e), fun hw => ?_, fun hw p hp => ?_⟩)
      · have hcut : cutD ds lo hi = ds := by
          unfold cutD
          rw [r.length] at hw
          rw [hw.1, hw.2]; simp
        rw [hcut] at k
        exact k F3 H3 _ ((f1.trans f2).trans f3) S3 (Rp.tup e r)
      · exact k _ _ _ (((f1.trans f2).trans f3).trans (Al.one S3.sub hp).f) (S3.al (Al.one S3.sub hp)) (Rp.tup upd_same ((cut_rp r lo hi).mono (Al.one S3.sub hp).f))
theorem eo_slL {tl th : TO} {ds : List PyData} {lo hi : Option Int} (h : EV ta ρ (.d (.list ds)) ρ1) (h1 : EO1 tl ρ1 lo ρ2) (h2 : EO1 th ρ2 hi ρ3) : EO (tSl (rSlU K) ta tl th) ρ (.lst (cutD ds lo hi)) ρ3 := fun e F σ H Q S k =>
  h e F σ H _ S fun F1 H1 v f1 S1 r1 => h1 e F1 σ H1 _ S1 fun F2 H2 f2 S2 => h2 e F2 σ H2 _ S2 fun F3 H3 f3 S3 => by
    have r : Rp F3 v (.list ds) := (Rp.mono f2 r1).mono f3
    cases r with
    | lst e r =>
      refine .inl ⟨_, _, rfl, SqL.of (S3.sub.lst e), fun p hp => ?_⟩
      exact k F3 _ p _ ((f1.trans f2).trans f3) (S3.alloc hp) (S3.sub.none hp) upd_same ⟨_, rfl, cut_rp r lo hi⟩ (S3.h0 hp) (S3.fresh hp)
theorem ev_slS {tl th : TO} {zs : Str} {lo hi : Option Int} (hz : zs.length ≤ sizeLine) (h : EV ta ρ (.d (.str zs)) ρ1) (h1 : EO1 tl ρ1 lo ρ2) (h2 : EO1 th ρ2 hi ρ3) : EV (tSl (rSlU K) ta tl th) ρ (.d (.str (cutS zs lo hi))) ρ3 := fun e F σ H Q S k =>
  h e F σ H _ S fun F1 H1 v f1 S1 r1 => h1 e F1 σ H1 _ S1 fun F2 H2 f2 S2 => h2 e F2 σ H2 _ S2 fun F3 H3 f3 S3 => by
    cases r1
    exact .inr (.inr ⟨zs, rfl, hz, k F3 H3 _ ((f1.trans f2).trans f3) S3 (Rp.str _)⟩)
/-! ### built-ins -/
abbrev rLen (K : PySem.W.Frag) : List V → Hp → VK → Prop := fun xs H Q => ∃ x n, xs = [x] ∧ LenV K x H n ∧ Q (.int n) H
theorem call_lenU {X : Cx} : CallR X (.builtin "len") (rLen X.K) := call_len
theorem cd_lenT {ds : List PyData} : CallD (rLen K) [.tuple ds] (.int ds.length) := fun F H Q vs S r k => by
  cases r with
  | cons r t => cases t; cases r with
    | tup e r =>
      refine ⟨_, _, rfl, .inr ⟨_, SqT.of (S.tup e), rfl⟩, ?_⟩
      rw [r.length]; exact k F H _ (.rfl S) (.int _)
theorem cd_lenL {ds : List PyData} : CallD (rLen K) [.list ds] (.int ds.length) := fun F H Q vs S r k => by
  cases r with
  | cons r t => cases t; cases r with
    | lst e r =>
      refine ⟨_, _, rfl, .inl ⟨_, SqL.of (S.lst e), rfl⟩, ?_⟩
      rw [r.length]; exact k F H _ (.rfl S) (.int _)
theorem cd_lenS {z : Str} (h : z.length ≤ sizeLine) : CallD (rLen K) [.str z] (.int z.length) := fun F H Q vs S r k => by
  cases r with
  | cons r t => cases t; cases r; exact ⟨_, _, rfl, ⟨h, rfl⟩, k F H _ (.rfl S) (.int _)⟩
theorem cw_len {ds : List PyData} : CallW (rLen K) (.lst ds) (.int ds.length) := fun F H Q a o S hr ⟨vs, e, r⟩ k => by
  subst e
  refine ⟨_, _, rfl, .inl ⟨_, .inl hr, rfl⟩, ?_⟩
  rw [r.length]; exact k F H _ (.rfl S) (.int _)
/-- the item of a slot's own list -/
theorem ev_ixO {i : Nat} {l : Bool} {ds : List PyData} {j : Int} {d : PyData} (h : EV tb ρ (.d (.int j)) ρ1) (h0 : ∃ l c, ρ[i]? = some (.own l c)) (h1 : ρ1[i]? = some (.own l (.lst ds))) (hd : atI ds j = some d) : EV (tOp (rIx K) (tVar i) tb) ρ (.d d) ρ1 := fun e F σ H Q S k => by
  obtain ⟨l0, c0, h0⟩ := h0
  obtain ⟨a, o, e1, _⟩ := S.own i l0 c0 h0
  refine ⟨.ref a, e1, h e F σ H _ S fun F1 H1 v f1 S1 r1 => ?_⟩
  cases r1
  obtain ⟨b, u, g1, g2, g3, ⟨vs, gv, gr⟩, _⟩ := S1.own i l _ h1
  rw [e1] at g1; cases g1; subst gv
  obtain ⟨w, h5, h6⟩ := atI_rp gr hd
  exact .inl ⟨_, _, j, w, rfl, rfl, SqL.of g3, h5, k F1 H1 w f1 S1 h6⟩
/-- is None -/
def isNone : PyData → Bool
  | .none => true
  | _ => false
theorem decNone {F : Hp} {v : V} {a : PyData} (r : Rp F v a) : decide (v = .non) = isNone a := by cases r <;> simp [isNone]
theorem ev_isN {a : PyData} (h : EV ta ρ (.d a) ρ1) : EV (tIsN ta) ρ (.d (.bool (isNone a))) ρ1 := fun e F σ H Q S k => h e F σ H _ S fun F' H' v f S' r => by
  rw [decNone r]; exact k F' H' _ f S' (Rp.bl _)
theorem ev_notN {a : PyData} (h : EV ta ρ (.d a) ρ1) : EV (tNotN ta) ρ (.d (.bool (!isNone a))) ρ1 := fun e F σ H Q S k => h e F σ H _ S fun F' H' v f S' r => by
  rw [decNone r]; exact k F' H' _ f S' (Rp.bl _)
/-! ### isinstance -/
def tyName : PyData → String
  | .none => "NoneType" | .bool _ => "bool" | .int _ => "int" | .str _ => "str" | .list _ => "list" | .tuple _ => "tuple" | .dict _ => "dict"
theorem tyx_rp {F H : Hp} {v : V} {d : PyData} (S : Sub F H) (r : Rp F v d) : TyX K H v (.type (tyName d)) := by
  cases r with
  | non => exact .base .non
  | bl b => exact .base (.bl b)
  | int i => exact .base (.int i)
  | str x => exact .base (.str x)
  | lst e _ => exact .base (.lst (S.lst e))
  | tup e _ => exact .base (.tup (S.tup e))
theorem ev_isi {d : PyData} {n : String} {b : Bool} (h : EV ta ρ (.d d) ρ1) (hb : kitB (tyName d) n = some b) : EV (tCB (rIsi K) (tCons ta (tCons (tC (.ty n)) tNil))) ρ (.d (.bool b)) ρ1 := fun e F σ H Q S k => h e F σ H _ S fun F' H' v f S' r =>
  ⟨v, .ty n, .type (tyName d), .type n, b, rfl, .ty n, tyx_rp S'.sub r, kit_ty hb, k F' H' _ f S' (Rp.bl _)⟩
theorem ev_isiT2 {d : PyData} {n m : String} {b c : Bool} (h : EV ta ρ (.d d) ρ1) (hb : kitB (tyName d) n = some b) (hc : kitB (tyName d) m = some c) : EV (tCB (rIsiT K) (tCons ta (tCons (tTup (tCons (tC (.ty n)) (tCons (tC (.ty m)) tNil))) tNil))) ρ (.d (.bool (b || c))) ρ1 := fun e F σ H Q S k => h e F σ H _ S fun F' H' v f S' r => by
  refine ⟨(show 2 ≤ sizeLine by decide), fun p hp => ?_⟩
  have A := Al.one (o := .tup [.ty n, .ty m]) S'.sub hp
  refine ⟨v, p, [.ty n, .ty m], .type (tyName d), [.type n, .type m], (b || c), rfl, upd_same, .cons (.ty n) (.cons (.ty m) .nil), tyx_rp A.sub (Rp.mono A.f r), ?_, k _ _ _ (f.trans A.f) (S'.al A) (Rp.bl _)⟩
  refine kitAny_cons (kit_ty hb) (fun z => kitAny_cons (kit_ty hc) (fun y => ?_) fun y => ?_) fun z => ?_
  · subst z; subst y; exact kitAny_nil
  · subst z; subst y; rfl
  · subst z; rfl
end
end Pw

set_option Elab.async false
set_option linter.all false
set_option maxRecDepth 100000
namespace Pw
open PySem L2
def keyD : Key → PyData
  | .inl i => .int i
  | .inr s => .str s
theorem key_rp {F : Hp} {v : V} : ∀ {k : Key}, Rp F v (keyD k) → v = kV k
  | .inl _, h => by cases h; rfl
  | .inr _, h => by cases h; rfl
theorem keys_rp {F : Hp} : ∀ {ks : List Key} {vs : List V}, RpAll F vs (ks.map keyD) → vs = ks.map kV
  | [], _, .nil => rfl
  | k :: ks, _, .cons r t => by rw [key_rp r, keys_rp t]; rfl
section
variable {κ : Type} [DecidableEq κ]
def getD (kvs : List (κ × PyData)) (k : κ) : Option PyData := (kvs.find? fun kv => decide (kv.1 = k)).map (·.2)
def putD (kvs : List (κ × PyData)) (k : κ) (v : PyData) : List (κ × PyData) :=
  if (kvs.any fun kv => decide (kv.1 = k)) = true then kvs.map (fun kv => if kv.1 = k then (kv.1, v) else kv) else kvs ++ [(k, v)]
theorem KRp.get {F : Hp} {k : κ} : ∀ {ws : List (κ × V)} {kvs : List (κ × PyData)}, KRp F ws kvs → match getD kvs k with
    | some d => ∃ v, valV ws k = some v ∧ Rp F v d
    | none => valV ws k = none
  | _, _, .nil => rfl
  | _, _, .cons (k := k') (v := v) (d := d) (ws := ws) (kvs := kvs) r t => by
    have ih := KRp.get (k := k) t
    unfold getD valV at ih ⊢
    rw [List.find?_cons, List.find?_cons]
    by_cases h : k' = k
    · simp only [h, decide_true]; exact ⟨v, rfl, r⟩
    · simp only [h, decide_false]; exact ih
theorem KRp.any {F : Hp} {k : κ} : ∀ {ws : List (κ × V)} {kvs : List (κ × PyData)}, KRp F ws kvs → (ws.any fun kv => decide (kv.1 = k)) = (kvs.any fun kv => decide (kv.1 = k))
  | _, _, .nil => rfl
  | _, _, .cons r t => by rw [List.any_cons, List.any_cons, KRp.any t]
theorem KRp.app {F : Hp} : ∀ {ws ws' : List (κ × V)} {kvs kvs' : List (κ × PyData)}, KRp F ws kvs → KRp F ws' kvs' → KRp F (ws ++ ws') (kvs ++ kvs')
  | _, _, _, _, .nil, s => s
  | _, _, _, _, .cons r t, s => .cons r (KRp.app t s)
theorem KRp.mapSet {F : Hp} {k : κ} {v : V} {d : PyData} (r : Rp F v d) : ∀ {ws : List (κ × V)} {kvs : List (κ × PyData)}, KRp F ws kvs → KRp F (ws.map (fun kv => if kv.1 = k then (kv.1, v) else kv)) (kvs.map (fun kv => if kv.1 = k then (kv.1, d) else kv))
  | _, _, .nil => .nil
  | _, _, .cons (k := k') q t => by
    rw [List.map_cons, List.map_cons]
    by_cases h : k' = k
    · simp only [h, if_true]; exact .cons r (KRp.mapSet r t)
    · simp only [h, if_false]; exact .cons q (KRp.mapSet r t)
theorem KRp.put {F : Hp} {k : κ} {v : V} {d : PyData} (r : Rp F v d) {ws : List (κ × V)} {kvs : List (κ × PyData)} (t : KRp F ws kvs) : KRp F (putK ws k v) (putD kvs k d) := by
  unfold putK putD
  rw [t.any]
  split
  · exact t.mapSet r
  · exact t.app (.cons r .nil)
end
section
variable {K : PySem.W.Frag} {ρ ρ1 ρ2 ρ3 : List Slot} {ta tb tc : TE} {x y z : Val} {P : Out → Prop} {i : Nat} {l : Bool}
/-! ### changes of one's own containers -/
theorem wp_append {ds ds' : List PyData} {d : PyData} (h0 : ρ[i]? = some (.own l (.lst ds))) (h : EV ta ρ (.d d) ρ1) (h1 : ρ1[i]? = some (.own l (.lst ds'))) (hz : ds'.length < sizeLine) (k : P (.nx (ρ1.set i (.own l (.lst (ds' ++ [d])))))) :
    WP (tDrop (tBM K "list" rAppend (tVar i) (tCons ta tNil))) ρ P := fun e F σ H D hX S q => by
  obtain ⟨a, o, e1, e2, e3, ⟨vs, ev, r⟩, _⟩ := S.own i l _ h0
  subst ev
  refine ⟨.ref a, e1, .inl ⟨rfl, _, SqL.of e3⟩, h e F σ H _ S fun F1 H1 v f1 S1 r1 => ?_⟩
  obtain ⟨b, u, g1, g2, g3, ⟨ws, gv, gr⟩, _⟩ := S1.own i l _ h1
  rw [e1] at g1; cases g1; subst gv
  refine ⟨a, ws, v, rfl, rfl, g3, by rw [gr.length]; exact hz, ?_⟩
  exact q _ k F1 σ _ f1 (S1.mut h1 e1 ⟨_, rfl, gr.append (.cons r1 .nil)⟩)
theorem wp_insert {ds ds' : List PyData} {d : PyData} {j : Nat} (h0 : ρ[i]? = some (.own l (.lst ds))) (ha : EV ta ρ (.d (.int j)) ρ1) (h : EV tb ρ1 (.d d) ρ2) (h1 : ρ2[i]? = some (.own l (.lst ds'))) (hz : ds'.length < sizeLine) (hj : j ≤ sizeLine)
    (k : P (.nx (ρ2.set i (.own l (.lst (ds'.take j ++ [d] ++ ds'.drop j)))))) :
    WP (tDrop (tBM K "list" (fun x vs H Q => ∃ (l : Addr) (xs : List V) (i : Int) (y : V), x = .ref l ∧ vs = [.int i, y] ∧ H l = some (.lst xs) ∧ xs.length < sizeLine ∧ 0 ≤ i ∧ i < 2 ^ 63 ∧
    Q .non (upd H l (.lst (xs.take i.toNat ++ [y] ++ xs.drop i.toNat)))) (tVar i) (tCons ta (tCons tb tNil)))) ρ P := fun e F σ H D hX S q => by
  obtain ⟨a, o, e1, e2, e3, ⟨vs, ev, r⟩, _⟩ := S.own i l _ h0
  subst ev
  refine ⟨.ref a, e1, .inl ⟨rfl, _, SqL.of e3⟩, ha e F σ H _ S fun F1 H1 v1 f1 S1 r1 => h e F1 σ H1 _ S1 fun F2 H2 v f2 S2 r2 => ?_⟩
  cases r1
  obtain ⟨b, u, g1, g2, g3, ⟨ws, gv, gr⟩, _⟩ := S2.own i l _ h1
  rw [e1] at g1; cases g1; subst gv
  have hj2 : (j : Int) < 2 ^ 63 := by
    have : sizeLine = 2 ^ 24 := rfl
    omega
  refine ⟨a, ws, j, v, rfl, rfl, g3, by rw [gr.length]; exact hz, Int.natCast_nonneg _, hj2, ?_⟩
  rw [Int.toNat_natCast]
  exact q _ k F2 σ _ (f1.trans f2) (S2.mut h1 e1 ⟨_, rfl, ((gr.take j).append (.cons r2 .nil)).append (gr.drop j)⟩)
/-- xs[j] = e -/
theorem wp_setL {ds : List PyData} {d : PyData} {j : Int} {m : Nat} (h : EV ta ρ (.d d) ρ1) (h0 : ∃ l c, ρ1[i]? = some (.own l c)) (hi : EV tb ρ1 (.d (.int j)) ρ2) (h1 : ρ2[i]? = some (.own l (.lst ds))) (hj : ixN ds.length j = some m)
    (k : P (.nx (ρ2.set i (.own l (.lst (ds.set m d)))))) : WP (tAsg ta (gSub (tVar i) tb rSetL)) ρ P := fun e F σ H D hX S q => h e F σ H _ S fun F1 H1 v f1 S1 r1 => by
  obtain ⟨l0, c0, h0⟩ := h0
  obtain ⟨a, o, e1, _⟩ := S1.own i l0 c0 h0
  refine ⟨.ref a, e1, hi e F1 σ H1 _ S1 fun F2 H2 w f2 S2 r2 => ?_⟩
  cases r2
  obtain ⟨b, u, g1, g2, g3, ⟨ws, gv, gr⟩, _⟩ := S2.own i l _ h1
  rw [e1] at g1; cases g1; subst gv
  refine ⟨a, ws, j, m, rfl, rfl, g3, by rw [gr.length]; exact hj, ?_⟩
  exact q _ k F2 σ _ (f1.trans f2) (S2.mut h1 e1 ⟨_, rfl, gr.set (Rp.mono f2 r1) m⟩)
/-- xs.pop(j) -/
theorem ev_popAt {ds ds' : List PyData} {d : PyData} {j : Nat} (h0 : ρ[i]? = some (.own l (.lst ds))) (ha : EV ta ρ (.d (.int j)) ρ1) (h1 : ρ1[i]? = some (.own l (.lst ds'))) (hz : ds'.length ≤ sizeLine) (hd : ds'[j]? = some d) :
    EV (tBM K "list" rPopAt (tVar i) (tCons ta tNil)) ρ (.d d) (ρ1.set i (.own l (.lst (ds'.eraseIdx j)))) := fun e F σ H Q S k => by
  obtain ⟨a, o, e1, e2, e3, ⟨vs, ev, r⟩, _⟩ := S.own i l _ h0
  subst ev
  refine ⟨.ref a, e1, .inl ⟨rfl, _, SqL.of e3⟩, ha e F σ H _ S fun F1 H1 v1 f1 S1 r1 => ?_⟩
  cases r1
  obtain ⟨b, u, g1, g2, g3, ⟨ws, gv, gr⟩, _⟩ := S1.own i l _ h1
  rw [e1] at g1; cases g1; subst gv
  obtain ⟨w, hw1, hw2⟩ := gr.get' hd
  have hjl : j < ds'.length := (List.getElem?_eq_some_iff.mp hd).1
  have hj2 : (j : Int) < 2 ^ 63 := by
    have : sizeLine = 2 ^ 24 := rfl
    omega
  refine ⟨a, ws, j, j, w, rfl, rfl, g3, by omega, hj2, ?_, hw1, k F1 _ w f1 (S1.mut h1 e1 ⟨_, rfl, gr.eraseIdx j⟩) hw2⟩
  unfold seqIndex?
  simp [gr.length]
  omega
/-! ### dicts -/
theorem wp_dputK {kvs kvs0 : List (Key × PyData)} {k0 : Key} {d : PyData} (h : EV ta ρ (.d d) ρ1) (h0 : ρ1[i]? = some (.own l (.dk kvs0))) (hk : EV tb ρ1 (.d (keyD k0)) ρ2) (h1 : ρ2[i]? = some (.own l (.dk kvs))) (hz : kvs.length < sizeLine)
    (k : P (.nx (ρ2.set i (.own l (.dk (putD kvs k0 d)))))) : WP (sDPut (tVar i) tb ta) ρ P := fun e F σ H D hX S q => h e F σ H _ S fun F1 H1 v f1 S1 r1 => by
  obtain ⟨a, o, e1, _⟩ := S1.own i l _ h0
  refine ⟨.ref a, e1, hk e F1 σ H1 _ S1 fun F2 H2 w f2 S2 r2 => ?_⟩
  have ew := key_rp r2
  subst ew
  obtain ⟨b, u, g1, g2, g3, ⟨ws, gv, gr⟩, _⟩ := S2.own i l _ h1
  rw [e1] at g1; cases g1; subst gv
  refine ⟨a, _, rfl, DPut.k g3 (by rw [gr.length]; exact hz), ?_⟩
  exact q _ k F2 σ _ (f1.trans f2) (S2.mut h1 e1 ⟨_, rfl, gr.put (Rp.mono f2 r1)⟩)
theorem wp_dputT {kvs kvs0 : List (List Key × PyData)} {k0 : List Key} {d : PyData} (h : EV ta ρ (.d d) ρ1) (h0 : ρ1[i]? = some (.own l (.dt kvs0))) (hk : EV tb ρ1 (.d (.tuple (k0.map keyD))) ρ2) (h1 : ρ2[i]? = some (.own l (.dt kvs))) (hz : kvs.length < sizeLine)
    (k : P (.nx (ρ2.set i (.own l (.dt (putD kvs k0 d)))))) : WP (sDPut (tVar i) tb ta) ρ P := fun e F σ H D hX S q => h e F σ H _ S fun F1 H1 v f1 S1 r1 => by
  obtain ⟨a, o, e1, _⟩ := S1.own i l _ h0
  refine ⟨.ref a, e1, hk e F1 σ H1 _ S1 fun F2 H2 w f2 S2 r2 => ?_⟩
  cases r2 with
  | tup q2 r2 =>
    have ew := keys_rp r2
    subst ew
    obtain ⟨b, u, g1, g2, g3, ⟨ws, gv, gr⟩, _⟩ := S2.own i l _ h1
    rw [e1] at g1; cases g1; subst gv
    refine ⟨a, _, rfl, DPut.t g3 (S2.sub.tup q2) (by rw [gr.length]; exact hz), ?_⟩
    exact q _ k F2 σ _ (f1.trans f2) (S2.mut h1 e1 ⟨_, rfl, gr.put (Rp.mono f2 r1)⟩)
/-- what a look into a dict that may be read gives -/
theorem dget_k {F H : Hp} {a : Addr} {ws : List (Key × V)} {kvs : List (Key × PyData)} {k0 : Key} {v : V} (rd : Rd H a (.dK ws)) (gr : KRp F ws kvs) (r : Rp F v (keyD k0)) : match getD kvs k0 with
    | some d => ∃ w, DGet H a v (some w) ∧ Rp F w d
    | none => DGet H a v none := by
  have ew := key_rp r
  subst ew
  have h := gr.get (k := k0)
  cases hg : getD kvs k0 with
  | none => rw [hg] at h; exact .inl ⟨ws, k0, rd, rfl, h.symm⟩
  | some d => rw [hg] at h; obtain ⟨w, h1, h2⟩ := h; exact ⟨w, .inl ⟨ws, k0, rd, rfl, h1.symm⟩, h2⟩
theorem dget_t {F H : Hp} {a : Addr} {ws : List (List Key × V)} {kvs : List (List Key × PyData)} {k0 : List Key} {v : V} (S : Sub F H) (rd : Rd H a (.dT ws)) (gr : KRp F ws kvs) (r : Rp F v (.tuple (k0.map keyD))) : match getD kvs k0 with
    | some d => ∃ w, DGet H a v (some w) ∧ Rp F w d
    | none => DGet H a v none := by
  cases r with
  | tup q r =>
    have ew := keys_rp r
    subst ew
    have h := gr.get (k := k0)
    cases hg : getD kvs k0 with
    | none => rw [hg] at h; exact .inr ⟨ws, k0, _, rd, rfl, S.tup q, h.symm⟩
    | some d => rw [hg] at h; obtain ⟨w, h1, h2⟩ := h; exact ⟨w, .inr ⟨ws, k0, _, rd, rfl, S.tup q, h1.symm⟩, h2⟩
/-- d[k], d frozen -/
theorem ev_dgetK {kvs : List (Key × PyData)} {k0 : Key} {d : PyData} (h : EV ta ρ (.c (.dk kvs)) ρ1) (hk : EV tb ρ1 (.d (keyD k0)) ρ2) (hd : getD kvs k0 = some d) : EV (tDGet ta tb) ρ (.d d) ρ2 := fun e F σ H Q S k =>
  h e F σ H _ S fun F1 H1 v f1 S1 ⟨a, o, ea, eo, ⟨ws, ew, gr⟩⟩ => hk e F1 σ H1 _ S1 fun F2 H2 w f2 S2 r2 => by
    subst ea; subst ew
    have z := dget_k (S2.sub.rd (f2 _ _ eo)) (gr.mono f2) r2
    rw [hd] at z
    obtain ⟨u, z1, z2⟩ := z
    exact ⟨a, u, rfl, z1, k F2 H2 u (f1.trans f2) S2 z2⟩
theorem ev_dgetT {kvs : List (List Key × PyData)} {k0 : List Key} {d : PyData} (h : EV ta ρ (.c (.dt kvs)) ρ1) (hk : EV tb ρ1 (.d (.tuple (k0.map keyD))) ρ2) (hd : getD kvs k0 = some d) : EV (tDGet ta tb) ρ (.d d) ρ2 := fun e F σ H Q S k =>
  h e F σ H _ S fun F1 H1 v f1 S1 ⟨a, o, ea, eo, ⟨ws, ew, gr⟩⟩ => hk e F1 σ H1 _ S1 fun F2 H2 w f2 S2 r2 => by
    subst ea; subst ew
    have z := dget_t S2.sub (S2.sub.rd (f2 _ _ eo)) (gr.mono f2) r2
    rw [hd] at z
    obtain ⟨u, z1, z2⟩ := z
    exact ⟨a, u, rfl, z1, k F2 H2 u (f1.trans f2) S2 z2⟩
/-- d[k], d a slot's own -/
theorem ev_dgetKO {kvs : List (Key × PyData)} {k0 : Key} {d : PyData} (h0 : ρ[i]? = some (.own l (.dk kvs))) (hk : EV tb ρ (.d (keyD k0)) ρ) (hd : getD kvs k0 = some d) : EV (tDGet (tVar i) tb) ρ (.d d) ρ := fun e F σ H Q S k => by
  obtain ⟨a, o, e1, e2, e3, ⟨ws, ev, r⟩, _⟩ := S.own i l _ h0
  refine ⟨.ref a, e1, hk e F σ H _ S fun F2 H2 w f2 S2 r2 => ?_⟩
  obtain ⟨b, u, g1, g2, g3, ⟨ws, gv, gr⟩, _⟩ := S2.own i l _ h0
  rw [e1] at g1; cases g1; subst gv
  have z := dget_k (.inl g3) gr r2
  rw [hd] at z
  obtain ⟨u, z1, z2⟩ := z
  exact ⟨a, u, rfl, z1, k F2 H2 u f2 S2 z2⟩
theorem ev_dgetTO {kvs : List (List Key × PyData)} {k0 : List Key} {d : PyData} (h0 : ρ[i]? = some (.own l (.dt kvs))) (hk : EV tb ρ (.d (.tuple (k0.map keyD))) ρ) (hd : getD kvs k0 = some d) : EV (tDGet (tVar i) tb) ρ (.d d) ρ := fun e F σ H Q S k => by
  obtain ⟨a, o, e1, e2, e3, ⟨ws, ev, r⟩, _⟩ := S.own i l _ h0
  refine ⟨.ref a, e1, hk e F σ H _ S fun F2 H2 w f2 S2 r2 => ?_⟩
  obtain ⟨b, u, g1, g2, g3, ⟨ws, gv, gr⟩, _⟩ := S2.own i l _ h0
  rw [e1] at g1; cases g1; subst gv
  have z := dget_t S2.sub (.inl g3) gr r2
  rw [hd] at z
  obtain ⟨u, z1, z2⟩ := z
  exact ⟨a, u, rfl, z1, k F2 H2 u f2 S2 z2⟩
theorem ev_dinK {kvs : List (Key × PyData)} {k0 : Key} (hk : EV tb ρ (.d (keyD k0)) ρ1) (h : EW ta ρ1 (.dk kvs) ρ2) : EV (tDIn tb ta) ρ (.d (.bool (getD kvs k0).isSome)) ρ2 := fun e F σ H Q S k =>
  hk e F σ H _ S fun F1 H1 v f1 S1 r1 => h e F1 σ H1 _ S1 fun F2 H2 a o f2 S2 rd ⟨ws, ew, gr⟩ => by
    subst ew
    have z := dget_k rd gr (Rp.mono f2 r1)
    cases hg : getD kvs k0 with
    | none => rw [hg] at z k; exact ⟨a, none, rfl, z, k F2 H2 _ (f1.trans f2) S2 (Rp.bl _)⟩
    | some d => rw [hg] at z k; obtain ⟨w, z1, _⟩ := z; exact ⟨a, some w, rfl, z1, k F2 H2 _ (f1.trans f2) S2 (Rp.bl _)⟩
theorem ev_dinT {kvs : List (List Key × PyData)} {k0 : List Key} (hk : EV tb ρ (.d (.tuple (k0.map keyD))) ρ1) (h : EW ta ρ1 (.dt kvs) ρ2) : EV (tDIn tb ta) ρ (.d (.bool (getD kvs k0).isSome)) ρ2 := fun e F σ H Q S k =>
  hk e F σ H _ S fun F1 H1 v f1 S1 r1 => h e F1 σ H1 _ S1 fun F2 H2 a o f2 S2 rd ⟨ws, ew, gr⟩ => by
    subst ew
    have z := dget_t S2.sub rd gr (Rp.mono f2 r1)
    cases hg : getD kvs k0 with
    | none => rw [hg] at z k; exact ⟨a, none, rfl, z, k F2 H2 _ (f1.trans f2) S2 (Rp.bl _)⟩
    | some d => rw [hg] at z k; obtain ⟨w, z1, _⟩ := z; exact ⟨a, some w, rfl, z1, k F2 H2 _ (f1.trans f2) S2 (Rp.bl _)⟩
theorem ev_dniK {kvs : List (Key × PyData)} {k0 : Key} (hk : EV tb ρ (.d (keyD k0)) ρ1) (h : EW ta ρ1 (.dk kvs) ρ2) : EV (tDNotIn tb ta) ρ (.d (.bool (!(getD kvs k0).isSome))) ρ2 := fun e F σ H Q S k =>
  hk e F σ H _ S fun F1 H1 v f1 S1 r1 => h e F1 σ H1 _ S1 fun F2 H2 a o f2 S2 rd ⟨ws, ew, gr⟩ => by
    subst ew
    have z := dget_k rd gr (Rp.mono f2 r1)
    cases hg : getD kvs k0 with
    | none => rw [hg] at z k; exact ⟨a, none, rfl, z, k F2 H2 _ (f1.trans f2) S2 (Rp.bl _)⟩
    | some d => rw [hg] at z k; obtain ⟨w, z1, _⟩ := z; exact ⟨a, some w, rfl, z1, k F2 H2 _ (f1.trans f2) S2 (Rp.bl _)⟩
/-! ### further built-ins -/
abbrev rTupOf (K : PySem.W.Frag) : List V → Hp → VK → Prop := fun xs H Q => ∃ p ys, xs = [.ref p] ∧ ((SqL K H p ys ∧ ∀ l, H l = none → Q (.ref l) (upd H l (.tup ys))) ∨ (SqT K H p ys ∧ Q (.ref p) H))
theorem call_tupU {X : Cx} : CallR X (.type "tuple") (rTupOf X.K) := call_tuple_of
theorem cw_tuple {ds : List PyData} : CallW (rTupOf K) (.lst ds) (.tuple ds) := fun F H Q a o S hr ⟨vs, e, r⟩ k => by
  subst e
  exact ⟨a, vs, rfl, .inl ⟨.inl hr, fun p hp => k _ _ _ (Al.one S hp) (.tup upd_same (r.mono (Al.one S hp).f))⟩⟩
theorem cd_tupT {ds : List PyData} : CallD (rTupOf K) [.tuple ds] (.tuple ds) := fun F H Q vs S r k => by
  cases r with
  | cons r t => cases t; cases r with
    | tup e r => exact ⟨_, _, rfl, .inr ⟨SqT.of (S.tup e), k F H _ (.rfl S) (.tup e r)⟩⟩
abbrev rLstOf (K : PySem.W.Frag) : List V → Hp → VK → Prop := fun xs H Q => ∃ p ys, xs = [.ref p] ∧ (SqL K H p ys ∨ SqT K H p ys) ∧ ∀ l, H l = none → Q (.ref l) (upd H l (.lst ys))
theorem call_lstU {X : Cx} : CallR X (.type "list") (rLstOf X.K) := call_list_of
theorem eo_listT {ds : List PyData} (h : EV ta ρ (.d (.tuple ds)) ρ1) : EO (tCB (rLstOf K) (tCons ta tNil)) ρ (.lst ds) ρ1 := fun e F σ H Q S k => h e F σ H _ S fun F1 H1 v f1 S1 r => by
  cases r with
  | tup q r => exact ⟨_, _, rfl, .inr (SqT.of (S1.sub.tup q)), fun p hp => k F1 _ p _ f1 (S1.alloc hp) (S1.sub.none hp) upd_same ⟨_, rfl, r⟩ (S1.h0 hp) (S1.fresh hp)⟩
theorem eo_listL {ds : List PyData} (h : EW ta ρ (.lst ds) ρ1) : EO (tCB (rLstOf K) (tCons ta tNil)) ρ (.lst ds) ρ1 := fun e F σ H Q S k => h e F σ H _ S fun F1 H1 a o f1 S1 hr ⟨vs, e1, r⟩ => by
  subst e1
  exact ⟨_, _, rfl, .inl (.inl hr), fun p hp => k F1 _ p _ f1 (S1.alloc hp) (S1.sub.none hp) upd_same ⟨_, rfl, r⟩ (S1.h0 hp) (S1.fresh hp)⟩
theorem cw_all {bs : List Bool} : CallW (rAll K) (.lst (bs.map .bool)) (.bool (bs.all id)) := fun F H Q a o S hr ⟨vs, e, r⟩ k => by
  subst e
  rw [r.bools] at hr
  exact ⟨a, bs, rfl, .inl hr, k F H _ (.rfl S) (.bl _)⟩
theorem cw_any {bs : List Bool} : CallW (rAny K) (.lst (bs.map .bool)) (.bool (bs.any id)) := fun F H Q a o S hr ⟨vs, e, r⟩ k => by
  subst e
  rw [r.bools] at hr
  exact ⟨a, bs, rfl, .inl hr, k F H _ (.rfl S) (.bl _)⟩
theorem cw_sum {ns : List Int} : CallW (rSum K) (.lst (ns.map .int)) (.int ns.sum) := fun F H Q a o S hr ⟨vs, e, r⟩ k => by
  subst e
  rw [r.ints] at hr
  exact ⟨a, ns, rfl, .inl hr, k F H _ (.rfl S) (.int _)⟩
theorem rpAll_strs {F : Hp} : ∀ zs : List Str, RpAll F (zs.map V.str) (zs.map PyData.str)
  | [] => .nil
  | z :: zs => .cons (.str z) (rpAll_strs zs)
theorem eo_sortedS {xs : List Str} {Rf : List Slot → List Str → Prop} (hz : xs.length < 64) (h : EW ta ρ (.lst (xs.map .str)) ρ1) (ys : List Str) (hy : ∀ zs : List Str, zs.Perm xs → PyProof.Rows.sortedS zs = true → zs = ys) : EO (tCB (rSortedS K) (tCons ta tNil)) ρ (.lst (ys.map .str)) ρ1 := fun e F σ H Q S k => h e F σ H _ S fun F1 H1 a o f1 S1 hr ⟨vs, e1, r⟩ => by
  subst e1
  rw [r.strs] at hr
  refine ⟨a, xs, rfl, .inl hr, hz, fun zs p hp hs hn => ?_⟩
  have e := hy zs hp hs
  subst e
  exact k F1 _ p _ f1 (S1.alloc hn) (S1.sub.none hn) upd_same ⟨_, rfl, rpAll_strs zs⟩ (S1.h0 hn) (S1.fresh hn)
abbrev rInt1 : List V → Hp → VK → Prop := fun xs H Q => (∃ i, xs = [.int i] ∧ Q (.int i) H) ∨ ∃ k, xs = [.bl k] ∧ Q (.int (if k then 1 else 0)) H
theorem cd_int {i : Int} : CallD rInt1 [.int i] (.int i) := fun F H Q vs S r k => by
  cases r with
  | cons r t => cases t; cases r; exact .inl ⟨i, rfl, k F H _ (.rfl S) (.int _)⟩
abbrev rAbs : List V → Hp → VK → Prop := fun xs H Q => ∃ i, xs = [.int i] ∧ Q (.int (if i < 0 then -i else i)) H
theorem cd_abs {i : Int} : CallD rAbs [.int i] (.int (if i < 0 then -i else i)) := fun F H Q vs S r k => by
  cases r with
  | cons r t => cases t; cases r; exact ⟨i, rfl, k F H _ (.rfl S) (.int _)⟩
abbrev rMax2 : List V → Hp → VK → Prop := fun xs H Q => ∃ i j, xs = [.int i, .int j] ∧ Q (.int (if j > i then j else i)) H
abbrev rMin2 : List V → Hp → VK → Prop := fun xs H Q => ∃ i j, xs = [.int i, .int j] ∧ Q (.int (if j < i then j else i)) H
theorem cd_max2 {i j : Int} : CallD rMax2 [.int i, .int j] (.int (max i j)) := fun F H Q vs S r k => by
  have e : max i j = if j > i then j else i := by omega
  cases r with
  | cons r t => cases r; cases t with
    | cons r t => cases t; cases r; exact ⟨i, j, rfl, by rw [← e]; exact k F H _ (.rfl S) (.int _)⟩
theorem cd_min2 {i j : Int} : CallD rMin2 [.int i, .int j] (.int (min i j)) := fun F H Q vs S r k => by
  have e : min i j = if j < i then j else i := by omega
  cases r with
  | cons r t => cases r; cases t with
    | cons r t => cases t; cases r; exact ⟨i, j, rfl, by rw [← e]; exact k F H _ (.rfl S) (.int _)⟩
/-- a <= b <= c -/
theorem ev_chain {r r' : R2} {a b c : PyData} {p q : Bool} (h1 : EV ta ρ (.d a) ρ) (h2 : EV tb ρ (.d b) ρ) (h3 : p = true → EV tc ρ (.d c) ρ) (o1 : OpD r a b (.bool p)) (o2 : p = true → OpD r' b c (.bool q)) : EV (tChain r r' ta tb tc) ρ (.d (.bool (p && q))) ρ := fun e F σ H Q S k =>
  h1 e F σ H _ S fun F1 H1 v f1 S1 r1 => h2 e F1 σ H1 _ S1 fun F2 H2 w f2 S2 r2 => o1 F2 H2 _ v w S2.sub (Rp.mono f2 r1) r2 fun F3 H3 u A r3 => by
    cases r3
    refine ⟨p, rfl, ?_⟩
    have f3 := (f1.trans f2).trans A.f
    cases p with
    | false => rw [if_neg (by decide)]; exact k F3 H3 _ f3 (S2.al A) (Rp.bl _)
    | true =>
      rw [if_pos rfl]
      exact h3 rfl e F3 σ H3 _ (S2.al A) fun F4 H4 z f4 S4 r4 => o2 rfl F4 H4 _ w z S4.sub ((Rp.mono A.f r2).mono f4) r4 fun F5 H5 u5 A5 r5 => k F5 H5 u5 ((f3.trans f4).trans A5.f) (S4.al A5) r5
end
end Pw

set_option Elab.async false
set_option linter.all false
set_option maxRecDepth 100000
namespace Pw
open PySem L2
section
variable {P : Program} {w : World} {K : PySem.W.Frag} {mg : Str → Option Value} {base : Heap}
/-- a def of the text under its name -/
def Df (K : PySem.W.Frag) (mg : Str → Option Value) (x : Str) (s : Stmt) : Prop := ∃ (f : Addr) (fd : FuncData), FunD K x x (defArgs s) (defBody s) (defScope s) [] [] f fd ∧ mg x = some (.ref f)
/-- a def that keeps its promise, called by its name -/
def Cal (P : Program) (w : World) (K : PySem.W.Frag) (mg : Str → Option Value) (base : Heap) (k : Nat) (x : Str) (ps : List Str) (sp : Sp) : Prop :=
  ∃ (f : Addr) (fd : FuncData), FnOk P w K mg base CX0 k f fd ps sp ∧ mg x = some (.ref f) ∧ PySem.W.keepIn K (.ref f) = true ∧ Binds K fd ps []
theorem Cal.mono {j k : Nat} {x : Str} {ps : List Str} {sp : Sp} (c : Cal P w K mg base j x ps sp) (h : j ≤ k) : Cal P w K mg base k x ps sp := by
  obtain ⟨f, fd, F, r⟩ := c
  exact ⟨f, fd, F.mono h, r⟩
theorem Cal.imp {k : Nat} {x : Str} {ps : List Str} {sp sp' : Sp} (c : Cal P w K mg base k x ps sp) (h : ∀ vs H Q E, sp' vs H Q E → sp vs H Q E) : Cal P w K mg base k x ps sp' := by
  obtain ⟨f, fd, F, r⟩ := c
  exact ⟨f, fd, F.imp h, r⟩
theorem cal_mk {x : Str} {s : Stmt} {N ps : List Str} {k : Nat} {sp : Sp} (D : Df K mg x s) (S : FnScope N ps (defScope s)) (len : ∀ vs H Q E, sp vs H Q E → vs.length = ps.length)
    (hb : ∀ (kV doc pm : Value) (an : Option Addr) (cdv ct : Value) (us : List Value), us.length = ps.length → bindArgs (PySem.W.fnOf x x (defArgs s) (defBody s) (defScope s) .none kV doc pm an cdv ct) ⟨us, []⟩ = pure (ps.zip us))
    (hbody : ∀ (f : Addr) (cdv : Value) (A : Around) (outer : List Env) (st : Shared) (H : Hp) (vs : List V) (Q : VK) (E : XK), Room k (A.deeper (PyProof.Rows.envOfC x (defScope s) st.heap.objs.size f cdv)) → sp vs H Q E →
      ∃ t, PSs (cxOf CX0 P w K mg base N x (defScope s) f cdv A outer st H E).nox (defBody s) t ∧ t { nx := fun _ H' => Q .non H', rt := Q } (L2.start N vs) H) : Cal P w K mg base (k + 1) x ps sp := by
  obtain ⟨f, fd, F, hm⟩ := D
  refine ⟨f, fd, F.ok S len fun cdv A outer st H vs Q E hr h => ?_, hm, F.kp, F.bindsN hb⟩
  obtain ⟨t, h1, h2⟩ := hbody f cdv A outer st H vs Q E hr h
  exact ⟨t, h1.nox, h2⟩
end
section
variable {X : Cx} {j k : Nat} {x : Str} {ps : List Str} {sp : Sp} {p pos : Pos} {e : Expr} {es : List Expr} {t : TA}
theorem pe_cal (c : Cal X.prog X.w X.K X.mg X.base k x ps sp) (hr : Room j X.A) (hk : k ≤ j) (hg : Gl X x) (ha : PA X (e :: es) t) (hdb : (x == ("__debug__" : Str)) = false := by decide)
    (he : starEach (e :: es) X.env = (false, eval e X.env) :: starEach es X.env := by rfl) (hpl : (backTo pos (starEach es X.env)).any (·.1) = false := by rfl) : PE X (.Call (.Name x p) (e :: es) [] pos) (tCall sp [] E0 t) := by
  obtain ⟨f, fd, F, hm, kp, b⟩ := c
  exact pe_call F (hr.mono hk) hg hm kp b .nil pass0 ha hdb he hpl
end
/-- defs of data alone, by the number of arguments -/
inductive G1 (f : PyData → PyData → Prop) : List PyData → PyData → Prop
  | mk {a y : PyData} (h : f a y) : G1 f [a] y
inductive G2 (f : PyData → PyData → PyData → Prop) : List PyData → PyData → Prop
  | mk {a b y : PyData} (h : f a b y) : G2 f [a, b] y
inductive G3 (f : PyData → PyData → PyData → PyData → Prop) : List PyData → PyData → Prop
  | mk {a b c y : PyData} (h : f a b c y) : G3 f [a, b, c] y
inductive G4 (f : PyData → PyData → PyData → PyData → PyData → Prop) : List PyData → PyData → Prop
  | mk {a b c d y : PyData} (h : f a b c d y) : G4 f [a, b, c, d] y
abbrev sp1 (f : PyData → PyData → Prop) : Sp := spG (pureG (G1 f))
abbrev sp2 (f : PyData → PyData → PyData → Prop) : Sp := spG (pureG (G2 f))
abbrev sp3 (f : PyData → PyData → PyData → PyData → Prop) : Sp := spG (pureG (G3 f))
abbrev sp4 (f : PyData → PyData → PyData → PyData → PyData → Prop) : Sp := spG (pureG (G4 f))
theorem len_of {g : List Arg → Ret → (Nat → Cont) → Prop} {n : Nat} (h : ∀ as ret outs, g as ret outs → as.length = n) {vs : List V} {H : Hp} {Q : VK} {E : XK} (s : spG g vs H Q E) : vs.length = n := by
  obtain ⟨F, as, ret, outs, _, A, _, hg, _⟩ := s
  rw [A.length, h as ret outs hg]
theorem len_pure {f : List PyData → PyData → Prop} {n : Nat} (h : ∀ ds y, f ds y → ds.length = n) {vs : List V} {H : Hp} {Q : VK} {E : XK} (s : spG (pureG f) vs H Q E) : vs.length = n :=
  len_of (fun as ret outs hg => by
    obtain ⟨ds, y, rfl, e, _⟩ := hg
    rw [List.length_map]; exact h ds y e) s
section
variable {N : List Str} {t : TS} {vs : List V} {H : Hp} {Q : VK} {E : XK}
theorem len1 {f : PyData → PyData → Prop} (s : sp1 f vs H Q E) : vs.length = 1 := len_pure (fun _ _ h => by cases h; rfl) s
theorem len2 {f : PyData → PyData → PyData → Prop} (s : sp2 f vs H Q E) : vs.length = 2 := len_pure (fun _ _ h => by cases h; rfl) s
theorem len3 {f : PyData → PyData → PyData → PyData → Prop} (s : sp3 f vs H Q E) : vs.length = 3 := len_pure (fun _ _ h => by cases h; rfl) s
theorem len4 {f : PyData → PyData → PyData → PyData → PyData → Prop} (s : sp4 f vs H Q E) : vs.length = 4 := len_pure (fun _ _ h => by cases h; rfl) s
theorem wp1 {f : PyData → PyData → Prop} (s : sp1 f vs H Q E) (h : ∀ a y, f a y → WP t (rhoD N [a]) (GoodP y)) : t { nx := fun _ H' => Q .non H', rt := Q } (L2.start N vs) H :=
  wp_pure s fun ds y e _ => by cases e with | mk e => exact h _ y e
theorem wp2 {f : PyData → PyData → PyData → Prop} (s : sp2 f vs H Q E) (h : ∀ a b y, f a b y → WP t (rhoD N [a, b]) (GoodP y)) : t { nx := fun _ H' => Q .non H', rt := Q } (L2.start N vs) H :=
  wp_pure s fun ds y e _ => by cases e with | mk e => exact h _ _ y e
theorem wp3 {f : PyData → PyData → PyData → PyData → Prop} (s : sp3 f vs H Q E) (h : ∀ a b c y, f a b c y → WP t (rhoD N [a, b, c]) (GoodP y)) : t { nx := fun _ H' => Q .non H', rt := Q } (L2.start N vs) H :=
  wp_pure s fun ds y e _ => by cases e with | mk e => exact h _ _ _ y e
theorem wp4 {f : PyData → PyData → PyData → PyData → PyData → Prop} (s : sp4 f vs H Q E) (h : ∀ a b c d y, f a b c d y → WP t (rhoD N [a, b, c, d]) (GoodP y)) : t { nx := fun _ H' => Q .non H', rt := Q } (L2.start N vs) H :=
  wp_pure s fun ds y e _ => by cases e with | mk e => exact h _ _ _ _ y e
end
section
variable {t : TA} {ρ ρ1 ρ2 ρ3 ρ4 : List Slot} {E : XK} {ta tb tc td : TE} {a b c d y : PyData}
theorem ev_c1 {f : PyData → PyData → Prop} (h1 : EV ta ρ (.d a) ρ1) (hf : f a y) : EV (tCall (sp1 f) [] E (tCons ta tNil)) ρ (.d y) ρ1 := ev_pure (ds := [a]) (ea_cons h1 ea_nil) (.mk hf)
theorem ev_c2 {f : PyData → PyData → PyData → Prop} (h1 : EV ta ρ (.d a) ρ1) (h2 : EV tb ρ1 (.d b) ρ2) (hf : f a b y) : EV (tCall (sp2 f) [] E (tCons ta (tCons tb tNil))) ρ (.d y) ρ2 := ev_pure (ds := [a, b]) (ea_cons h1 (ea_cons h2 ea_nil)) (.mk hf)
theorem ev_c3 {f : PyData → PyData → PyData → PyData → Prop} (h1 : EV ta ρ (.d a) ρ1) (h2 : EV tb ρ1 (.d b) ρ2) (h3 : EV tc ρ2 (.d c) ρ3) (hf : f a b c y) : EV (tCall (sp3 f) [] E (tCons ta (tCons tb (tCons tc tNil)))) ρ (.d y) ρ3 := ev_pure (ds := [a, b, c]) (ea_cons h1 (ea_cons h2 (ea_cons h3 ea_nil))) (.mk hf)
theorem ev_c4 {f : PyData → PyData → PyData → PyData → PyData → Prop} (h1 : EV ta ρ (.d a) ρ1) (h2 : EV tb ρ1 (.d b) ρ2) (h3 : EV tc ρ2 (.d c) ρ3) (h4 : EV td ρ3 (.d d) ρ4) (hf : f a b c d y) : EV (tCall (sp4 f) [] E (tCons ta (tCons tb (tCons tc (tCons td tNil))))) ρ (.d y) ρ4 := ev_pure (ds := [a, b, c, d]) (ea_cons h1 (ea_cons h2 (ea_cons h3 (ea_cons h4 ea_nil)))) (.mk hf)
end
/-! ### the rules with the written part by its name -/
section
variable {X : Cx} {K : PySem.W.Frag}
theorem op_plusK (K : PySem.W.Frag) (h : X.K = K := by rfl) : OpR X (binaryOp .Add) (rPlus K) := h ▸ op_plus
theorem op_eqK (K : PySem.W.Frag) (hu : X.A.units + 64 < cLine) (h : X.K = K := by rfl) : OpR X (compareOp .Eq) (rEqU K) := h ▸ op_eqU hu
theorem op_neK (K : PySem.W.Frag) (hu : X.A.units + 64 < cLine) (h : X.K = K := by rfl) : OpR X (compareOp .NotEq) (rNeU K) := h ▸ op_neU hu
theorem op_inK (K : PySem.W.Frag) (hu : X.A.units + 65 < cLine) (h : X.K = K := by rfl) : OpR X (compareOp .In) (rInU K) := h ▸ op_inU hu
theorem op_notInK (K : PySem.W.Frag) (hu : X.A.units + 65 < cLine) (h : X.K = K := by rfl) : OpR X (compareOp .NotIn) (rNotInU K) := h ▸ op_notInU hu
theorem ix_K (K : PySem.W.Frag) (h : X.K = K := by rfl) : IxR X (rIx K) := h ▸ ix_seq
theorem sl_K (K : PySem.W.Frag) (h : X.K = K := by rfl) : SlR X (rSlU K) := h ▸ sl_any
theorem call_lenK (K : PySem.W.Frag) (h : X.K = K := by rfl) : CallR X (.builtin "len") (rLen K) := h ▸ call_lenU
theorem call_isiK' (K : PySem.W.Frag) (h : X.K = K := by rfl) : CallR X (.builtin "isinstance") (rIsi K) := h ▸ call_isi
theorem call_isiTK (K : PySem.W.Frag) (h : X.K = K := by rfl) : CallR X (.builtin "isinstance") (rIsiT K) := h ▸ call_isiT
theorem cr_allK (K : PySem.W.Frag) (hc : X.calm = true) (h : X.K = K := by rfl) : CallR X (.builtin "all") (rAll K) := h ▸ cr_all hc
theorem cr_anyK (K : PySem.W.Frag) (hc : X.calm = true) (h : X.K = K := by rfl) : CallR X (.builtin "any") (rAny K) := h ▸ cr_any hc
theorem cr_sumK (K : PySem.W.Frag) (hc : X.calm = true) (h : X.K = K := by rfl) : CallR X (.builtin "sum") (rSum K) := h ▸ cr_sum hc
theorem cr_sortedSK (K : PySem.W.Frag) (h : X.K = K := by rfl) : CallR X (.builtin "sorted") (rSortedS K) := h ▸ cr_sortedS
theorem call_tupK (K : PySem.W.Frag) (h : X.K = K := by rfl) : CallR X (.type "tuple") (rTupOf K) := h ▸ call_tupU
theorem call_lstK (K : PySem.W.Frag) (h : X.K = K := by rfl) : CallR X (.type "list") (rLstOf K) := h ▸ call_lstU
theorem pi_listK {tg l : Expr} {tl : TE} (K : PySem.W.Frag) (hl : PE X l tl) (h : X.K = K := by rfl) : PI X tg l (iList K tl) := h ▸ pi_list hl
theorem pi_tupK {tg l : Expr} {tl : TE} (K : PySem.W.Frag) (hl : PE X l tl) (h : X.K = K := by rfl) : PI X tg l (iTup K tl) := h ▸ pi_tup hl
theorem pi_LT {tg l : Expr} {tl : TE} (K : PySem.W.Frag) (hl : PE X l tl) (h : X.K = K := by rfl) : PI X tg l (iOr (iList K tl) (iTup K tl)) := pi_or (pi_listK K hl h) (pi_tupK K hl h)
theorem pg_TL {es : List Expr} {k : Nat} {t : TGs} {n : Nat} {pos : Pos} (K : PySem.W.Frag) (hc : X.calm = true) (hg : PGs X es t) (h : X.K = K := by rfl)
    (hn : (assignEach es X.env).length = n := by rfl) (hst : (assignEach es X.env).findIdx? (·.1) = none := by rfl) : PG X (.Tuple es k pos) (gOr (gTup K n t) (gLst K n t)) := h ▸ pg_or (pg_tup hc hg hn hst) (pg_lst hc hg hn hst)
theorem pe_bmK {T : String} {name : Str} {id : String} {r : V → List V → Hp → VK → Prop} {o e : Expr} {es : List Expr} {to : TE} {t : TA} {apos cpos : Pos} (K : PySem.W.Frag) (pa : PySem.PlainAttrs T) (slot : PySem.Slot T name id) (hty : typeOf (.builtin id) = pure (.type "method_descriptor")) (hm : MtR X id r) (ho : PE X o to) (ha : PA X (e :: es) t) (h : X.K = K := by rfl)
    (hbase : attributeBase o name X.env (eval o X.env) = eval o X.env := by rfl)
    (hfew : ((backTo cpos (starEach (e :: es) X.env)).all (fun x => !x.1) && (backToKw cpos (keywordEach [] X.env)).all (fun x => x.1.isSome)
      && decide ((e :: es).length + ([] : List Keyword).length + (if ([] : List Keyword).isEmpty then 0 else 1) < 30)) = true := by rfl)
    (hline : (apos.endLine == cpos.line) = true := by rfl) (hs : starEach (e :: es) X.env = (false, eval e X.env) :: starEach es X.env := by rfl) (hplain : (backTo cpos (starEach es X.env)).any (·.1) = false := by rfl) :
    PE X (.Call (.Attribute o name apos) (e :: es) [] cpos) (tBM K T r to t) := h ▸ pe_bm pa slot hty hm ho ha hbase hfew hline hs hplain
end
end Pw

set_option Elab.async false
set_option linter.all false
set_option maxRecDepth 100000
/-! Own exception classes two steps below Exception, with an __init__ that keeps its argument: made, raised, caught, read. -/
namespace PySem
namespace PwX
open Builtin Builtin.ObjectAttr PySem.ESX
/-- the line of classes of such a class -/
abbrev line2 (C M : Addr) : List Value := .ref C :: .ref M :: exTail
section
variable {prog : Program} {w : World} {A : Around} {E : Value → Shared → Prop} {R : Result → Shared → Prop} {hp : Heap} {g : Array GenState} {d : Drawn} {t : Nat} {os : OsState}
theorem keep_first {K : W.Frag} {name : Str} {tk : Tok} {v : Value} {x C M : Addr} {fv : Array Value} {cd : ClassData} (X : K.In hp) (hx : hp.get? x = some { cls := .ref C, data := .fields fv }) (hcd : W.clsIn K C = some cd)
    (hm : cd.mro = line2 C M) (hh : cd.hasDict = true) (ha : W.findIn K (.ref C) name = some none)
    (hq : ∀ h' tk' dx, (∀ b o, b ≠ x → hp.get? b = some o → h'.get? b = some o) → hp.objs.size ≤ dx → dx ≠ x → h'.get? x = some { cls := .ref C, dict := some dx, data := .fields fv } →
      h'.Ns1 dx (fun y => if y = name then some v else none) → R (.ok (.ret .none)) ⟨h', g, d, tk', os⟩) :
    codeAny (model prog w) A (.call (.builtin "object.__setattr__") ⟨[.ref x, .str name tk, v], []⟩) R ⟨hp, g, d, t, os⟩ := by
  have J : W.InstAt hp x { cls := .ref C, data := .fields fv } C none := ⟨hx, rfl, rfl, trivial⟩
  have SO := F.store_object
  have away : x ≠ hp.objs.size := Nat.ne_of_lt (Heap.lt_size hx)
  have anObject : W.Looks (model prog w) hp (isInstance (.ref x) (.type "object")) true := by
    refine J.type.andThen (W.looks_mroIn X ?_)
    unfold W.mroIn
    rw [hcd, Option.bind_some, hm]
    rfl
  refine codeAny_call_builtin SO.slot.plain SO.entry ?_
  refine @W.check_slot (model prog w) _ _ ⟨hp, g, d, t, os⟩ "object.__setattr__" "object" "__setattr__" (.ref x) [.str name tk, v] [] _ SO.kind SO.split anObject (SO.args (.ref x) (.str name tk) v) ?_
  have pass : refuseLoop (.ref x) "__setattr__" cd.mro = pure () := by
    rw [hm, refuseLoop_ref, refuseLoop_ref]
    exact F.store_Exception.passes _
  have mroL : W.Looks (model prog w) hp (mroOf (.ref C)) cd.mro := (W.looks_clsIn X hcd).andThen .now
  have noTaker : W.Looks (model prog w) hp (storeTaker? none) none := .now
  have clsL : W.Looks (model prog w) hp (classData C) cd := W.looks_clsIn X hcd
  rw [W.osa_eq, refuse_eq]
  refine wpAny_bind (wpAny_bind ?_)
  refine J.type.at (wpAny_bind (mroL.at ?_))
  rw [pass]
  refine wpAny_pure (wpAny_bind ?_)
  refine J.type.at (wpAny_bind ?_)
  refine (W.looks_findIn X ha).at (wpAny_bind (noTaker.at ?_))
  show wpAny _ _ (storeInOwnDict (.ref x) (.ref C) (.str name tk) name v false) _ _ _
  cases cd
  dsimp only at hh
  subst hh
  unfold storeInOwnDict ownDictForStores
  repeat (first
    | (with_reducible refine HandSPX.store_in_new ?_ ?_)
    | (with_reducible refine wpAny_loadPart_at hx ?_)
    | (with_reducible refine clsL.at ?_)
    | wp_step)
  case refine_1 => exact ⟨_, #[], _, (Heap.get?_update_ne _ _ _ _ away.symm).trans (Heap.get?_push_at rfl rfl), rfl, fun _ z => absurd z (by simp), fun _ => rfl⟩
  case refine_2 =>
    intro h2 tk2 inDict same
    have there : (hp.push { cls := .type "dict", data := .dict #[] }).get? x = some { cls := .ref C, data := .fields fv } := Heap.get?_push_of_some _ hx
    refine hq h2 tk2 hp.objs.size ?_ (Nat.le_refl _) away.symm ?_ inDict
    · intro b o nb ob
      rw [same.2 b (Nat.ne_of_lt (Heap.lt_size ob)), Heap.get?_update_ne _ _ _ _ nb]
      exact Heap.get?_push_of_some _ ob
    · rw [same.2 x away]
      exact Heap.get?_update_self _ there rfl
end
end PwX
end PySem

namespace Pw
open PySem L2 PySem.Spec PyProof.Rows
/-- what the written part says of such a class -/
structure ExC (K : PySem.W.Frag) (C : Addr) : Prop where
  cls : ∃ M nm q N bs sn sub ab col dd k0 k1 k2 k3 k5, K.lookup C = some (excClassObj nm q C N bs (.ref M :: PySem.ESX.exTail) true sn sub ab col dd k0 k1 k2 k3 k5 "Exception.__new__")
  sa : PySem.W.findIn K (.ref C) "__setattr__" = some (some (.builtin "object.__setattr__"))
  exC : PySem.W.subIn K (.ref C) (.type "BaseException") = some true
  tyC : PySem.W.typeIn K (.ref C) = some (.type "type")
  kC : PySem.W.keepIn K (.ref C) = true
section
variable {X : Cx} {pins : List (Addr × Obj)} {σ : L2.St} {H : Hp} {s : Shared} {a C dx : Addr} {f : Str} {y : V} {u : Value} {A : Around}
/-- self.f = y upon an exception that has no dict as yet -/
theorem first_field {Q : Unit → Shared → Prop} {E : Value → Shared → Prop} (T : ExC X.K C) (I : Inv X pins σ H s) (e : H a = some (exo a C none)) (hno : PySem.W.findIn X.K (.ref C) f = some none) (ry : RelV y u)
    (h : ∀ dx s', H dx = none → dx ≠ a → Inv X pins σ (upd (upd H dx (exd dx [(f, y)])) a (exo a C (some dx))) s' → Q () s') : wpAny (model X.prog X.w) A (setAttr (.ref a) f u) Q E s := by
  obtain ⟨M, nm, q, N, bs, sn, sub, ab, col, dd, k0, k1, k2, k3, k5, hC⟩ := T.cls
  have hcl : PySem.W.clsIn X.K C = some { name := nm, bases := bs, mro := PySem.PwX.line2 C M, ns := N, qualname := q, hasDict := true, slotNames := sn, subclasses := sub, abstract := ab, collection := col, hasDel := false } := by
    unfold PySem.W.clsIn
    rw [hC]
    all_goals rfl
  obtain ⟨t1, ho⟩ := exo_at I.hok e
  cases s with
  | mk hp g d t os =>
  refine PySem.W.set_plain I.kIn (od := none) ⟨ho, rfl, rfl, trivial⟩ T.sa ?_
  refine PySem.PwX.keep_first I.kIn ho hcl rfl rfl hno fun h2 tk2 dx kept dnew dne now inD => ?_
  have free : H dx = none := I.hok.fresh dnew
  have older : ∀ {b : Addr} {o : Obj}, hp.get? b = some o → b ≠ dx := fun q => Nat.ne_of_lt (Nat.lt_of_lt_of_le (Heap.lt_size q) dnew)
  have other : ∀ {b : Addr}, H b = none → b ≠ a := fun n z => by
    subst z
    rw [e] at n
    cases n
  have look : ∀ {b : Addr} {o : HO}, H b = some o → (∀ z : exo a C none = o, False) → upd (upd H dx (exd dx [(f, y)])) a (exo a C (some dx)) b = some o := fun {b o} hb no => by
    have nb : b ≠ a := fun z => by
      subst z
      rw [e] at hb
      exact no (Option.some.inj hb)
    rw [upd_ne nb, upd_ne (ne_of_none hb free)]
    exact hb
  have turn : Un X.fs [] H (upd (upd H dx (exd dx [(f, y)])) a (exo a C (some dx))) hp h2 := {
    keep := fun b o ob nb _ _ => kept b o (other nb) ob
    slot := fun b o ob nb _ _ => ⟨o.slots, kept b o (other nb) ob⟩
    free := fun b o ob nb _ => by
      rw [upd_ne (other nb), upd_ne (older ob)]
      exact nb
    there := fun b o ob _ => by
      by_cases hb : b = a
      · subst hb
        exact ⟨_, now⟩
      · exact ⟨o, kept b o hb ob⟩
    tups := fun b xs hb => look hb exo_tup
    frzs := fun b o v hb => look hb exo_frz
    tbls := fun b ps hb => ⟨#[], by
      rw [look hb exo_tbl]
      simp⟩ }
  refine h dx _ free dne (I.un (t' := tk2) turn fun b o hb => ?_)
  by_cases z : b = a
  · subst z
    rw [upd_same] at hb
    cases hb
    exact exo_ok now
  · rw [upd_ne z] at hb
    by_cases z2 : b = dx
    · subst z2
      rw [upd_same] at hb
      cases hb
      exact exd_ok inD (relO_put (fs := []) ry fun _ => True.intro)
    · rw [upd_ne z2] at hb
      refine (I.hok b o hb).stay (fun c v hc oc => kept c v (fun zc => ?_) oc) (fun c hc => look hc exo_own) fun c xs hc => look hc exo_tup
      subst zc
      rcases hc with hc | hc
      · exact z hc.symm
      · rw [e] at hc
        exact exo_own (Option.some.inj hc)
end
/-- self.f = e -/
def tExst (K : PySem.W.Frag) (f : Str) (to te : TE) : TS := fun D σ H => te σ H fun y H1 => to σ H1 fun x H2 => ∃ a C : Addr, x = .ref a ∧ ExC K C ∧ PySem.W.findIn K (.ref C) f = some none ∧ H2 a = some (exo a C none) ∧
  ∀ dx, H2 dx = none → dx ≠ a → D.nx σ (upd (upd H2 dx (exd dx [(f, y)])) a (exo a C (some dx)))
/-- an __init__ that keeps its one argument as f -/
def spKeep (K : PySem.W.Frag) (f : Str) : Sp := fun vs H Q _ => ∃ (a C : Addr) (v : V), vs = [.ref a, v] ∧ ExC K C ∧ PySem.W.findIn K (.ref C) f = some none ∧ H a = some (exo a C none) ∧
  ∀ dx, H dx = none → dx ≠ a → Q .non (upd (upd H dx (exd dx [(f, v)])) a (exo a C (some dx)))
section
variable {X : Cx} {o e : Expr} {es : List Expr} {to te : TE} {ta : TA} {f : Str} {p p' pos : Pos}
theorem ps_exst (ho : PE X o to) (he : PE X e te) (hs : swapsWith e (some (.Attribute o f p')) pos.line X.env = pure false := by rfl) : PS X (.Assign [.Attribute o f p'] e pos) (tExst X.K f to te) := ⟨fun pins s σ H D I h => by
  refine plainObj_wpAny_Assign_Attribute ?_ hs
  refine thn (he.run pins s σ H _ I h) fun v s1 ⟨y, H1, I1, r1, q1⟩ => ?_
  refine thn (ho.run pins s1 σ H1 _ I1 q1) fun u s2 ⟨x, H2, I2, r2, a, C, ex, T, hno, ea, q⟩ => ?_
  subst ex
  cases r2
  exact first_field T I2 ea hno r1 fun dx s' n ne J => ⟨σ, _, J, q dx n ne⟩⟩
/-- the heap behind C(v) -/
abbrev madeH (H : Hp) (a dx C : Addr) (f : Str) (v : V) : Hp := upd (upd (upd H a (exo a C none)) dx (exd dx [(f, v)])) a (exo a C (some dx))
/-- C(e), a value: the new exception -/
def tExmk (C : Addr) (f : Str) (ta : TA) : TE := fun σ H Q => ta σ H fun vs H1 => ∃ v, vs = [v] ∧ ∀ a dx, H1 a = none → H1 dx = none → dx ≠ a → Q (.ref a) (madeH H1 a dx C f v)
/-- C(e), to be raised -/
def tExr (C : Addr) (f : Str) (ta : TA) : L2.St → Hp → XK → Prop := fun σ H Q => ta σ H fun vs H1 => ∃ v, vs = [v] ∧ ∀ dx, H1 dx = none → Q (.ref C) (some dx) (upd H1 dx (.xd [(f, v)]))
/-- the class at C under the name x, made by __init__ -/
structure ExMk (P : Program) (w : World) (K : PySem.W.Frag) (mg : Str → Option Value) (base : Heap) (k : Nat) (x : Str) (C : Addr) (f : Str) : Prop where
  T : ExC K C
  m : mg x = some (.ref C)
  no : PySem.W.findIn K (.ref C) f = some none
  ini : ∃ (fI : Addr) (fd : FuncData) (ps : List Str), PySem.W.findIn K (.ref C) "__init__" = some (some (.ref fI)) ∧ PySem.W.typeIn K (.ref fI) = some (.type "function") ∧ FnOk P w K mg base CX0 k fI fd ps (spKeep K f) ∧ Binds K fd ps [] ∧ ∀ (s : Shared) (a b : Value), BindsTo s fd ⟨[a], [(f, b)]⟩ (ps.zip [a, b])
theorem tail_same (M : Addr) (T : String) : (Value.ref M :: PySem.ESX.exTail).contains (.type T) = PySem.ESX.exTail.contains (.type T) := by
  rw [List.contains_cons]
  rfl
/-- the run of C(v): what stands behind its __init__ -/
theorem mk_run {pins : List (Addr × Obj)} {σ : L2.St} {H1 : Hp} {hp : Heap} {g : Array GenState} {dr : Drawn} {tk : Nat} {os : OsState} {k : Nat} {x : Str} {C : Addr} {u : Value} {v : V} {Q : Value → Shared → Prop} {E : Value → Shared → Prop} (G : ExMk X.prog X.w X.K X.mg X.base k x C f) (hr : Room (k + 1) X.A) (I1 : Inv X pins σ H1 ⟨hp, g, dr, tk, os⟩) (r : RelV v u)
    (h : ∀ (hp2 : Heap) (s2 : Shared) (uu : Value), (∀ b o, hp.get? b = some o → hp2.get? b = some o) → Inv X pins σ (upd H1 (hp.objs.size + 1) (exo (hp.objs.size + 1) C none)) ⟨hp2, g, dr, tk, os⟩ → H1 (hp.objs.size + 1) = none →
      CE X.stack X.prog X.w (upd H1 (hp.objs.size + 1) (exo (hp.objs.size + 1) C none)) ⟨hp2, g, dr, tk, os⟩ (fun z H2 => z = .non ∧ ∃ dx, H1 dx = none ∧ dx ≠ hp.objs.size + 1 ∧ H2 = madeH H1 (hp.objs.size + 1) dx C f v) uu s2 → Q (.ref (hp.objs.size + 1)) s2) : wpAny (model X.prog X.w) X.A (call (.ref C) [u]) Q E ⟨hp, g, dr, tk, os⟩ := by
  obtain ⟨M, nm, q, N, bs, sn, sub, ab, col, dd, k0, k1, k2, k3, k5, hC⟩ := G.T.cls
  obtain ⟨fI, fd, ps, iC, tI, F1, hb, _⟩ := G.ini
  have fresh : H1 (hp.objs.size + 1) = none := I1.hok.fresh (Nat.le_succ _)
  have kept : ∀ b o, hp.get? b = some o → ((hp.push (PySem.W.kdv_tup [u])).push (PySem.HandSPX.excO C hp.objs.size)).get? b = some o := fun b o ob => Heap.get?_push_of_some _ (Heap.get?_push_of_some _ ob)
  have made : ((hp.push (PySem.W.kdv_tup [u])).push (PySem.HandSPX.excO C hp.objs.size)).get? (hp.objs.size + 1) = some (PySem.HandSPX.excO C hp.objs.size) := by heap_get
  have I2 : Inv X pins σ (upd H1 (hp.objs.size + 1) (exo (hp.objs.size + 1) C none)) ⟨(hp.push (PySem.W.kdv_tup [u])).push (PySem.HandSPX.excO C hp.objs.size), g, dr, tk, os⟩ := I1.laid (t' := tk) kept (Nat.le_succ _) (exo_ok made)
  have r2 : Vals [V.ref (hp.objs.size + 1), v] [Value.ref (hp.objs.size + 1), u] := .cons rfl (.cons r .nil)
  have asked : spKeep X.K f [V.ref (hp.objs.size + 1), v] (upd H1 (hp.objs.size + 1) (exo (hp.objs.size + 1) C none)) (fun z H2 => z = .non ∧ ∃ dx, H1 dx = none ∧ dx ≠ hp.objs.size + 1 ∧ H2 = madeH H1 (hp.objs.size + 1) dx C f v) E0 :=
    ⟨_, C, v, rfl, G.T, G.no, upd_same, fun dx n ne => ⟨rfl, dx, by rw [upd_ne ne] at n; exact n, ne, rfl⟩⟩
  have hl : ([Value.ref (hp.objs.size + 1), u] ++ ([] : List Value)).length = ps.length := by
    have z := F1.len _ _ _ _ asked
    rw [← z]; rfl
  refine wpAny_call (PySem.HandSPX.call_own F.excBase_Exception (tail_same M) (I1.kIn _ _ hC) (PySem.W.looks_findIn I1.kIn iC) (fun self => PySem.W.bind_fn I1.kIn self tI) (show 1 ≤ sizeLine by decide) ?_)
  refine codeAny_mono (F1.run _ X.stack _ _ ⟨[Value.ref (hp.objs.size + 1), u], []⟩ [Value.ref (hp.objs.size + 1), u] _ _ E0 (hr.make C [u] []) (I2.env0.make C [u] []) (hb _ [Value.ref (hp.objs.size + 1), u] I2.kIn hl) r2 asked) fun res s2 back => ?_
  cases res with
  | error er => exact False.elim back
  | ok fl =>
    cases fl with
    | next => exact False.elim back
    | brk => exact False.elim back
    | cont => exact False.elim back
    | ret uu =>
      have back : CE X.stack X.prog X.w _ _ _ uu s2 := back
      have isNone : uu = .none := by
        obtain ⟨_, _, _, _, _, _, rz, ez, _⟩ := back
        subst ez
        exact rz
      exact ⟨isNone, h _ s2 uu kept I2 fresh back⟩
/-- C(e) as a value -/
theorem pe_exmk {k : Nat} {x : Str} {C : Addr} (G : ExMk X.prog X.w X.K X.mg X.base k x C f) (hr : Room (k + 1) X.A) (hg : Gl X x) (ha : PA X (e :: es) ta) (hdb : (x == ("__debug__" : Str)) = false := by decide)
    (hs : starEach (e :: es) X.env = (false, eval e X.env) :: starEach es X.env := by rfl) (hpl : (backTo pos (starEach es X.env)).any (·.1) = false := by rfl) : PE X (.Call (.Name x p) (e :: es) [] pos) (tExmk C f ta) := ⟨fun pins s σ H Q I h => by
  refine wpAny_Call_Name_kw (ld_glob I hg G.m ?_ hdb)
  refine PySem.W.callWith_K (h₀ := X.base) I.ok.mod.kin G.T.kC (thn (ha.run pos pins s σ H _ I h) fun us s1 ⟨vs, H1, I1, r1, v, ev, q⟩ => ⟨I1.kIn, ?_⟩) hs hpl
  subst ev
  cases r1 with
  | cons r rr =>
    cases rr
    cases s1 with
    | mk hp g dr tk os =>
    refine mk_run G hr I1 r fun hp2 s2 uu kept I2 fresh back => ?_
    obtain ⟨z, H2, J, rz, ez, dx, n, ne, eH⟩ := I2.after back
    subst eH
    exact ⟨.ref _, _, J, rfl, q _ dx fresh n ne⟩⟩
/-- C(e), raised -/
theorem pmk_exmk {k : Nat} {x : Str} {C : Addr} (G : ExMk X.prog X.w X.K X.mg X.base k x C f) (hr : Room (k + 1) X.A) (hg : Gl X x) (ha : PA X (e :: es) ta) (hdb : (x == ("__debug__" : Str)) = false := by decide)
    (hs : starEach (e :: es) X.env = (false, eval e X.env) :: starEach es X.env := by rfl) (hpl : (backTo pos (starEach es X.env)).any (·.1) = false := by rfl) : PMk X (.Call (.Name x p) (e :: es) [] pos) (tExr C f ta) := fun pins s σ H Q I h => by
  refine wpAny_Call_Name_kw (ld_glob I hg G.m ?_ hdb)
  refine PySem.W.callWith_K (h₀ := X.base) I.ok.mod.kin G.T.kC (thn (ha.run pos pins s σ H _ I h) fun us s1 ⟨vs, H1, I1, r1, v, ev, q⟩ => ⟨I1.kIn, ?_⟩) hs hpl
  subst ev
  cases r1 with
  | cons r rr =>
    cases rr
    cases s1 with
    | mk hp g dr tk os =>
    refine mk_run G hr I1 r fun hp2 s2 uu kept I2 fresh back => ?_
    obtain ⟨z, H2, os2, bare2, un2, hok2, rz, ez, dx, n, ne, eH⟩ := back
    subst eH
    cases s2 with
    | mk h2 g2 d2 t2 os2' =>
    have na : dx ≠ hp.objs.size + 1 := ne
    refine mk_end (raises_own G.T.exC G.T.tyC) I1 (Nat.le_succ _) kept un2 hok2 os2 bare2 (d := dx) (fs := [(f, v)]) upd_same ((upd_ne na).trans upd_same) n ?_
    have e1 : upd (del (madeH H1 (hp.objs.size + 1) dx C f v) (hp.objs.size + 1)) dx (.xd [(f, v)]) = upd H1 dx (.xd [(f, v)]) := by
      funext b
      by_cases zb : b = dx
      · subst zb
        rw [upd_same, upd_same]
      · rw [upd_ne zb, upd_ne zb]
        by_cases za : b = hp.objs.size + 1
        · subst za
          rw [del_same, fresh]
        · exact (del_ne za).trans ((upd_ne za).trans ((upd_ne zb).trans (upd_ne za)))
    rw [e1]
    exact q dx n
/-- the field of an exception that is held -/
def tExfld (K : PySem.W.Frag) (f : Str) (te : TE) : TE := fun σ H Q => te σ H fun x H1 => ∃ (a C dx : Addr) (fs : List (Str × V)) (v : V), x = .ref a ∧ XfC K C ∧ PySem.W.findIn K (.ref C) f = some none ∧ H1 a = some (exo a C (some dx)) ∧ H1 dx = some (exd dx fs) ∧ fs.lookup f = some v ∧ Q v H1
theorem pe_exfld (he : PE X e te) (hb : attributeBase e f X.env (eval e X.env) = eval e X.env := by rfl) : PE X (.Attribute e f pos) (tExfld X.K f te) := ⟨fun pins s σ H Q I h => by
  refine attr_of hb (thn (he.run pins s σ H _ I h) fun u s1 ⟨x, H1, I1, rx, a, C, dx, fs, v, ex, T, hno, ea, ed, l, q⟩ => ?_)
  subst ex
  cases rx
  obtain ⟨t1, oa⟩ := exo_at I1.hok ea
  obtain ⟨mA, hns, hr⟩ := exd_at I1.hok ed
  obtain ⟨od, ho, hl⟩ := lookIn_ns hns
  obtain ⟨u, hu, ru⟩ := RelO.some_of (v := v) (o := mA f) (by rw [← l]; exact hr f)
  have J : PySem.W.InstAt s1.heap a _ C (some od) := ⟨oa, rfl, rfl, ho⟩
  exact PySem.HandSPX.exc_get I1.kIn J T.ga T.gg T.exC (PySem.W.findObj_own T.hdC hno rfl (by rw [hl, hu])) (handed_of ru) ⟨v, H1, I1.tok _, ru, q⟩⟩
end
end Pw

set_option Elab.async false
set_option linter.all false
set_option maxRecDepth 100000
/-! The head's facts with one more look at the written part: what it says of own exception classes. -/
namespace Pw
open PySem L2 PyProof.Rows He
def obsB (fa : List Fa) (fn : List DefD) (B : PySem.W.Frag → Bool) (K : PySem.W.Frag) : AlD := ((obsD fa fn K).1 && B K, (obsD fa fn K).2)
def obsBG (n : Nat) (fa : List Fa) (fn : List DefD) (B : PySem.W.Frag → Bool) (g : Addr → Option Obj) : AlD := obsB fa fn B (frG g (asD g n))
structure SaysB (fa : List Fa) (fn : List DefD) (B : PySem.W.Frag → Bool) (K : PySem.W.Frag) : Prop where
  d : SaysD fa fn K
  b : B K = true
theorem says_of {fa : List Fa} {fn : List DefD} {B : PySem.W.Frag → Bool} {K : PySem.W.Frag} (h : obsB fa fn B K = valD fn) : SaysB fa fn B K := by
  have h1 := congrArg Prod.fst h
  have h2 := congrArg Prod.snd h
  have h3 : ((obsD fa fn K).1 && B K) = true := h1
  rw [Bool.and_eq_true] at h3
  exact ⟨Prod.ext h3.1 h2, h3.2⟩
def hookB (n : Nat) (fa : List Fa) (fn : List DefD) (B : PySem.W.Frag → Bool) : PySem.W.Hook where
  α := AlD
  obs := fun s => obsBG n fa fn B s.heap.get?
  val := fun _ => valD fn
  says := fun _ h => ∃ K : PySem.W.Frag, K.In h ∧ SaysB fa fn B K
  of := fun w s h => ⟨frG s.heap.get? (asD s.heap.get? n), frG_in, says_of h⟩
  keeps := fun w h h' ⟨K, i, c⟩ k => ⟨K, fun a o e => k a o (i a o e), c⟩
theorem obsBG_eq {n : Nat} {fa : List Fa} {fn : List DefD} {B : PySem.W.Frag → Bool} {g : Addr → Option Obj} {s : Shared} (h : ∀ a, g a = s.heap.get? a) : obsBG n fa fn B g = (hookB n fa fn B).obs s := by
  have : g = s.heap.get? := funext h
  subst this
  rfl
end Pw

set_option Elab.async false
set_option linter.all false
set_option maxRecDepth 100000
set_option maxHeartbeats 4000000
/-! isinstance of an exception that is held, whether it has fields or not. -/
namespace PySem.PwX
open PySem PySem.Spec PySem.Calls PyProof.Rows
abbrev gaB : Value := .builtin "BaseException.__getattribute__"
abbrev clB : Value := .builtin "object.__class__"
abbrev gtB : Value := .builtin "getset_descriptor.__get__"
section
variable {prog : Program} {w : World} {A : Around} {E : Value → Shared → Prop} {s : Shared} {K : W.Frag} {x D : Addr} {ox : Obj} {od : Option Obj}
theorem cls_isSome {C : Addr} (h : W.hasDictIn K C = true) : (W.clsIn K C).isSome = true := by
  obtain ⟨cd, hc, _⟩ := W.any_some h
  rw [hc]; rfl
theorem find_cls (C : L2.ExcC K D) : ∀ od, W.findObj K D od "__class__" = some (.bind gtB clB)
  | none => W.findObj_dataN (cls_isSome C.hd) C.ha C.hn C.ht
  | some _ => W.findObj_data (cls_isSome C.hd) C.ha C.hn C.ht
theorem cls_run {Q : Option Value → Shared → Prop} (C : L2.ExcC K D) (X : K.In s.heap) (I : W.InstAt s.heap x ox D od) (h : Q (some (.ref D)) { s with toks := s.toks + 1 }) : wpAny (model prog w) A (getAttr? (.ref x) "__class__") Q E s := by
  have hf := find_cls C od
  cases s with
  | mk hp g d t os =>
  have l0 : W.Looks (model prog w) hp (typeOf (.ref x)) (.ref D) := I.type
  have l1 : W.Looks (model prog w) hp _ _ := W.looks_findIn X C.hg
  have l2 : W.Looks (model prog w) hp _ _ := W.looks_findIn X C.hk
  have l3 : W.Looks (model prog w) hp _ _ := W.looks_find X I hf
  have isB : W.Looks (model prog w) hp (isInstance (.ref x) (.type "BaseException")) true := l0.andThen (W.looks_subIn X C.hs)
  have ne : (gaB == Value.builtin "object.__getattribute__") = false := by decide +kernel
  have n1 : (onTheHeap (Value.ref D) && gaB == Value.builtin "object.__getattribute__") = false := by rw [ne]; rfl
  have n0 : (false && onTheHeap gaB) = false := rfl
  unfold getAttr? getAttrBy? getAttrBy
  refine wpAny_bind (wpAny_mkText (wpAny_bind (wpAny_attempt (wpAny_holding (wpAny_bind (l0.at (wpAny_bind (l1.at ?_))))))))
  show wpAny _ _ (if (onTheHeap (Value.ref D) && gaB == Value.builtin "object.__getattribute__") = true then _ else _) _ _ _
  rw [n1, if_neg Bool.false_ne_true]; unfold getAttrByItsOwn hookBefore
  refine wpAny_bind ?_; rw [if_pos (show onTheHeap (Value.ref D) = true from rfl)]
  refine l2.at (wpAny_bind (wpAny_attempt (wpAny_holding ?_))); unfold callGetattribute
  rw [n0, if_neg Bool.false_ne_true]; unfold boundAndCalled
  rw [PySem.F.excAttr_ValueError.ga.bind (.ref x)]; refine wpAny_bind (wpAny_pure ?_)
  show wpAny _ _ (call gaB [.ref x, .str "__class__" t]) _ _ _
  refine wpAny_call (codeAny_call_builtin PySem.F.excAttr_ValueError.ga.plain PySem.F.entry_bexc_ga ?_)
  refine @W.check_slot (model prog w) _ _ ⟨hp, g, d, t + 1, os⟩ "BaseException.__getattribute__" "BaseException" "__getattribute__" (.ref x) [.str "__class__" t] [] _ (by decide +kernel) (by decide +kernel) isB (PySem.F.args_bexc_ga (.ref x) (.str "__class__" t)) ?_
  unfold Builtin.«object.__getattribute__»; refine wpAny_bind (wpAny_of_eq (a := ((Value.ref x : Value), [Value.str "__class__" t])) (by first | rfl | (simp only [slotArgs]; rfl)) ?_)
  refine wpAny_bind (wpAny_pure (wpAny_bind (l0.at (wpAny_bind (l3.at ?_)))))
  show wpAny _ _ (holding [clB] (call gtB [clB, .ref x, .ref D]) >>= ret) _ _ _
  refine wpAny_bind (wpAny_holding (wpAny_call (W.class_get (s := ⟨hp, g, d, t + 1, os⟩) (ox := ox) (od := od) X I C.hm (wpAny_pure ?_))))
  show wpAny _ _ (handedOut (.ref D)) _ _ _
  rw [W.handedOut_of (v := .ref D) rfl]
  first
    | exact wpAny_pure (wpAny_pure h)
    | exact wpAny_pure h
    | exact wpAny_pure (wpAny_bind (wpAny_pure (wpAny_pure h)))
theorem kit_held (C : L2.ExcC K D) : W.KitX K (.ref x) (.ref D) (fun h => W.InstAt h x ox D od) where
  ty := fun _ _ _ I => I.type
  it := fun _ _ X _ A' Q' E' s' k q => by
    obtain ⟨cd, hcd, _⟩ := W.any_some C.hd
    unfold W.clsIn at hcd
    split at hcd
    · rename_i ho
      unfold isType loadHead; exact wpAny_bind (wpAny_loadPart (k _ _ (X _ _ ho)) (wpAny_pure q))
    · cases hcd
  ne := fun h tp dd its n sl X htp => by
    obtain ⟨cd, hcd, _⟩ := W.any_some C.hd
    refine Bool.eq_false_iff.mpr fun q => ?_
    cases Value.ref.inj (beq_iff_eq.mp q)
    unfold W.clsIn at hcd
    split at hcd
    · rename_i ho
      cases (X _ _ ho).symm.trans htp
    · cases hcd
  ca := fun X I k => cls_run C X I k
end
end PySem.PwX
namespace Pw
open PySem L2 PySem.Spec PyProof.Rows
/-- isinstance(e, c): e is an exception of the own class D, with its dict dx or with none -/
def rIsX (K : PySem.W.Frag) : List V → Hp → VK → Prop := fun xs H Q => ∃ (a D : Addr) (od : Option Addr) (c : V) (cv : Value) (b : Bool), xs = [.ref a, c] ∧ ExcC K D ∧ H a = some (exo a D od) ∧ (∀ dx, od = some dx → ∃ fs, H dx = some (exd dx fs)) ∧ (∀ u, RelV c u → u = cv) ∧ PySem.W.kitOne K (.ref D) cv = some b ∧ Q (.bl b) H
theorem call_isX {X : Cx} : CallR X (.builtin "isinstance") (rIsX X.K) := by
  intro pins s σ H xs us Q I r h
  obtain ⟨a, D, od, c, cv, b, rfl, C, ea, ed, hcv, e, q⟩ := h
  cases r with
  | cons rx rr =>
    cases rr with
    | cons rt rr =>
      cases rr; cases rx
      have ec := hcv _ rt
      subst ec
      obtain ⟨t1, oa⟩ := exo_at I.hok ea
      cases od with
      | none =>
        have J : PySem.W.InstAt s.heap a _ D none := ⟨oa, rfl, rfl, trivial⟩
        exact PySem.W.kia_one (PySem.PwX.kit_held C) I.kIn J e (fun z => nomatch z) fun tk => ⟨.bl b, H, I.kept (t' := tk) fun _ _ z => z, rfl, q⟩
      | some dx =>
        obtain ⟨fs, hd⟩ := ed dx rfl
        obtain ⟨mA, hns, _⟩ := exd_at I.hok hd
        obtain ⟨oo, ho, _⟩ := lookIn_ns hns
        have J : PySem.W.InstAt s.heap a _ D (some oo) := ⟨oa, rfl, rfl, ho⟩
        exact PySem.W.kia_one (PySem.PwX.kit_held C) I.kIn J e (fun z => nomatch z) fun tk => ⟨.bl b, H, I.kept (t' := tk) fun _ _ z => z, rfl, q⟩
end Pw

set_option Elab.async false
set_option linter.all false
set_option maxRecDepth 100000
set_option maxHeartbeats 4000000
/-! An exception made by keyword. -/
namespace PySem.PwX
open PySem PySem.Spec PySem.Calls PyProof.Rows Builtin PySem.ESX
section
variable {prog : Program} {w : World} {A : Around} {E : Value → Shared → Prop} {R : Result → Shared → Prop} {h : Heap} {g : Array GenState} {d : Drawn} {t : Nat} {os : OsState}
variable {nm q : Str} {C N : Addr} {bs bm bmB : List Value} {hdct : Bool} {sn : List Str} {sub : List Value} {ab : Bool} {col : Option Bool} {dd : Option Addr} {k0 k1 k2 k3 k5 : Option Value} {B newId initId : String} {f : Str} {v : Value}
theorem check_kw (F : ExcBaseFacts B newId initId bmB) (hT : ∀ X : String, bm.contains (.type X) = bmB.contains (.type X)) {M : Model} {Q : Unit → Shared → Prop}
    (hC : h.get? C = some (excClassObj nm q C N bs bm hdct sn sub ab col dd k0 k1 k2 k3 k5 newId)) (hq : Q () ⟨h, g, d, t, os⟩) : wpAny M A (checkBuiltinCall newId ⟨[.ref C], [(f, v)]⟩) Q E ⟨h, g, d, t, os⟩ := by
  have isB : (Value.ref C :: bm).contains (.type B) = true := by rw [List.contains_cons, hT, F.hasB, Bool.or_true]
  have ns := F.noStar
  simp only [checkBuiltinCall, F.newKind, F.newSplit, F.newRow]
  repeat (first | refine wpAny_loadPart_at hC ?_ | (refine wpAny_isSubtype_exc hC ?_; rw [isB]) | refine wpAny_staticBase_exc hC ?_ | refine wpAny_madeBy_exc hC ?_ | simp only [bne_self_eq_false, Bool.false_eq_true, if_false] | wp_step)
  exact hq
theorem new_kw (F : ExcBaseFacts B newId initId bmB) (hT : ∀ X : String, bm.contains (.type X) = bmB.contains (.type X))
    (hC : h.get? C = some (excClassObj nm q C N bs bm hdct sn sub ab col dd k0 k1 k2 k3 k5 newId))
    (hq : R (.ok (.ret (.ref (h.objs.size + 1)))) ⟨(h.push { cls := .type "tuple", data := .seq #[] }).push (HandSPX.excO C h.objs.size), g, d, t, os⟩) :
    codeAny (model prog w) A (.builtin newId ⟨[.ref C], [(f, v)]⟩) R ⟨h, g, d, t, os⟩ := by
  have ends := F.ends
  have isB : (Value.ref C :: bm).contains (.type B) = true := by rw [List.contains_cons, hT, F.hasB, Bool.or_true]
  have notA : (Value.ref C :: bm).contains (.type "AttributeError") = false := by rw [List.contains_cons, hT, F.noAttr]; rfl
  have notN : (Value.ref C :: bm).contains (.type "NameError") = false := by rw [List.contains_cons, hT, F.noName]; rfl
  refine codeAny_builtinAt F.entry ?_
  unfold Builtin.«BaseException.__new__»
  refine wpAt_bind ?_
  show wpAt _ _ _ (stack >>= _) _ _ _
  refine wpAt_bind (wpAt_stack fun p below => wpAt_of_wpAny ?_)
  wp_walk
  refine wpAt_of_wpAny ?_
  rw [F.owner]
  repeat (first | with_reducible refine wpAny_madeHere_exc F.canon hC ?_ | with_reducible refine wpAny_loadPart_at hC ?_ | (with_reducible refine wpAny_isSubtype_exc hC ?_; first | rw [isB] | rw [notA] | rw [notN]) | wp_step)
  show R _ _
  rw [Heap.size_push]
  exact hq
theorem type_call_kw (F : ExcBaseFacts B newId initId bmB) (hT : ∀ X : String, bm.contains (.type X) = bmB.contains (.type X)) {fI : Addr} {Q : Fin → Shared → Prop}
    (hC : h.get? C = some (excClassObj nm q C N bs bm hdct sn sub ab col dd k0 k1 k2 k3 k5 newId))
    (hi : W.Looks (model prog w) h (typeLookup (.ref C) "__init__") (some (.ref fI))) (hb : ∀ self, W.Looks (model prog w) h (bindSpecial (.ref fI) self) (.ref fI, [self]))
    (hq : codeAny (model prog w) A (.call (.ref fI) ⟨[.ref (h.objs.size + 1)], [(f, v)]⟩)
      (fun r s' => match r with | .ok (.ret v) => v = .none ∧ Q (.done (.ret (.ref (h.objs.size + 1)))) s' | .ok _ => False | .error e => E e s')
      ⟨(h.push (W.kdv_tup [])).push (HandSPX.excO C h.objs.size), g, d, t, os⟩) : wpAny (model prog w) A (Builtin.«type.__call__» ⟨[.ref C], [(f, v)]⟩) Q E ⟨h, g, d, t, os⟩ := by
  repeat (first | with_reducible refine wpAny_loadPart_at hC ?_ | with_reducible refine wpAny_madeBy_exc hC ?_ | wp_step)
  refine codeAny_call_builtin_code (Code.quiet_builtin _ F.quiet) (check_kw F hT hC (new_kw F hT hC ?_))
  show wpAny _ _ _ _ _ _
  have kept : ∀ b o, h.get? b = some o → ((h.push (W.kdv_tup [])).push (HandSPX.excO C h.objs.size)).get? b = some o := fun b o e => Heap.get?_push_of_some _ (Heap.get?_push_of_some _ e)
  have made : ((h.push (W.kdv_tup [])).push (HandSPX.excO C h.objs.size)).get? (h.objs.size + 1) = some (HandSPX.excO C h.objs.size) := by heap_get
  have isC : (Value.ref C :: bm).contains (.ref C) = true := by simp
  have there := kept _ _ hC
  unfold isInstance
  repeat (first | with_reducible refine wpAny_loadPart_at made ?_ | (with_reducible refine wpAny_isSubtype_exc there ?_; rw [isC]) | wp_step)
  show wpAny _ _ (typeLookup (.ref C) _) _ _ _
  refine (hi.keeps kept).at (wpAny_holding (wpAny_bind (((hb (.ref (h.objs.size + 1))).keeps kept).at ?_)))
  refine wpAny_bind (wpAny_call (codeAny_mono hq fun r s' z => ?_))
  rcases r with e | (v | _ | _ | _) <;> first | exact z | exact z.elim | skip
  obtain ⟨rfl, z⟩ := z
  first
    | exact wpAny_pure (wpAny_pure z)
    | (wp_walk; exact z)
theorem call_kw (F : ExcBaseFacts B newId initId bmB) (hT : ∀ X : String, bm.contains (.type X) = bmB.contains (.type X)) {fI : Addr}
    (hC : h.get? C = some (excClassObj nm q C N bs bm hdct sn sub ab col dd k0 k1 k2 k3 k5 newId))
    (hi : W.Looks (model prog w) h (typeLookup (.ref C) "__init__") (some (.ref fI))) (hb : ∀ self, W.Looks (model prog w) h (bindSpecial (.ref fI) self) (.ref fI, [self]))
    (hq : codeAny (model prog w) (A.under (.builtin "type.__call__" ⟨[.ref C], [(f, v)]⟩)) (.call (.ref fI) ⟨[.ref (h.objs.size + 1)], [(f, v)]⟩) (W.InitBack (h.objs.size + 1) R)
      ⟨(h.push (W.kdv_tup [])).push (HandSPX.excO C h.objs.size), g, d, t, os⟩) : codeAny (model prog w) A (.call (.ref C) ⟨[], [(f, v)]⟩) R ⟨h, g, d, t, os⟩ := by
  have f1 := tc_lookup
  have f2 := tc_bind (.ref C)
  have isT : (⟨h, g, d, t, os⟩ : Shared).TypeIs (.ref C) "type" := ⟨_, hC, rfl⟩
  refine codeAny_of_tree ?_
  show wpAny _ _ (callAny (.ref C) _) _ _ _
  repeat (any_goals (first | assumption | with_reducible refine wpAny_loadPart_at hC ?_ | wp_step))
  refine ⟨rfl, ?_⟩
  refine codeAny_call_builtin_at (Code.quiet_builtin _ (by decide +kernel)) entry_typeCall ?_
  refine wpAny_check_type_call_sub hC (type_call_kw F hT hC hi hb ?_)
  refine codeAny_mono hq fun r s' z => ?_
  rcases r with e | (v | _ | _ | _) <;> exact z
end
end PySem.PwX
namespace Pw
open PySem L2 PySem.Spec PyProof.Rows
section
variable {X : Cx} {C : Addr} {f : Str} {x : Str} {k : Nat} {e : Expr} {te : TE} {p pos kp : Pos}
/-- the run of C(f = v): what stands behind its __init__ -/
theorem mk_runK {pins : List (Addr × Obj)} {σ : L2.St} {H1 : Hp} {hp : Heap} {g : Array GenState} {dr : Drawn} {tk : Nat} {os : OsState} {u : Value} {v : V} {Q : Value → Shared → Prop} {E : Value → Shared → Prop} (G : ExMk X.prog X.w X.K X.mg X.base k x C f) (hr : Room (k + 1) X.A) (I1 : Inv X pins σ H1 ⟨hp, g, dr, tk, os⟩) (r : RelV v u)
    (h : ∀ (hp2 : Heap) (s2 : Shared) (uu : Value), Inv X pins σ (upd H1 (hp.objs.size + 1) (exo (hp.objs.size + 1) C none)) ⟨hp2, g, dr, tk, os⟩ → H1 (hp.objs.size + 1) = none →
      CE X.stack X.prog X.w (upd H1 (hp.objs.size + 1) (exo (hp.objs.size + 1) C none)) ⟨hp2, g, dr, tk, os⟩ (fun z H2 => z = .non ∧ ∃ dx, H1 dx = none ∧ dx ≠ hp.objs.size + 1 ∧ H2 = madeH H1 (hp.objs.size + 1) dx C f v) uu s2 → Q (.ref (hp.objs.size + 1)) s2) : wpAny (model X.prog X.w) X.A (call (.ref C) [] [(f, u)]) Q E ⟨hp, g, dr, tk, os⟩ := by
  obtain ⟨M, nm, q, N, bs, sn, sub, ab, col, dd, k0, k1, k2, k3, k5, hC⟩ := G.T.cls
  obtain ⟨fI, fd, ps, iC, tI, F1, _, hb⟩ := G.ini
  have fresh : H1 (hp.objs.size + 1) = none := I1.hok.fresh (Nat.le_succ _)
  have kept : ∀ b o, hp.get? b = some o → ((hp.push (PySem.W.kdv_tup [])).push (PySem.HandSPX.excO C hp.objs.size)).get? b = some o := fun b o ob => Heap.get?_push_of_some _ (Heap.get?_push_of_some _ ob)
  have made : ((hp.push (PySem.W.kdv_tup [])).push (PySem.HandSPX.excO C hp.objs.size)).get? (hp.objs.size + 1) = some (PySem.HandSPX.excO C hp.objs.size) := by heap_get
  have I2 : Inv X pins σ (upd H1 (hp.objs.size + 1) (exo (hp.objs.size + 1) C none)) ⟨(hp.push (PySem.W.kdv_tup [])).push (PySem.HandSPX.excO C hp.objs.size), g, dr, tk, os⟩ := I1.laid (t' := tk) kept (Nat.le_succ _) (exo_ok made)
  have r2 : Vals [V.ref (hp.objs.size + 1), v] [Value.ref (hp.objs.size + 1), u] := .cons rfl (.cons r .nil)
  have asked : spKeep X.K f [V.ref (hp.objs.size + 1), v] (upd H1 (hp.objs.size + 1) (exo (hp.objs.size + 1) C none)) (fun z H2 => z = .non ∧ ∃ dx, H1 dx = none ∧ dx ≠ hp.objs.size + 1 ∧ H2 = madeH H1 (hp.objs.size + 1) dx C f v) E0 :=
    ⟨_, C, v, rfl, G.T, G.no, upd_same, fun dx n ne => ⟨rfl, dx, by rw [upd_ne ne] at n; exact n, ne, rfl⟩⟩
  refine wpAny_call (PySem.PwX.call_kw F.excBase_Exception (tail_same M) (I1.kIn _ _ hC) (PySem.W.looks_findIn I1.kIn iC) (fun self => PySem.W.bind_fn I1.kIn self tI) ?_)
  refine codeAny_mono (F1.run _ X.stack _ _ ⟨[Value.ref (hp.objs.size + 1)], [(f, u)]⟩ [Value.ref (hp.objs.size + 1), u] _ _ E0 (hr.make C [] [(f, u)]) (I2.env0.make C [] [(f, u)]) (hb _ _ _) r2 asked) fun res s2 back => ?_
  cases res with
  | error er => exact False.elim back
  | ok fl =>
    cases fl with
    | next => exact False.elim back
    | brk => exact False.elim back
    | cont => exact False.elim back
    | ret uu =>
      have back : CE X.stack X.prog X.w _ _ _ uu s2 := back
      have isNone : uu = .none := by
        obtain ⟨_, _, _, _, _, _, rz, ez, _⟩ := back
        subst ez
        exact rz
      exact ⟨isNone, h _ s2 uu I2 fresh back⟩
/-- C(f = e) as a value -/
theorem pe_exmkK (G : ExMk X.prog X.w X.K X.mg X.base k x C f) (hr : Room (k + 1) X.A) (hg : Gl X x) (he : PE X e te) (hdb : (x == ("__debug__" : Str)) = false := by decide)
    (hall : (backToKw pos (keywordEach [⟨some f, e, kp⟩] X.env)).all (·.1.isSome) = true := by rfl) (hks : (backToKw pos (keywordEach [⟨some f, e, kp⟩] X.env)).filterMap (·.1) = [f] := by rfl)
    (hpl : ((backTo pos (starEach [] X.env)).any (·.1) || (backToKw pos (keywordEach [⟨some f, e, kp⟩] X.env)).any (·.1.isNone)) = false := by rfl) : PE X (.Call (.Name x p) [] [⟨some f, e, kp⟩] pos) (tExmk C f (tCons te tNil)) := ⟨fun pins s σ H Q I h => by
  refine wpAny_Call_Name_kw (ld_glob I hg G.m ?_ hdb)
  refine PySem.W.callWith_KW0 (h₀ := X.base) I.ok.mod.kin G.T.kC hall ?_ hpl
  refine thn ((pk_cons he pk_nil).run pos pins s σ H _ I h) fun us s1 ⟨vs, H1, I1, r1, v, ev, q⟩ => ⟨I1.kIn, ?_⟩
  rw [hks]
  subst ev
  cases r1 with
  | cons r rr =>
    cases rr
    cases s1 with
    | mk hp g dr tk os =>
    refine mk_runK G hr I1 r fun hp2 s2 uu I2 fresh back => ?_
    obtain ⟨z, H2, J, rz, ez, dx, n, ne, eH⟩ := I2.after back
    subst eH
    exact ⟨.ref _, _, J, rfl, q _ dx fresh n ne⟩⟩
end
end Pw

set_option Elab.async false
set_option linter.all false
set_option maxRecDepth 100000
set_option maxHeartbeats 2000000
/-! An exception class without __init__, made without arguments; isinstance of what a suite has caught. -/
namespace Pw
open PySem L2 PySem.Spec PyProof.Rows
/-- what the written part says of a class two steps below Exception without __init__ -/
structure Ex0 (K : PySem.W.Frag) (mg : Str → Option Value) (x : Str) (C : Addr) : Prop where
  q : PySem.W.excIn K C PySem.ESX.exTail "Exception.__new__" = true
  m : mg x = some (.ref C)
  kC : PySem.W.keepIn K (.ref C) = true
  exC : PySem.W.subIn K (.ref C) (.type "BaseException") = some true
  tyC : PySem.W.typeIn K (.ref C) = some (.type "type")
section
variable {X : Cx} {C : Addr} {x : Str} {p pos : Pos}
theorem pe_ex0 (G : Ex0 X.K X.mg x C) (hg : Gl X x) (hdb : (x == ("__debug__" : Str)) = false := by decide) : PE X (.Call (.Name x p) [] [] pos) (fun _ H Q => ∀ a, H a = none → Q (.ref a) (upd H a (exo a C none))) := ⟨fun pins s σ H Q I h => by
  refine wpAny_Call_Name_kw (ld_glob I hg G.m ?_ hdb)
  refine PySem.W.callWith_K0 I.kIn G.kC ?_
  show wpAny _ _ (call (.ref C) []) _ _ _
  obtain ⟨bm, N, nm, qn, bs, hdct, sn, sub, ab, col, dd, k0, k1, k2, k3, k5, mN, hC, hN, hni, T⟩ := exc_obj I.kIn G.q
  refine wpAny_call_exc_subT F.excBase_Exception T hC hN hni (fun h' a hm => ?_) (by show 0 ≤ sizeLine; exact Nat.zero_le _)
  have n := I.hok.gone hm.new
  obtain ⟨t, ht, _, _⟩ := hm.there
  exact ⟨.ref a, _, I.laidN hm.keeps hm.new n (exo_ok ht), rfl, h a n⟩⟩
theorem pmk_ex0 (G : Ex0 X.K X.mg x C) (hg : Gl X x) (hdb : (x == ("__debug__" : Str)) = false := by decide) : PMk X (.Call (.Name x p) [] [] pos) (fun _ H Q => Q (.ref C) none H) := fun pins s σ H Q I h => by
  refine wpAny_Call_Name_kw (ld_glob I hg G.m ?_ hdb)
  refine PySem.W.callWith_K0 I.kIn G.kC ?_
  show wpAny _ _ (call (.ref C) []) _ _ _
  obtain ⟨bm, N, nm, qn, bs, hdct, sn, sub, ab, col, dd, k0, k1, k2, k3, k5, mN, hC, hN, hni, T⟩ := exc_obj I.kIn G.q
  refine wpAny_call_exc_subT F.excBase_Exception T hC hN hni (fun h' a hm => ?_) (by show 0 ≤ sizeLine; exact Nat.zero_le _)
  exact mk_of I hm (raises_own G.exC G.tyC) h (I.hok.gone hm.new)
/-- isinstance(e, c), e caught by this suite, of the class D, with or without fields -/
def rIsC (K : PySem.W.Frag) (a : Addr) (cls : Value) (d : Option Addr) : List V → Hp → VK → Prop := fun xs H Q => ∃ (D : Addr) (c : V) (cv : Value) (b : Bool), xs = [.ref a, c] ∧ cls = .ref D ∧ ExcC K D ∧ (∀ dd, d = some dd → ∃ fs, H dd = some (.xd fs)) ∧ (∀ u, RelV c u → u = cv) ∧ PySem.W.kitOne K (.ref D) cv = some b ∧ Q (.bl b) H
theorem call_isC {a : Addr} {oe : Obj} {cls : Value} {d : Option Addr} {pn : List (Addr × Obj)} (hz : Zc cls d oe) (hf : ∃ vs, oe.data = .fields vs) : CallR (X.suite a ((a, oe) :: pn)) (.builtin "isinstance") (rIsC X.K a cls d) := by
  intro pins s σ H xs us Q I r h
  obtain ⟨D, c, cv, b, rfl, rfl, C, ed, hcv, e, q⟩ := h
  cases r with
  | cons rx rr =>
    cases rr with
    | cons rt rr =>
      cases rr; cases rx
      have ec := hcv _ rt
      subst ec
      obtain ⟨ha, _⟩ := I.pin (a, oe) (List.mem_append_left _ List.mem_cons_self)
      obtain ⟨vs, hd⟩ := hf
      have nc : PySem.W.notCls oe = true := by unfold PySem.W.notCls; rw [hd] <;> rfl
      cases d with
      | none =>
        have J : PySem.W.InstAt s.heap a oe D none := ⟨ha, hz.1, nc, by rw [hz.2]; trivial⟩
        exact PySem.W.kia_one (PySem.PwX.kit_held C) I.kIn J e (fun z => nomatch z) fun tk => ⟨.bl b, H, I.kept (t' := tk) fun _ _ z => z, rfl, q⟩
      | some dd =>
        obtain ⟨fs, hd⟩ := ed dd rfl
        have hx : ObjOk X.prog X.w H s.heap dd (.xd fs) := I.hok dd _ hd
        obtain ⟨mA, hns, _⟩ := hx
        obtain ⟨oo, ho, _⟩ := lookIn_ns hns
        have J : PySem.W.InstAt s.heap a oe D (some oo) := ⟨ha, hz.1, nc, by rw [hz.2]; exact ho⟩
        exact PySem.W.kia_one (PySem.PwX.kit_held C) I.kIn J e (fun z => nomatch z) fun tk => ⟨.bl b, H, I.kept (t' := tk) fun _ _ z => z, rfl, q⟩
end
end Pw

set_option Elab.async false
set_option linter.all false
set_option maxRecDepth 100000
/-! What the law's own drawing defs do. -/
namespace Pw
open PySem L2
abbrev intsD (ns : List Int) : PyData := .list (ns.map .int)
/-- the row of drawn numbers: not empty, not long -/
structure RowOk (row : List Int) : Prop where
  ne : row ≠ []
  few : row.length ≤ 4000
theorem RowOk.pos {row : List Int} (h : RowOk row) : 0 < (row.length : Int) := by
  have := h.ne
  cases row with
  | nil => exact absurd rfl this
  | cons a r => simp only [List.length_cons]; omega
def drawZ (row : List Int) (at_ lim : Int) : Int :=
  if at_ < row.length then (row.getD at_.toNat 0) % lim
  else (((((row.getD (at_ % row.length).toNat 0) * 40692 + at_ * 7919 + 3) % 2147483399) * 48271 + at_) % 2147483647) % lim
theorem drawZ_lo {row : List Int} {a lim : Int} (h : 0 < lim) : 0 ≤ drawZ row a lim := by
  unfold drawZ; split <;> exact Int.emod_nonneg _ (by omega)
theorem drawZ_hi {row : List Int} {a lim : Int} (h : 0 < lim) : drawZ row a lim < lim := by
  unfold drawZ; split <;> exact Int.emod_lt_of_pos _ h
theorem atI_ints {row : List Int} {j : Int} (h0 : 0 ≤ j) (h1 : j < row.length) : atI (row.map PyData.int) j = some (.int (row.getD j.toNat 0)) := by
  obtain ⟨m, rfl⟩ := Int.eq_ofNat_of_zero_le h0
  have hm : m < row.length := by omega
  refine atI_nat ?_
  rw [List.getElem?_map]
  simp [hm]
def gDraw (a b c y : PyData) : Prop := ∃ row n lim, a = intsD row ∧ b = .int n ∧ c = .int lim ∧ RowOk row ∧ (0 ≤ n ∧ n < 2 ^ 60) ∧ 0 < lim ∧ y = .int (drawZ row n lim)
def gTake (as : List Arg) (ret : Ret) (outs : Nat → Cont) : Prop := ∃ row n lim, as = [.d (.d (intsD row)), .r (.lst [.int n]), .d (.d (.int lim))] ∧ RowOk row ∧ (0 ≤ n ∧ n < 2 ^ 60) ∧ 0 < lim ∧ ret = .v (.d (.int (drawZ row n lim))) ∧ outs 1 = .lst [.int (n + 1)]
variable {ρ ρ0 ρ1 ρ2 : List Slot} {ta tb tc : TE} {P : Out → Prop}
theorem only1 {x y : Val} {i m k : Nat} (h : ([.d x, .s i, .d y] : List Src)[k]? = some (.s m)) : k = 1 ∧ m = i := by
  match k, h with
  | 0, h => cases h
  | 1, h => cases h; exact ⟨rfl, rfl⟩
  | 2, h => cases h
  | k + 3, h => simp at h
theorem ev_take {E : XK} {i : Nat} {l : Bool} {row : List Int} {n lim : Int} (h1 : EV ta ρ (.d (intsD row)) ρ0) (h2 : ∃ l c, ρ0[i]? = some (.own l c)) (h3 : EV tc ρ0 (.d (.int lim)) ρ1) (h4 : ρ1[i]? = some (.own l (.lst [.int n]))) (hr : RowOk row) (hn : 0 ≤ n ∧ n < 2 ^ 60) (hl : 0 < lim) :
    EV (tCall (spG gTake) [] E (tCons ta (tCons (tVar i) (tCons tc tNil)))) ρ (.d (.int (drawZ row n lim))) (ρ1.set i (.own l (.lst [.int (n + 1)]))) := by
  obtain ⟨l0, c0, h2⟩ := h2
  have h := ev_call (E := E) (g := gTake) (x := .d (.int (drawZ row n lim))) (outs := fun _ => .lst [.int (n + 1)]) (ss := [.d (.d (intsD row)), .s i, .d (.d (.int lim))]) (ea_cons h1 (ea_ref h2 (ea_cons h3 ea_nil)))
    ⟨fun k j hk => ?_, fun j k m hj hk => ?_⟩ ⟨row, n, lim, ?_, hr, hn, hl, rfl, rfl⟩
  · have e : putOuts (fun _ => Cont.lst [.int (n + 1)]) 0 [Src.d (.d (intsD row)), .s i, .d (.d (.int lim))] ρ1 = ρ1.set i (.own l (.lst [.int (n + 1)])) := by
      simp [putOuts, h4]
    rw [e] at h
    exact h
  · obtain ⟨_, rfl⟩ := only1 hk; exact ⟨_, _, h4⟩
  · rw [(only1 hj).1, (only1 hk).1]
  · simp [argOf, h4]
/-! ### the numbers of a script -/
def bigZ : Nat → Int → List Int
  | 0, _ => []
  | k + 1, left => if left = 0 then [] else (left % 997) :: bigZ k (left / 997)
def smallZ (c : Int) : List Int := (List.range 4).map fun k : Nat => (((c * 48271 + (k : Int) * 69621 + 11) % 2147483647) * 16807 + k) % 2147483629
def cellZ (c : Int) : List Int := if 10 ^ 18 ≤ c then bigZ 60 c else smallZ c
def numbersZ (ns : List Int) : List Int := if (ns.flatMap cellZ).length = 0 then [0] else ns.flatMap cellZ
theorem bigZ_len : ∀ (k : Nat) (c : Int), (bigZ k c).length ≤ k
  | 0, _ => Nat.le_refl _
  | k + 1, c => by
    unfold bigZ; split
    · exact Nat.zero_le _
    · rw [List.length_cons]; exact Nat.succ_le_succ (bigZ_len k _)
theorem cellZ_len (c : Int) : (cellZ c).length ≤ 60 := by
  unfold cellZ; split
  · exact bigZ_len 60 c
  · simp [smallZ]
theorem cells_len : ∀ ns : List Int, (ns.flatMap cellZ).length ≤ 60 * ns.length
  | [] => Nat.le_refl _
  | c :: ns => by
    rw [List.flatMap_cons, List.length_append, List.length_cons]
    have := cellZ_len c; have := cells_len ns; omega
theorem numbers_ok {ns : List Int} (h : ns.length ≤ 63) : RowOk (numbersZ ns) := by
  unfold numbersZ; split
  · exact ⟨by simp, by simp⟩
  · rename_i z
    exact ⟨fun e => z (by rw [e]; rfl), Nat.le_trans (cells_len ns) (by omega)⟩
def gNumbers (as : List Arg) (ret : Ret) (outs : Nat → Cont) : Prop := ∃ ns : List Int, as = [.d (.scr ns)] ∧ ns.length ≤ 63 ∧ ret = .v (.d (intsD (numbersZ ns)))
theorem no1r {x : Val} {i : Nat} {c : Cont} (h : ([Arg.d x] : List Arg)[i]? = some (.r c)) : False := by
  match i, h with
  | 0, h => cases h
  | i + 1, h => simp at h
theorem lenNumbers {vs : List V} {H : Hp} {Q : VK} {E : XK} (s : spG gNumbers vs H Q E) : vs.length = 1 := len_of (fun as ret outs ⟨_, e, _⟩ => by rw [e]; rfl) s
theorem rpAll_ints {F : Hp} : ∀ ns : List Int, RpAll F (ns.map V.int) (ns.map PyData.int)
  | [] => .nil
  | n :: ns => .cons (.int n) (rpAll_ints ns)
theorem eo_slScr {K : PySem.W.Frag} {tl th : TO} {ns : List Int} {lo hi : Option Int} (h : EV ta ρ (.scr ns) ρ1) (h1 : EO1 tl ρ1 lo ρ2) (h2 : EO1 th ρ2 hi ρ0) : EO (tSl (rSlU K) ta tl th) ρ (.lst (cutD (ns.map .int) lo hi)) ρ0 := fun e F σ H Q S k =>
  h e F σ H _ S fun F1 H1 v f1 S1 r1 => h1 e F1 σ H1 _ S1 fun F2 H2 f2 S2 => h2 e F2 σ H2 _ S2 fun F3 H3 f3 S3 => by
    obtain ⟨a, ob, rfl, e⟩ := r1
    have e3 := f3 _ _ (f2 _ _ e)
    have e4 : H3 a = some (.frz ob (.lst (ns.map V.int))) := by
      rcases S3.sub _ _ e3 with z | ⟨⟨w, z⟩ | ⟨w, z⟩, _⟩
      · exact z
      · cases z
      · cases z
    refine .inl ⟨_, _, rfl, .inl (.inr ⟨ob, e4⟩), fun p hp => ?_⟩
    exact k F3 _ p _ ((f1.trans f2).trans f3) (S3.alloc hp) (S3.sub.none hp) upd_same ⟨_, rfl, cut_rp (rpAll_ints ns) lo hi⟩ (S3.h0 hp) (S3.fresh hp)
theorem ev_numbers {E : XK} {ns : List Int} (h : EV ta ρ (.scr ns) ρ1) (hn : ns.length ≤ 63) : EV (tCall (spG gNumbers) [] E (tCons ta tNil)) ρ (.d (intsD (numbersZ ns))) ρ1 := by
  have z := ev_call (E := E) (g := gNumbers) (x := .d (intsD (numbersZ ns))) (outs := fun _ => .lst []) (ss := [.d (.scr ns)]) (ea_cons h ea_nil)
    ⟨fun k j hk => (by match k, hk with | 0, hk => cases hk | k + 1, hk => simp at hk), fun j k m hj hk => (by match j, hj with | 0, hj => cases hj | j + 1, hj => simp at hj)⟩ ⟨ns, rfl, hn, rfl⟩
  exact z
theorem cut63 {ns : List Int} (h : ns.length ≤ 63) : cutD (ns.map PyData.int) none (some 63) = ns.map .int := by
  have e : min 63 ns.length = ns.length := Nat.min_eq_right h
  have z : HT.sIx (ns.map PyData.int).length (ns.map PyData.int).length (some 63) = ns.length := by
    show (if (63 : Int) < 0 then ((63 : Int) + (ns.map PyData.int).length).toNat else min (63 : Int).toNat (ns.map PyData.int).length) = _
    rw [if_neg (by decide), List.length_map]
    exact e
  unfold cutD
  rw [z]
  show ((ns.map PyData.int).drop 0).take (ns.length - 0) = _
  rw [List.drop_zero, Nat.sub_zero, List.take_of_length_le (by simp)]
theorem at_ints {ns : List Int} {i : Nat} {x : Val} (h : ((ns.map PyData.int).map Val.d)[i]? = some x) : ∃ c, ns[i]? = some c ∧ x = .d (.int c) := by
  rw [List.getElem?_map, List.getElem?_map] at h
  cases z : ns[i]? with
  | none => rw [z] at h; cases h
  | some c => rw [z] at h; cases h; exact ⟨c, rfl, rfl⟩
theorem at_range {lo : Int} {n i : Nat} {x : Val} (h : (rangeD lo n)[i]? = some x) : i < n ∧ x = .d (.int (lo + i)) := by
  unfold rangeD at h
  rw [List.getElem?_map] at h
  by_cases z : i < n
  · rw [List.getElem?_range z] at h; cases h; exact ⟨z, rfl⟩
  · rw [List.getElem?_eq_none (by simp; omega)] at h; cases h
theorem cells_step {ns : List Int} {i : Nat} {c : Int} (h : ns[i]? = some c) : (ns.take (i + 1)).flatMap cellZ = (ns.take i).flatMap cellZ ++ cellZ c := by
  rw [List.take_add_one, h, List.flatMap_append]
  simp
theorem size4000 {n : Nat} (h : n ≤ 4000) : n < sizeLine := by
  rw [PySem.sizeLine_eq]; omega
theorem lenTake {vs : List V} {H : Hp} {Q : VK} {E : XK} (s : spG gTake vs H Q E) : vs.length = 3 :=
  len_of (fun as ret outs ⟨_, _, _, e, _⟩ => by rw [e]; rfl) s
end Pw
namespace Pw
open PySem L2
/-! ### the law's own sameness -/
def isTup : PyData → Bool
  | .tuple _ => true | _ => false
def isBl : PyData → Bool
  | .bool _ => true | _ => false
def isIntD : PyData → Bool
  | .int _ => true | .bool _ => true | _ => false
def isStrD : PyData → Bool
  | .str _ => true | _ => false
def isLstD : PyData → Bool
  | .list _ => true | _ => false
theorem kit_tup : ∀ d, kitB (tyName d) "tuple" = some (isTup d) := fun d => by cases d <;> rfl
theorem kit_bl : ∀ d, kitB (tyName d) "bool" = some (isBl d) := fun d => by cases d <;> rfl
theorem kit_int : ∀ d, kitB (tyName d) "int" = some (isIntD d) := fun d => by cases d <;> rfl
theorem kit_str : ∀ d, kitB (tyName d) "str" = some (isStrD d) := fun d => by cases d <;> rfl
theorem kit_lst : ∀ d, kitB (tyName d) "list" = some (isLstD d) := fun d => by cases d <;> rfl
mutual
def soZ : PyData → PyData → Bool
  | f, .none => isNone f
  | f, .tuple ms => match f with
    | .tuple fs => soAll fs ms
    | _ => false
  | f, .bool m => match f with
    | .bool g => decide (g = m)
    | _ => false
  | f, .int m => match f with
    | .int g => decide (g = m)
    | _ => false
  | f, .str m => match f with
    | .str g => decide (g = m)
    | _ => false
  | _, .list _ => false
  | _, .dict _ => false
def soAll : List PyData → List PyData → Bool
  | fs, [] => fs.isEmpty
  | fs, m :: ms => match fs with
    | [] => false
    | f :: fs => soZ f m && soAll fs ms
end
mutual
def depD : PyData → Nat
  | .tuple ms => depsD ms + 1
  | _ => 0
def depsD : List PyData → Nat
  | [] => 0
  | m :: ms => max (depD m) (depsD ms)
end
theorem dep_get : ∀ {ms : List PyData} {i : Nat} {m : PyData}, ms[i]? = some m → depD m ≤ depsD ms
  | [], i, m, h => by simp at h
  | a :: ms, 0, m, h => by
    simp at h; subst h
    rw [depsD]; exact Nat.le_max_left _ _
  | a :: ms, i + 1, m, h => by
    rw [depsD]; exact Nat.le_trans (dep_get (i := i) (by simpa using h)) (Nat.le_max_right _ _)
theorem soAll_len : ∀ {fs ms : List PyData}, soAll fs ms = true → fs.length = ms.length
  | [], [], _ => rfl
  | _ :: _, [], h => by simp [soAll] at h
  | [], _ :: _, h => by simp [soAll] at h
  | f :: fs, m :: ms, h => by
    simp [soAll] at h
    simp [soAll_len h.2]
theorem soAll_of : ∀ {fs ms : List PyData}, fs.length = ms.length → (∀ (i : Nat) f m, fs[i]? = some f → ms[i]? = some m → soZ f m = true) → soAll fs ms = true
  | [], [], _, _ => by simp [soAll]
  | _ :: _, [], h, _ => by simp at h
  | [], _ :: _, h, _ => by simp at h
  | f :: fs, m :: ms, h, k => by
    have h1 := k 0 f m rfl rfl
    have h2 := soAll_of (fs := fs) (ms := ms) (by simpa using h) fun i a b x y => k (i + 1) a b (by simpa using x) (by simpa using y)
    simp [soAll, h1, h2]
theorem soAll_get : ∀ {fs ms : List PyData} {i : Nat} {f m : PyData}, soAll fs ms = true → fs[i]? = some f → ms[i]? = some m → soZ f m = true
  | [], [], _, _, _, _, h, _ => by simp at h
  | _ :: _, [], _, _, _, h, _, _ => by simp [soAll] at h
  | [], _ :: _, _, _, _, h, _, _ => by simp [soAll] at h
  | a :: fs, b :: ms, 0, f, m, h, x, y => by
    simp [soAll] at h; simp at x y; subst x; subst y; exact h.1
  | a :: fs, b :: ms, i + 1, f, m, h, x, y => by
    simp [soAll] at h
    exact soAll_get (i := i) h.2 (by simpa using x) (by simpa using y)
mutual
def smD : PyData → Bool
  | .tuple ms => decide (ms.length < 1000000) && smsD ms
  | _ => true
def smsD : List PyData → Bool
  | [] => true
  | m :: ms => smD m && smsD ms
end
theorem sm_get : ∀ {ms : List PyData} {i : Nat} {m : PyData}, smsD ms = true → ms[i]? = some m → smD m = true
  | [], i, m, _, h => by simp at h
  | a :: ms, 0, m, k, h => by
    simp at h; subst h
    simp [smsD] at k; exact k.1
  | a :: ms, i + 1, m, k, h => by
    simp [smsD] at k
    exact sm_get (i := i) k.2 (by simpa using h)
def gSo (n : Nat) (a b y : PyData) : Prop := depD b < n ∧ smD b = true ∧ y = .bool (soZ a b)
theorem no1 {f : PyData → PyData → Prop} (z : ∀ a y, ¬ f a y) {vs : List V} {H : Hp} {Q : VK} {E : XK} (s : sp1 f vs H Q E) : False := by
  obtain ⟨F, as, ret, outs, _, _, _, ⟨ds, y, _, h, _⟩, _⟩ := s
  cases h with | mk h => exact z _ _ h
theorem no2 {f : PyData → PyData → PyData → Prop} (z : ∀ a b y, ¬ f a b y) {vs : List V} {H : Hp} {Q : VK} {E : XK} (s : sp2 f vs H Q E) : False := by
  obtain ⟨F, as, ret, outs, _, _, _, ⟨ds, y, _, h, _⟩, _⟩ := s
  cases h with | mk h => exact z _ _ _ h
end Pw

set_option Elab.async false
set_option linter.all false
set_option maxRecDepth 100000
/-! Exceptions that are held, over data. -/
namespace Pw
open PySem L2
variable {ρ ρ1 ρ2 : List Slot} {ta tb : TE} {P : Out → Prop} {K : PySem.W.Frag}
theorem Sub.exo {F H : Hp} (s : Sub F H) {a b C : Addr} {d : Option Addr} (h : F a = some (exo b C d)) : H a = some (exo b C d) := by
  rcases s a _ h with e | ⟨⟨w, e⟩ | ⟨w, e⟩, _⟩
  · exact e
  · cases e
  · cases e
theorem Sub.exd {F H : Hp} (s : Sub F H) {a b : Addr} {fs : List (Str × V)} (h : F a = some (exd b fs)) : H a = some (exd b fs) := by
  rcases s a _ h with e | ⟨⟨w, e⟩ | ⟨w, e⟩, _⟩
  · exact e
  · cases e
  · cases e
theorem ev_ex0 {C : Addr} : EV (fun _ H Q => ∀ a, H a = none → Q (.ref a) (upd H a (exo a C none))) ρ (.x ⟨C, none⟩) ρ := fun e F σ H Q S k a n => by
  have A := Al.one (o := L2.exo a C none) S.sub n
  exact k _ _ _ A.f (S.al A) ⟨a, rfl, upd_same⟩
theorem ev_ex1 {C : Addr} {f : Str} {d : PyData} (h : EV ta ρ (.d d) ρ1) : EV (tExmk C f (tCons ta tNil)) ρ (.x ⟨C, some (f, d)⟩) ρ1 := fun e F σ H Q S k => by
  refine ea_cons h ea_nil e F σ H _ S fun F1 H1 vs f1 S1 r => ?_
  cases r with
  | cons r t =>
    cases t
    rename_i v
    have r : Rp F1 v d := r
    refine ⟨v, rfl, fun a dx na nd ne => ?_⟩
    have A1 := Al.one (o := L2.exd dx [(f, v)]) S1.sub nd
    have na2 : upd H1 dx (L2.exd dx [(f, v)]) a = none := by rw [upd_ne (fun z => ne z.symm)]; exact na
    have A2 := Al.one (o := L2.exo a C (some dx)) A1.sub na2
    have eq : madeH H1 a dx C f v = upd (upd H1 dx (L2.exd dx [(f, v)])) a (L2.exo a C (some dx)) := by
      funext b
      show upd (upd (upd H1 a _) dx _) a _ b = _
      by_cases z : b = a
      · subst z; rw [upd_same, upd_same]
      · rw [upd_ne z, upd_ne z]
        by_cases y : b = dx
        · subst y; rw [upd_same, upd_same]
        · rw [upd_ne y, upd_ne y, upd_ne z]
    rw [eq]
    have A := A1.trans A2
    exact k _ _ _ (f1.trans A.f) (S1.al A) ⟨a, dx, v, rfl, upd_same, by rw [upd_ne ne]; exact upd_same, r.mono A.f⟩
theorem ev_exfld {C : Addr} {f : Str} {d : PyData} (h : EV ta ρ (.x ⟨C, some (f, d)⟩) ρ1) (T : XfC K C) (no : PySem.W.findIn K (.ref C) f = some none) : EV (tExfld K f ta) ρ (.d d) ρ1 := fun e F σ H Q S k => h e F σ H _ S fun F' H' v f' S' r => by
  obtain ⟨a, dx, w, rfl, e1, e2, r⟩ := r
  exact ⟨a, C, dx, _, w, rfl, T, no, S'.sub.exo e1, S'.sub.exd e2, by simp [List.lookup], k F' H' w f' S' r⟩
theorem ev_isX {x : XD} {c : V} {cv : Value} {b : Bool} (h : EV ta ρ (.x x) ρ1) (T : ExcC K x.C) (hc : ∀ u, RelV c u → u = cv) (hb : PySem.W.kitOne K (.ref x.C) cv = some b) : EV (tCB (rIsX K) (tCons ta (tCons (tC c) tNil))) ρ (.d (.bool b)) ρ1 := fun e F σ H Q S k => h e F σ H _ S fun F' H' v f' S' r => by
  obtain ⟨C, fld⟩ := x
  cases fld with
  | none =>
    obtain ⟨a, rfl, e1⟩ := r
    exact ⟨a, C, none, c, cv, b, rfl, T, S'.sub.exo e1, fun _ z => by (cases z), hc, hb, k F' H' _ f' S' (Rp.bl _)⟩
  | some fd =>
    obtain ⟨f, d⟩ := fd
    obtain ⟨a, dx, w, rfl, e1, e2, r⟩ := r
    exact ⟨a, C, some dx, c, cv, b, rfl, T, S'.sub.exo e1, fun _ z => by cases z; exact ⟨_, S'.sub.exd e2⟩, hc, hb, k F' H' _ f' S' (Rp.bl _)⟩
/-! ### lists of them -/
theorem Srcs.xs {F : Hp} {σ : L2.St} : ∀ {es : List XD} {vs : List V}, Srcs F σ (es.map fun d => Src.d (.x d)) vs → XRpAll F vs es
  | [], _, .nil => .nil
  | _ :: _, _, .cons a b => .cons a b.xs
theorem XRpAll.length {F : Hp} : ∀ {vs : List V} {es : List XD}, XRpAll F vs es → vs.length = es.length
  | _, _, .nil => rfl
  | _, _, .cons _ t => by simp [t.length]
theorem XRpAll.get {F : Hp} : ∀ {es : List XD} {vs : List V} {i : Nat} {v : V}, XRpAll F vs es → vs[i]? = some v → ∃ d, es[i]? = some d ∧ XRp F v d
  | _, _, i, _, .nil, e => by simp at e
  | _, _, 0, _, .cons r _, e => by simp at e; subst e; exact ⟨_, rfl, r⟩
  | _, _, i + 1, v, .cons _ t, e => by
    obtain ⟨d, h1, h2⟩ := XRpAll.get (i := i) (v := v) t (by simpa using e)
    exact ⟨d, by simpa using h1, h2⟩
theorem XRpAll.get' {F : Hp} : ∀ {es : List XD} {vs : List V} {i : Nat} {d : XD}, XRpAll F vs es → es[i]? = some d → ∃ v, vs[i]? = some v ∧ XRp F v d
  | _, _, i, _, .nil, e => by simp at e
  | _, _, 0, _, .cons r _, e => by simp at e; subst e; exact ⟨_, rfl, r⟩
  | _, _, i + 1, v, .cons _ t, e => by
    obtain ⟨d, h1, h2⟩ := XRpAll.get' (i := i) (d := v) t (by simpa using e)
    exact ⟨d, by simpa using h1, h2⟩
theorem ev_xlst {t : TA} {es : List XD} (h : EA t ρ (es.map fun d => Src.d (.x d)) ρ1) (hl : es.length ≤ sizeLine) : EV (tLst t) ρ (.xs es) ρ1 := fun e F σ H Q S k => h e F σ H _ S fun F1 H1 vs f1 S1 r1 => by
  have r := r1.xs
  refine ⟨by rw [r.length]; exact hl, fun p hp => ?_⟩
  have A := Al.one (o := .lst vs) S1.sub hp
  exact k _ _ _ (f1.trans A.f) (S1.al A) ⟨p, vs, rfl, upd_same, r.mono A.f⟩
theorem si_xs {F : Hp} {a : Addr} {vs : List V} {es : List XD} (e : F a = some (.lst vs)) (r : XRpAll F vs es) : SI (Itl K a) F C0 (es.map .x) where
  go := fun F' H i f S c h => by
    rw [List.length_map] at h
    have hl : i < vs.length := by rw [r.length]; exact h
    exact ⟨vs, vs[i], SqL.of (S.lst (f _ _ e)), by simp [hl]⟩
  stop := fun F' H i f S c h => by
    rw [List.length_map] at h
    exact ⟨vs, SqL.of (S.lst (f _ _ e)), by rw [r.length]; exact h⟩
  yld := fun F' H i v H' f S c y h => by
    obtain ⟨rfl, y⟩ := y
    obtain ⟨d, hd, rd⟩ := (r.mono f).get (y vs (SqL.of (S.lst (f _ _ e))))
    exact ⟨F', .x d, .rfl S, by rw [List.getElem?_map, hd]; rfl, rd⟩
theorem ei_xs {tl : TE} {es : List XD} (h : EV tl ρ (.xs es) ρ1) : EI (iList K tl) ρ (es.map .x) ρ1 := fun e F σ H R S k => h e F σ H _ S fun F' H' v f S' r => by
  obtain ⟨a, vs, rfl, q, r⟩ := r
  exact ⟨_, rfl, ⟨_, SqL.of (S'.sub.lst q)⟩, k F' H' _ f S' (si_xs q r)⟩
theorem ev_ixX {es : List XD} {i : Nat} {j : Int} {d : XD} (h : EV ta ρ (.xs es) ρ1) (h2 : EV tb ρ1 (.d (.int j)) ρ2) (hj : j = i) (hd : es[i]? = some d) : EV (tOp (rIx K) ta tb) ρ (.x d) ρ2 := fun e F σ H Q S k =>
  h e F σ H _ S fun F1 H1 v f1 S1 r1 => h2 e F1 σ H1 _ S1 fun F2 H2 w f2 S2 r2 => by
    subst hj
    cases r2
    obtain ⟨a, vs, rfl, q, r⟩ := r1
    obtain ⟨u, h1, h2⟩ := (r.mono f2).get' hd
    exact .inl ⟨a, vs, (i : Int), u, rfl, rfl, SqL.of (S2.sub.lst (f2 _ _ q)), L2.atI_nat h1, k F2 H2 u (f1.trans f2) S2 h2⟩
end Pw
namespace Pw
open PySem L2
section
variable {X : Cx}
theorem call_isXK (K : PySem.W.Frag) (h : X.K = K := by rfl) : CallR X (.builtin "isinstance") (rIsX K) := h ▸ call_isX
theorem pe_exfldK {e : Expr} {te : TE} {f : Str} {pos : Pos} (K : PySem.W.Frag) (he : PE X e te) (h : X.K = K := by rfl) (hb : attributeBase e f X.env (eval e X.env) = eval e X.env := by rfl) : PE X (.Attribute e f pos) (tExfld K f te) := h ▸ pe_exfld he hb
end
end Pw
namespace Pw
open PySem L2
variable {ρ ρ1 : List Slot} {ta : TE}
theorem ev_xcall {g : List Arg → Ret → (Nat → Cont) → Prop} {E : XK} {e : XD} {y : Val} (h : EV ta ρ (.x e) ρ1) (hg : g [.d (.x e)] (.v y) (fun _ => .lst [])) : EV (tCall (spG g) [] E (tCons ta tNil)) ρ y ρ1 := by
  have z := ev_call (E := E) (g := g) (x := y) (outs := fun _ => .lst []) (ss := [.d (.x e)]) (ea_cons h ea_nil)
    ⟨fun k j hk => (by match k, hk with | 0, hk => cases hk | k + 1, hk => simp at hk), fun j k m hj hk => (by match j, hj with | 0, hj => cases hj | j + 1, hj => simp at hj)⟩ hg
  exact z
theorem at_xs {es : List XD} {i : Nat} {x : Val} (h : (es.map Val.x)[i]? = some x) : ∃ e, e ∈ es ∧ x = .x e := by
  rw [List.getElem?_map] at h
  cases z : es[i]? with
  | none => rw [z] at h; cases h
  | some e => rw [z] at h; cases h; exact ⟨e, List.mem_of_getElem? z, rfl⟩
end Pw
namespace Pw
open PySem L2
variable {ρ ρ1 : List Slot} {ta : TE}
theorem et_b' {b c : Bool} (h : EV ta ρ (.d (.bool c)) ρ1) (e : c = b) : ET (tB ta) ρ b ρ1 := by subst e; exact et_b h
end Pw

set_option Elab.async false
set_option linter.all false
set_option maxRecDepth 100000
set_option maxHeartbeats 2000000
/-! What the head tells of own exception classes, by looks at the written part. -/
namespace Pw
open PySem L2 PyProof.Rows He
def clsM (s : Stmt) (j : Nat) : Stmt := match s with
  | .ClassDef _ _ _ b _ _ _ _ _ _ _ => b.getD j (.Pass ⟨0, 0, 0, 0⟩)
  | x => x
def clsShape (K : PySem.W.Frag) (C : Addr) : Bool := match K.lookup C with
  | some { cls := .type "type", dict := _, data := .cls cd, slots := sl } => match cd.mro, sl.toList with
    | .ref C' :: .ref _ :: t, [_, _, _, _, some (.builtin n), _] => C' == C && (decide (t = PySem.ESX.exTail) && (n == "Exception.__new__" && (!cd.hasDel && cd.hasDict)))
    | _, _ => false
  | _ => false
theorem clsShape_ok {K : PySem.W.Frag} {C : Addr} (h : clsShape K C = true) : ∃ M nm q N bs sn sub ab col dd k0 k1 k2 k3 k5, K.lookup C = some (excClassObj nm q C N bs (.ref M :: PySem.ESX.exTail) true sn sub ab col dd k0 k1 k2 k3 k5 "Exception.__new__") := by
  unfold clsShape at h
  split at h
  · rename_i dd cd sl ho
    split at h
    · rename_i C' M t k0 k1 k2 k3 n k5 hm hs
      simp only [Bool.and_eq_true, beq_iff_eq, Bool.not_eq_true', decide_eq_true_eq] at h
      obtain ⟨rfl, rfl, rfl, hdel, hdict⟩ := h
      obtain ⟨nm, bs, mro, ns, qn, hd, sn, sub, ab, col, del⟩ := cd
      dsimp only at hm hdel hdict
      subst hm; subst hdel; subst hdict
      have e : sl = #[k0, k1, k2, k3, some (.builtin "Exception.__new__"), k5] := by
        cases sl; simpa using hs
      subst e
      exact ⟨M, nm, qn, ns, bs, sn, sub, ab, col, dd, k0, k1, k2, k3, k5, ho⟩
    · cases h
  · cases h
/-- its instances are asked for their class in the plain way -/
def askB (K : PySem.W.Frag) (C : Addr) : Bool := decide (PySem.W.findIn K (.ref C) "__getattribute__" = some (some (.builtin "BaseException.__getattribute__"))) && (decide (PySem.W.findIn K (.ref C) "__getattr__" = some none) && (decide (PySem.W.subIn K (.ref C) (.type "BaseException") = some true) && (PySem.W.hasDictIn K C &&
  (decide (PySem.W.findIn K (.ref C) "__class__" = some (some (.builtin "object.__class__"))) && (decide (PySem.W.specialIn K (.builtin "object.__class__") "__get__" = some (some (.builtin "getset_descriptor.__get__"))) && (decide (PySem.W.takesIn K (.builtin "object.__class__") = some true) && decide (PySem.W.mroIn K C (.type "object") = some true)))))))
theorem askB_ok {K : PySem.W.Frag} {C : Addr} (h : askB K C = true) : ExcC K C := by
  simp only [askB, Bool.and_eq_true, decide_eq_true_eq] at h
  obtain ⟨h1, h2, h3, h4, h5, h6, h7, h8⟩ := h
  exact ⟨h1, h2, h3, h4, h5, h6, h7, h8⟩
theorem ask_xf {K : PySem.W.Frag} {C : Addr} (h : ExcC K C) : XfC K C := ⟨h.hg, h.hk, h.hs, h.hd⟩
/-- a class with an __init__ that keeps its argument as f -/
def exiB (K : PySem.W.Frag) (x f : Str) : Bool := clsShape K (ga K x) && (decide (PySem.W.findIn K (.ref (ga K x)) "__setattr__" = some (some (.builtin "object.__setattr__"))) && (decide (PySem.W.typeIn K (.ref (ga K x)) = some (.type "type")) && (PySem.W.keepIn K (.ref (ga K x)) && (decide (PySem.W.findIn K (.ref (ga K x)) f = some none) && askB K (ga K x)))))
structure ExI (K : PySem.W.Frag) (C : Addr) (f : Str) : Prop where
  T : ExC K C
  no : PySem.W.findIn K (.ref C) f = some none
  A : ExcC K C
theorem exiB_ok {K : PySem.W.Frag} {x f : Str} (h : exiB K x f = true) : ExI K (ga K x) f := by
  simp only [exiB, Bool.and_eq_true, decide_eq_true_eq] at h
  obtain ⟨h1, h2, h3, h4, h5, h6⟩ := h
  have A := askB_ok h6
  exact ⟨⟨clsShape_ok h1, h2, A.hs, h3, h4⟩, h5, A⟩
def ex0B (K : PySem.W.Frag) (x : Str) : Bool := PySem.W.excIn K (ga K x) PySem.ESX.exTail "Exception.__new__" && (PySem.W.keepIn K (.ref (ga K x)) && (decide (PySem.W.typeIn K (.ref (ga K x)) = some (.type "type")) && askB K (ga K x)))
theorem ex0B_ok {K : PySem.W.Frag} {x : Str} {mg : Str → Option Value} (h : ex0B K x = true) (hm : mg x = some (.ref (ga K x))) : Ex0 K mg x (ga K x) ∧ ExcC K (ga K x) := by
  simp only [ex0B, Bool.and_eq_true, decide_eq_true_eq] at h
  obtain ⟨h1, h2, h3, h4⟩ := h
  have A := askB_ok h4
  exact ⟨⟨h1, hm, h2, A.hs, h3⟩, A⟩
/-- isinstance between classes of the text: rows (x, y) -/
def kitB1 (K : PySem.W.Frag) (b : Bool) (p : Str × Str) : Bool := decide (PySem.W.kitOne K (.ref (ga K p.1)) (.ref (ga K p.2)) = some b)
def kitT1 (K : PySem.W.Frag) (b : Bool) (p : Str × String) : Bool := decide (PySem.W.kitOne K (.ref (ga K p.1)) (.type p.2) = some b)
def exm1 (K : PySem.W.Frag) (p : Str × Str) : Bool := decide (PySem.W.exmOne K (.ref (ga K p.1)) (.ref (ga K p.2)) = some true)
abbrev selfP (p : Str) : List Str := [("self" : Str), p]
theorem init_ok {P : Program} {w : World} {K : PySem.W.Frag} {mg : Str → Option Value} {base : Heap} {x qual p : Str} {s : Stmt} {fd : FuncData} {C fI : Addr} {f : Str} (I : ExI K C f) (hm : mg x = some (.ref C))
    (F : FunD K "__init__" qual (defArgs s) (defBody s) (defScope s) [] [] fI fd) (M : Meth K C "__init__" fI) (S : FnScope (selfP p) (selfP p) (defScope s))
    (hb : ∀ (kV doc pm : Value) (an : Option Addr) (cdv ct : Value) (us : List Value), us.length = 2 → bindArgs (PySem.W.fnOf "__init__" qual (defArgs s) (defBody s) (defScope s) .none kV doc pm an cdv ct) ⟨us, []⟩ = pure ((selfP p).zip us))
    (hk : ∀ (kV doc pm : Value) (an : Option Addr) (cdv ct a b : Value), bindArgs (PySem.W.fnOf "__init__" qual (defArgs s) (defBody s) (defScope s) .none kV doc pm an cdv ct) ⟨[a], [(f, b)]⟩ = pure ((selfP p).zip [a, b]))
    (hp : ∀ (cdv : Value) (A : Around) (outer : List Env) (st : Shared) (H : Hp) (E : XK), PSs (cxOf CX0 P w K mg base (selfP p) qual (defScope s) fI cdv A outer st H E).nox (defBody s) (tExst K f (tVar 0) (tVar 1))) : ExMk P w K mg base 1 x C f := by
  refine ⟨I.T, hm, I.no, fI, fd, (selfP p), M.at_, ?_, ?_, F.bindsN (ps := (selfP p)) hb, fun s' a b => ?_⟩
  · exact beq_iff_eq.mp M.fn
  · refine F.ok S (fun vs H Q E h => ?_) (fun cdv A outer st H vs Q E hr h => ⟨tExst K f (tVar 0) (tVar 1), PSs.nox (hp cdv A outer st H E), ?_⟩)
    · obtain ⟨a, C', v, rfl, _⟩ := h
      rfl
    · obtain ⟨a, C', v, rfl, T, no, e, h⟩ := h
      exact ⟨v, rfl, .ref a, rfl, a, C', rfl, T, no, e, fun dx n ne => h dx n ne⟩
  · obtain ⟨oc, od, dV, kV, doc, pm, an, cdv, ct, osl, rfl, lk, hcd, hD, hK⟩ := F.ex
    rcases hD with ⟨_, rfl⟩ | ⟨e, _⟩
    · exact .of_eq (hk kV doc pm an cdv ct a b)
    · exact absurd rfl e
end Pw
namespace Pw
open PySem L2
/-- a def of one datum whose answer is a truth, opened down to the heap -/
theorem raw1 {f : PyData → PyData → Prop} {vs : List V} {H : Hp} {Q : VK} {E : XK} {goal : Prop} (s : sp1 f vs H Q E)
    (k : ∀ F v a y, f a y → Sub F H → Rp F v a → vs = [v] → (∀ H' b, y = .bool b → FSub H H' → Q (.bl b) H') → goal) : goal := by
  obtain ⟨F, as, ret, outs, S, A, _, ⟨ds, y, e1, h, e2⟩, q⟩ := s
  cases h with
  | mk h =>
    subst e1; subst e2
    cases A with
    | cons r t =>
      cases t
      refine k F _ _ y h S r rfl fun H' b e f => ?_
      subst e
      refine q F H' _ .rfl (fun a h => .inl h) (fun a o h => ?_) (fun a o h _ => f a o h) (fun a h => ?_) (Rp.bl b) (fun i a ⟨⟨c, h⟩, _⟩ => ?_)
      · rcases S a o h with z | ⟨z, ob, w⟩
        · exact .inl (f _ _ z)
        · exact .inr ⟨z, ob, f _ _ w⟩
      · cases z : H a with
        | none => exact absurd z h
        | some o => rw [f _ _ z]; simp
      · match i, h with
        | 0, h => cases h
        | i + 1, h => simp at h
end Pw
namespace Pw
open PySem L2 PyProof.Rows He
/-- no list stands in the written part -/
def noListB (K : PySem.W.Frag) : Bool := K.all fun p => !decide (p.2.cls = .type "list")
theorem noListB_ok {K : PySem.W.Frag} (h : noListB K = true) {a : Addr} {o : Obj} (e : K.lookup a = some o) : o.cls ≠ .type "list" := by
  induction K with
  | nil => simp at e
  | cons p K ih =>
    obtain ⟨b, u⟩ := p
    simp only [noListB, List.all_cons, Bool.and_eq_true] at h
    rw [List.lookup_cons] at e
    split at e
    · cases e
      simpa using h.1
    · exact ih h.2 e
section
variable {P : Program} {w : World} {K : PySem.W.Frag} {mg : Str → Option Value} {base : Heap}
theorem fn_mk {x : Str} {s : Stmt} {N ps : List Str} {k : Nat} {sp : Sp} {f : Addr} {fd : FuncData} (F : FunD K x x (defArgs s) (defBody s) (defScope s) [] [] f fd) (S : FnScope N ps (defScope s)) (len : ∀ vs H Q E, sp vs H Q E → vs.length = ps.length)
    (hbody : ∀ (f : Addr) (cdv : Value) (A : Around) (outer : List Env) (st : Shared) (H : Hp) (vs : List V) (Q : VK) (E : XK), Room k (A.deeper (PyProof.Rows.envOfC x (defScope s) st.heap.objs.size f cdv)) → sp vs H Q E →
      ∃ t, PSs (cxOf CX0 P w K mg base N x (defScope s) f cdv A outer st H E).nox (defBody s) t ∧ t { nx := fun _ H' => Q .non H', rt := Q } (L2.start N vs) H) : FnOk P w K mg base CX0 (k + 1) f fd ps sp :=
  F.ok S len fun cdv A outer st H vs Q E hr h => by
    obtain ⟨t, h1, h2⟩ := hbody f cdv A outer st H vs Q E hr h
    exact ⟨t, h1.nox, h2⟩
end
/-- a law of the script that answers True -/
def gTrue (as : List Arg) (ret : Ret) (outs : Nat → Cont) : Prop := ∃ ns : List Int, as = [.d (.scr ns)] ∧ ns.length ≤ 63 ∧ ret = .v (.d (.bool true))
theorem lenTrue {vs : List V} {H : Hp} {Q : VK} {E : XK} (s : spG gTrue vs H Q E) : vs.length = 1 := len_of (fun _ _ _ ⟨_, e, _⟩ => by rw [e]; rfl) s
theorem law_entry {K : PySem.W.Frag} (nl : noListB K = true) {H : Hp} {a : Addr} {ns : List Int} {E : XK} (hl : ns.length ≤ 63) (hO : Only H) (hS : SqL K H a (ns.map V.int)) : spG gTrue [.ref a] H (fun v _ => v = .bl true) E := by
  have key : ∃ o, H a = some (.frz o (.lst (ns.map V.int))) := by
    rcases hS with (e | ⟨o, e⟩) | ⟨o, its, n, e, ec, _⟩
    · rcases hO a with z | ⟨o, xs, z⟩
      · rw [e] at z; cases z
      · rw [e] at z; cases z
    · exact ⟨o, e⟩
    · exact absurd ec (noListB_ok nl e)
  obtain ⟨o, e⟩ := key
  refine ⟨fun b => if b = a then H a else none, [.d (.scr ns)], .v (.d (.bool true)), fun _ => .lst [], fun b u h => ?_, .cons ⟨a, o, rfl, ?_⟩ .nil, ?_, ⟨ns, rfl, hl, rfl⟩, fun F' H' v _ _ _ _ _ r _ => ?_⟩
  · by_cases z : b = a
    · subst z; left
      simpa using h
    · simp [z] at h
  · simpa using e
  · rintro i j b ⟨⟨c, h⟩, _⟩ _
    exact (no1r h).elim
  · cases r; rfl
end Pw

set_option Elab.async false
set_option linter.all false
set_option maxRecDepth 100000
/-! The head of a law whose text has imports at its top. -/
noncomputable section
namespace PwHI
open PySem PySem.W PySem.Calls PyProof.Rows HeadRun
def lookT (s : SharedT) (a : Addr) : Option Obj := HandSHeadRun.getT s a
/-- the whole run at a world: the boot, the imports, the top -/
def RunI (r : OpenRow) (q : Program) (H : Hook) (ob : SharedT → H.α) (M : Nat) (loose : List PySem.Str) (w : World) : Prop :=
  (wholeF (fun p => stepQ (denQ tabQ) p w) fenceQ M r.prog).map (fun x => (looksF r.prog x.1.heap x.2.abs, seenQ q loose (importedModules r.prog.main.body) (fun s => xlAt q [] s && recOk r.toRowW.records s) x.2.abs, ob x.2)) = some (true, openGood q loose, H.val w)
theorem head_imp {r : OpenRow} {q : Program} {H : Hook} {ob : SharedT → H.α} {M : Nat} {loose : List PySem.Str} {d : DefRec} {kwd : List (PySem.Str × PySem.Expr)} (ho : ∀ s : SharedT, ob s = H.obs s.abs)
    (run : ∀ w, RunI r q H ob M loose w)
    (hdef : defOf q r.name = some (d, kwd)) (hp : r.prog.theDef r.name = some (d.params, d.body, d.scope)) (hk : kwWritten? d.params.kwonlyargs d.params.kw_defaults = some kwd)
    (hwr : (!r.writes || r.records.isEmpty) = true) (k1 : r.wellSaid = true) (ok : (chainsOk q && opensWell r.prog && (frees r.toRowW && r.within.isEmpty)) = true) (hb : r.prog.bare) (hw : r.toRowW.promised)
    (call : WalkO q loose (XL q []) H.says r.toRowW d kwd fun f vs => PySem.call f vs) : r.Holds := by
  have start : LeftO r.prog q loose (fun s => xlAt q [] s && recOk r.toRowW.records s) H.obs H.val M true := left_imp fun w => by
    have z := run w
    unfold RunI at z
    rw [show ob = fun s => H.obs s.abs from funext ho] at z
    rw [wholeQ_eq]
    simp only [seenQ_eq]
    exact z
  exact holds_open (q := q) (r := r) (loose := loose) (YP := H.says) (XP := XL q []) (kwd := kwd) (d := d) start H.of H.keeps (fun s z => xl_of s (Bool.and_eq_true_iff.mp z).1) XL.keeps hdef hp hk
    (fun s z => recFacts_of (Bool.and_eq_true_iff.mp z).2) hwr k1 ok hb hw call
end PwHI

set_option maxRecDepth 100000
/-! PwTx: texts cut at one sign; words; rows of words; numbers' texts. -/
namespace Pw
open PySem TL PySem.NumText

def cutL (c : Nat) : List Nat → List (List Nat)
  | [] => [[]]
  | x :: r => if x = c then [] :: cutL c r else match cutL c r with
    | [] => [[x]]
    | p :: q => (x :: p) :: q
def glueL (a : List Nat) : List (List Nat) → List (List Nat)
  | [] => [a]
  | p :: q => (a ++ p) :: q
theorem cutL_ne (c : Nat) : ∀ l, cutL c l ≠ []
  | [] => by simp [cutL]
  | x :: r => by
    unfold cutL
    split
    · simp
    · split <;> simp
theorem glue_nil {l : List (List Nat)} (h : l ≠ []) : glueL [] l = l := by
  cases l with
  | nil => exact absurd rfl h
  | cons p q => simp [glueL]
theorem spl_cut (c : Nat) : ∀ (l acc : List Nat), spl [c] 0 acc l = glueL acc (cutL c l)
  | [], acc => by rw [spl_nil]; simp [cutL, glueL]
  | x :: r, acc => by
    by_cases h : x = c
    · subst h
      rw [spl_hit (by exact pre_self [x] r)]
      show acc :: spl [x] 0 [] r = _
      rw [spl_cut x r []]
      show _ = glueL acc (if x = x then [] :: cutL x r else _)
      rw [if_pos rfl, glue_nil (cutL_ne x r)]
      simp [glueL]
    · rw [spl_miss (pre_of_head [] r h), spl_cut c r (acc ++ [x])]
      show _ = glueL acc (if x = c then [] :: cutL c r else match cutL c r with
        | [] => [[x]]
        | p :: q => (x :: p) :: q)
      rw [if_neg h]
      cases e : cutL c r with
      | nil => exact absurd e (cutL_ne c r)
      | cons p q => simp [glueL]
theorem split_tl (x y : Str) {c : Nat} (h : tl y = [c]) (hk : c < 256) : (Txt.split x y).map tl = cutL c (tl x) := by
  rw [split_spl x y (by rw [h]; simp) (kind_ok (by
    have e : y.cps = #[c] := Array.toList_inj.mp h
    rw [e]
    simp [hk])), h, spl_cut, glue_nil (cutL_ne _ _)]
def mkS (l : List Nat) : Str := ⟨l.toArray⟩
theorem tl_mkS (l : List Nat) : tl (mkS l) = l := rfl
theorem mkS_tl (x : Str) : mkS (tl x) = x := ext_tl rfl
def splitS (c : Nat) (x : Str) : List Str := (cutL c (tl x)).map mkS
theorem split_eq (x y : Str) {c : Nat} (h : tl y = [c]) (hk : c < 256) : Txt.split x y = splitS c x := by
  refine map_tl_inj ?_
  rw [split_tl x y h hk, splitS, List.map_map]
  exact (List.map_id _).symm
theorem cutL_app (c : Nat) : ∀ p q : List Nat, cutL c (p ++ c :: q) = cutL c p ++ cutL c q
  | [], q => by simp [cutL]
  | x :: p, q => by
    show (if x = c then [] :: cutL c (p ++ c :: q) else match cutL c (p ++ c :: q) with
        | [] => [[x]]
        | u :: v => (x :: u) :: v) = (if x = c then [] :: cutL c p else match cutL c p with
        | [] => [[x]]
        | u :: v => (x :: u) :: v) ++ cutL c q
    by_cases h : x = c
    · rw [if_pos h, if_pos h, cutL_app c p q]; rfl
    · rw [if_neg h, if_neg h, cutL_app c p q]
      cases e : cutL c p with
      | nil => exact absurd e (cutL_ne c p)
      | cons u v => rfl
theorem cutL_free {c : Nat} : ∀ {p : List Nat}, c ∉ p → cutL c p = [p]
  | [], _ => rfl
  | x :: p, h => by
    have hx : x ≠ c := fun e => h (by rw [e]; exact List.mem_cons_self ..)
    have hp : c ∉ p := fun e => h (List.mem_cons_of_mem _ e)
    show (if x = c then [] :: cutL c p else match cutL c p with
        | [] => [[x]]
        | u :: v => (x :: u) :: v) = _
    rw [if_neg hx, cutL_free hp]
theorem cutL_mem {c : Nat} : ∀ {l : List Nat} {p : List Nat}, p ∈ cutL c l → c ∉ p ∧ ∀ x ∈ p, x ∈ l
  | [], p, h => by
    simp [cutL] at h
    subst h
    exact ⟨by simp, by simp⟩
  | x :: r, p, h => by
    unfold cutL at h
    by_cases hx : x = c
    · rw [if_pos hx] at h
      rcases List.mem_cons.mp h with e | e
      · subst e; exact ⟨by simp, by simp⟩
      · exact ⟨(cutL_mem e).1, fun z hz => List.mem_cons_of_mem _ ((cutL_mem e).2 z hz)⟩
    · rw [if_neg hx] at h
      cases e : cutL c r with
      | nil => exact absurd e (cutL_ne c r)
      | cons u v =>
        rw [e] at h
        rcases List.mem_cons.mp h with q | q
        · subst q
          have m : u ∈ cutL c r := by rw [e]; exact List.mem_cons_self ..
          refine ⟨fun z => ?_, fun z hz => ?_⟩
          · rcases List.mem_cons.mp z with z | z
            · exact hx z.symm
            · exact (cutL_mem m).1 z
          · rcases List.mem_cons.mp hz with z' | z'
            · rw [z']; exact List.mem_cons_self ..
            · exact List.mem_cons_of_mem _ ((cutL_mem m).2 z z')
        · have m : p ∈ cutL c r := by rw [e]; exact List.mem_cons_of_mem _ q
          exact ⟨(cutL_mem m).1, fun z hz => List.mem_cons_of_mem _ ((cutL_mem m).2 z hz)⟩
/-- lengths: the parts and the cuts make the whole -/
theorem cutL_len (c : Nat) : ∀ l : List Nat, ((cutL c l).map List.length).sum + (cutL c l).length = l.length + 1
  | [] => rfl
  | x :: r => by
    have ih := cutL_len c r
    unfold cutL
    by_cases h : x = c
    · rw [if_pos h]; simp only [List.map_cons, List.sum_cons, List.length_cons, List.length_nil]; omega
    · rw [if_neg h]
      cases e : cutL c r with
      | nil => exact absurd e (cutL_ne c r)
      | cons u v =>
        rw [e] at ih
        simp only [List.map_cons, List.sum_cons, List.length_cons] at ih ⊢
        omega

def full {α : Type} (p : List α) : Bool := !p.isEmpty
def wordsL (l : List Nat) : List (List Nat) := (cutL 32 l).filter full
theorem words_app (p q : List Nat) : wordsL (p ++ 32 :: q) = wordsL p ++ wordsL q := by
  unfold wordsL
  rw [cutL_app, List.filter_append]
theorem words_nil : wordsL [] = [] := rfl
theorem words_blank (p : List Nat) : ∀ k : Nat, wordsL (p ++ List.replicate k 32) = wordsL p
  | 0 => by simp
  | k + 1 => by
    have e : p ++ List.replicate (k + 1) 32 = (p ++ List.replicate k 32) ++ 32 :: [] := by
      rw [List.replicate_succ', ← List.append_assoc]
    rw [e, words_app, words_blank p k, words_nil, List.append_nil]
theorem words_free {p : List Nat} (h : 32 ∉ p) : wordsL p = if p = [] then [] else [p] := by
  unfold wordsL
  rw [cutL_free h]
  cases p with
  | nil => rfl
  | cons x p => rfl
theorem words_mem {l p : List Nat} (h : p ∈ wordsL l) : p ≠ [] ∧ 32 ∉ p ∧ ∀ x ∈ p, x ∈ l := by
  obtain ⟨h1, h2⟩ := List.mem_filter.mp h
  exact ⟨by cases p with | nil => simp [full] at h2 | cons x p => simp, cutL_mem h1⟩
def rowsW (l : List Nat) : List (List (List Nat)) := ((cutL 10 l).map wordsL).filter full
theorem rows_app (p q : List Nat) : rowsW (p ++ 10 :: q) = rowsW p ++ rowsW q := by
  unfold rowsW
  rw [cutL_app, List.map_append, List.filter_append]
theorem rows_nil : rowsW [] = [] := rfl
theorem rows_free {p : List Nat} (h : 10 ∉ p) : rowsW p = if wordsL p = [] then [] else [wordsL p] := by
  unfold rowsW
  rw [cutL_free h]
  show [wordsL p].filter full = _
  cases e : wordsL p with
  | nil => rfl
  | cons x r => rfl
/-- a text of whole lines -/
def Lines (s : List Nat) : Prop := s = [] ∨ ∃ t, s = t ++ [10]
theorem rows_lines {s : List Nat} (h : Lines s) (q : List Nat) : rowsW (s ++ q) = rowsW s ++ rowsW q := by
  rcases h with e | ⟨t, e⟩
  · subst e; simp [rows_nil]
  · subst e
    have e1 : t ++ [10] ++ q = t ++ 10 :: q := by simp
    rw [e1, rows_app, rows_app t [], rows_nil, List.append_nil]
theorem Lines.app {s q : List Nat} : Lines (s ++ q ++ [10]) := .inr ⟨s ++ q, rfl⟩
theorem rows_line {s q : List Nat} (h : Lines s) (hq : 10 ∉ q) : rowsW (s ++ q ++ [10]) = rowsW s ++ (if wordsL q = [] then [] else [wordsL q]) := by
  rw [List.append_assoc, rows_lines h, rows_app q [], rows_nil, List.append_nil, rows_free hq]
theorem rows_cut {s : List Nat} (h : Lines s) (hne : s ≠ []) : rowsW (s.take (s.length - 1)) = rowsW s := by
  rcases h with e | ⟨t, e⟩
  · exact absurd e hne
  · subst e
    rw [rows_app t [], rows_nil, List.append_nil]
    simp

/-! ### numbers -/
def numS (n : Int) : Str := Str.ofString (toString n)
theorem numS_nat (m : Nat) : tl (numS (m : Int)) = (Nat.toDigits 10 m).map Char.toNat := PySem.W.KIN.signs_num m
theorem numS_neg (m : Nat) : tl (numS (-((m + 1 : Nat) : Int))) = 45 :: (Nat.toDigits 10 (m + 1)).map Char.toNat := by
  unfold numS
  rw [tl_ofString]
  show (String.toList ("-" ++ Nat.repr (m + 1))).map Char.toNat = _
  rw [String.toList_append, List.map_append, Nat.toList_repr]
  rfl
theorem digits_all (m : Nat) : AllDigits ((Nat.toDigits 10 m).map Char.toNat) := by
  intro c hc
  obtain ⟨ch, hch, e⟩ := List.mem_map.mp hc
  rw [← e]
  exact PyProof.Rows.digit_range (Nat.isDigit_of_mem_toDigits (by decide) (by decide) hch)
theorem digits_ne (m : Nat) : (Nat.toDigits 10 m).map Char.toNat ≠ [] := by
  intro e
  have h := PySem.toDigits_len_ge 10 m
  rw [List.map_eq_nil_iff.mp e] at h
  exact absurd h (by decide)
theorem digits_len {m : Nat} (h : m < 10 ^ 10) : ((Nat.toDigits 10 m).map Char.toNat).length ≤ 10 := by
  have e := PySem.W.KT.len_num (n := (m : Int)) (by omega) (by omega)
  rw [show (Str.ofString (toString (m : Int))) = numS (m : Int) from rfl, len_tl, numS_nat] at e
  exact e
/-- the signs ahead of the digits, the digits -/
def bare : List Nat → List Nat
  | 45 :: r => r
  | l => l
def worthZ (l : List Nat) : Int := match l with
  | 45 :: r => -((digitsVal r : Nat) : Int)
  | l => ((digitsVal l : Nat) : Int)
def isDig (c : Nat) : Bool := decide (48 ≤ c) && decide (c ≤ 57)
theorem isDig_all {l : List Nat} : l.all isDig = true ↔ AllDigits l := by
  simp [AllDigits, isDig, List.all_eq_true]
theorem dig_not45 {l : List Nat} (h : AllDigits l) : bare l = l ∧ worthZ l = ((digitsVal l : Nat) : Int) := by
  cases l with
  | nil => exact ⟨rfl, rfl⟩
  | cons c r =>
    have hc : c ≠ 45 := by have := h.head; omega
    constructor
    · unfold bare; split
      · rename_i e; injection e with e1 _; exact absurd e1 hc
      · rfl
    · unfold worthZ; split
      · rename_i e; injection e with e1 _; exact absurd e1 hc
      · rfl
/-- int(w) of a word of digits, with or without a minus -/
theorem int_reads {w : Str} (h : AllDigits (bare (tl w))) (h1 : bare (tl w) ≠ []) (h2 : w.length ≤ 4300) : PySem.intText? w = some (worthZ (tl w)) := by
  cases e : tl w with
  | nil => rw [e] at h1; exact absurd rfl h1
  | cons c r =>
    by_cases hc : c = 45
    · subst hc
      rw [e] at h h1
      exact intText_neg e h h1 h2
    · have eb : bare (c :: r) = c :: r := by
        unfold bare; split
        · rename_i e; injection e with e1 _; exact absurd e1 hc
        · rfl
      have ew : worthZ (c :: r) = ((digitsVal (c :: r) : Nat) : Int) := by
        unfold worthZ; split
        · rename_i e; injection e with e1 _; exact absurd e1 hc
        · rfl
      rw [e, eb] at h h1
      rw [ew, ← e]
      exact intText_digits (by rw [show w.cps.toList = tl w from rfl, e]; exact h) (by rw [show w.cps.toList = tl w from rfl, e]; exact h1) h2
theorem numS_facts (n : Int) (h : -(10 ^ 10) < n ∧ n < 10 ^ 10) : AllDigits (bare (tl (numS n))) ∧ bare (tl (numS n)) ≠ [] ∧ (bare (tl (numS n))).length ≤ 10 ∧ worthZ (tl (numS n)) = n ∧ (tl (numS n)).length ≤ 11 := by
  by_cases hn : 0 ≤ n
  · obtain ⟨m, rfl⟩ := Int.eq_ofNat_of_zero_le hn
    rw [numS_nat]
    obtain ⟨e1, e2⟩ := dig_not45 (digits_all m)
    have hl := digits_len (m := m) (by omega)
    rw [e1, e2, PySem.W.KIN.val_back]
    exact ⟨digits_all m, digits_ne m, hl, rfl, by omega⟩
  · obtain ⟨m, hm⟩ := Int.eq_ofNat_of_zero_le (a := -n - 1) (by omega)
    have e : n = -((m + 1 : Nat) : Int) := by omega
    have hl := digits_len (m := m + 1) (by omega)
    rw [e, numS_neg]
    refine ⟨digits_all (m + 1), digits_ne (m + 1), hl, ?_, ?_⟩
    · show -((digitsVal _ : Nat) : Int) = _
      rw [PySem.W.KIN.val_back]
    · rw [List.length_cons]; omega
theorem numS_signs (n : Int) : ∀ c ∈ tl (numS n), c = 45 ∨ (48 ≤ c ∧ c ≤ 57) := by
  intro c hc
  by_cases hn : 0 ≤ n
  · obtain ⟨m, rfl⟩ := Int.eq_ofNat_of_zero_le hn
    rw [numS_nat] at hc
    exact .inr (digits_all m c hc)
  · obtain ⟨m, hm⟩ := Int.eq_ofNat_of_zero_le (a := -n - 1) (by omega)
    have e : n = -((m + 1 : Nat) : Int) := by omega
    rw [e, numS_neg] at hc
    rcases List.mem_cons.mp hc with q | q
    · exact .inl q
    · exact .inr (digits_all (m + 1) c q)
theorem numS_ne (n : Int) : tl (numS n) ≠ [] := by
  by_cases hn : 0 ≤ n
  · obtain ⟨m, rfl⟩ := Int.eq_ofNat_of_zero_le hn
    rw [numS_nat]; exact digits_ne m
  · obtain ⟨m, hm⟩ := Int.eq_ofNat_of_zero_le (a := -n - 1) (by omega)
    have e : n = -((m + 1 : Nat) : Int) := by omega
    rw [e, numS_neg]; simp
end Pw

set_option Elab.async false
set_option linter.all false
set_option maxRecDepth 100000
namespace Pw
open PySem L2
variable {ρ ρ1 : List Slot} {ta : TE}
def signsD (z : Str) : List Val := z.cps.toList.map fun c => .d (.str ⟨#[c]⟩)
theorem si_str {z : Str} {F : Hp} : SI (Its z) F C0 (signsD z) where
  go := fun F' H i f S c h => show i < z.cps.size by simpa [signsD] using h
  stop := fun F' H i f S c h => show z.cps.size ≤ i by simpa [signsD] using h
  yld := fun F' H i v H' f S c y h => by
    obtain ⟨rfl, d, hd, rfl⟩ := y
    refine ⟨F', .d (.str ⟨#[d]⟩), .rfl S, ?_, Rp.str _⟩
    unfold signsD
    rw [List.getElem?_map, Array.getElem?_toList, hd]; rfl
theorem ei_str {z : Str} (h : EV ta ρ (.d (.str z)) ρ1) : EI (iStr ta) ρ (signsD z) ρ1 := fun e F σ H R S k => h e F σ H _ S fun F' H' v f S' r => by
  cases r
  exact ⟨z, rfl, k F' H' _ f S' si_str⟩
/-! ### what the program's checks of values tell -/
def seqOf : PyData → Option (List PyData)
  | .list ds => some ds
  | .tuple ds => some ds
  | _ => none
def isI : PyData → Bool
  | .int _ => true
  | _ => false
def betZ (v : PyData) (lo hi : Int) : Bool := match v with
  | .int i => decide (lo ≤ i) && decide (i ≤ hi)
  | _ => false
def isSeqD (v : PyData) : Bool := isLstD v || isTup v
def rowZ (v : PyData) (n : Int) : Bool := match v with
  | .list ds => decide ((ds.length : Int) = n)
  | .tuple ds => decide ((ds.length : Int) = n)
  | _ => false
def colZ (v : PyData) (n : Int) : Bool := match v with
  | .list ds => decide ((ds.length : Int) ≤ n)
  | .tuple ds => decide ((ds.length : Int) ≤ n)
  | _ => false
def gInt (a y : PyData) : Prop := y = .bool (isI a)
def gBet (a b c y : PyData) : Prop := ∃ lo hi, b = .int lo ∧ c = .int hi ∧ y = .bool (betZ a lo hi)
def gSeq (a y : PyData) : Prop := y = .bool (isSeqD a)
def gRow (a b y : PyData) : Prop := ∃ n, b = .int n ∧ y = .bool (rowZ a n)
def gCol (a b y : PyData) : Prop := ∃ n, b = .int n ∧ y = .bool (colZ a n)
theorem pi_LTS {X : Cx} {tg l : Expr} {tl : TE} (K : PySem.W.Frag) (hl : PE X l tl) (h : X.K = K := by rfl) : PI X tg l (iOr (iOr (iList K tl) (iTup K tl)) (iStr tl)) := pi_or (pi_LT K hl h) (pi_str hl)
def placeZ (v : PyData) (n : Int) : Bool := rowZ v 2 && ((seqOf v).getD []).all fun d => betZ d (-n) n
def gPlace (a b y : PyData) : Prop := ∃ n, b = .int n ∧ y = .bool (placeZ a n)
theorem ev_all {K : PySem.W.Frag} {α : Type} {zs : List α} {p : α → Bool} (h : EO ta ρ (.lst (zs.map fun z => PyData.bool (p z))) ρ1) : EV (tCB (rAll K) (tCons ta tNil)) ρ (.d (.bool (zs.all p))) ρ1 := by
  have e : (zs.map fun z => PyData.bool (p z)) = (zs.map p).map PyData.bool := by rw [List.map_map]; rfl
  rw [e] at h
  have z := ev_cw h.w (cw_all (K := K) (bs := zs.map p))
  have q : (zs.map p).all id = zs.all p := by rw [List.all_map]; rfl
  rw [q] at z
  exact z
theorem no_own1 {a : Val} : ∀ j ∈ ([1] : List Nat), ∀ l c, ([.val a, .non] : List Slot)[j]? ≠ some (.own l c) := by
  intro j hj l c h
  have hj : j = 1 := by simpa using hj
  subst hj
  cases h
theorem no_own2 {a b : Val} : ∀ j ∈ ([2] : List Nat), ∀ l c, ([.val a, .val b, .non] : List Slot)[j]? ≠ some (.own l c) := by
  intro j hj l c h
  have hj : j = 2 := by simpa using hj
  subst hj
  cases h
/-! ### lists and tuples alike -/
def withSeq : PyData → List PyData → PyData
  | .list _, ds => .list ds
  | _, ds => .tuple ds
theorem opd_ixQ {K : PySem.W.Frag} {v : PyData} {ds : List PyData} {i : Int} {d : PyData} (h : seqOf v = some ds) (hd : L2.atI ds i = some d) : OpD (rIx K) v (.int i) d := by
  cases v <;> first | (cases h; done) | skip
  · cases h; exact opd_ixL hd
  · cases h; exact opd_ixT hd
theorem cd_lenQ {K : PySem.W.Frag} {v : PyData} {ds : List PyData} (h : seqOf v = some ds) : CallD (rLen K) [v] (.int ds.length) := by
  cases v <;> first | (cases h; done) | skip
  · cases h; exact cd_lenL
  · cases h; exact cd_lenT
theorem ei_seq {K : PySem.W.Frag} {v : PyData} {ds : List PyData} (h : EV ta ρ (.d v) ρ1) (hs : seqOf v = some ds) : EI (iOr (iList K ta) (iTup K ta)) ρ (ds.map .d) ρ1 := by
  cases v <;> first | (cases hs; done) | skip
  · cases hs; exact ei_or1 (ei_list h)
  · cases hs; exact ei_or2 (ei_tup h)
theorem ev_slQ {K : PySem.W.Frag} {ρ2 ρ3 : List Slot} {tl th : TO} {v : PyData} {ds : List PyData} {lo hi : Option Int} (h : EV ta ρ (.d v) ρ1) (hs : seqOf v = some ds) (h1 : EO1 tl ρ1 lo ρ2) (h2 : EO1 th ρ2 hi ρ3) : EV (tSl (rSlU K) ta tl th) ρ (.d (withSeq v (cutD ds lo hi))) ρ3 := by
  cases v <;> first | (cases hs; done) | skip
  · cases hs; exact (eo_slL h h1 h2).vl
  · cases hs; exact ev_slT h h1 h2
theorem seq_with {v : PyData} {ds es : List PyData} (h : seqOf v = some ds) : seqOf (withSeq v es) = some es := by
  cases v <;> first | (cases h; done) | rfl
theorem row_seq {v : PyData} {n : Int} (h : rowZ v n = true) : ∃ ds, seqOf v = some ds ∧ (ds.length : Int) = n := by
  cases v <;> first | (cases h; done) | exact ⟨_, rfl, of_decide_eq_true h⟩
theorem col_seq {v : PyData} {n : Int} (h : colZ v n = true) : ∃ ds, seqOf v = some ds ∧ (ds.length : Int) ≤ n := by
  cases v <;> first | (cases h; done) | exact ⟨_, rfl, of_decide_eq_true h⟩
def letters : List Nat := ("abcdefghijklmnopqrstuvwxyz" : Str).cps.toList
def nameZ : PyData → Bool
  | .str z => decide ((1 : Int) ≤ z.length) && decide ((z.length : Int) ≤ 8) && z.cps.toList.all fun c => decide (c ∈ letters)
  | _ => false
/-- a text is not too long to be looked at -/
def smS : PyData → Prop
  | .str z => z.length ≤ sizeLine
  | _ => True
def gNm (a y : PyData) : Prop := smS a ∧ y = .bool (nameZ a)
def at0 (v : PyData) : PyData := ((seqOf v).getD []).getD 0 .none
def nodeZ (v : PyData) (far : Int) : Bool := rowZ v 3 && (nameZ (at0 v) && placeZ (withSeq v (((seqOf v).getD []).drop 1)) far)
def gNode (a y : PyData) : Prop := smS (at0 a) ∧ y = .bool (nodeZ a 1000000000)
theorem cut_from {ds : List PyData} (h : (ds.length : Int) = 3) : cutD ds (some 1) none = ds.drop 1 := by
  have e : ds.length = 3 := by omega
  match ds, e with
  | [a, b, c], _ => rfl
def partsD (v : PyData) : List PyData := (seqOf v).getD []
def markZ (v : PyData) (far lab : Int) : Bool := rowZ v 5 && (nameZ (at0 v) && (placeZ (withSeq v (((partsD v).drop 1).take 2)) far && ((partsD v).drop 3).all fun d => betZ d 0 lab))
def gMark (a y : PyData) : Prop := smS (at0 a) ∧ y = .bool (markZ a 1000000000 1000000)
theorem cut_13 {ds : List PyData} (h : (ds.length : Int) = 5) : cutD ds (some 1) (some 3) = (ds.drop 1).take 2 := by
  have e : ds.length = 5 := by omega
  match ds, e with
  | [a, b, c, d, f], _ => rfl
theorem cut_3 {ds : List PyData} (h : (ds.length : Int) = 5) : cutD ds (some 3) none = ds.drop 3 := by
  have e : ds.length = 5 := by omega
  match ds, e with
  | [a, b, c, d, f], _ => rfl
def partD (v : PyData) (i : Nat) : PyData := (partsD v).getD i .none
def memN (ns : List Str) (d : PyData) : Bool := (ns.map PyData.str).any fun z => PyData.eqv z d
def lineZ (v : PyData) (ns : List Str) (far : Int) : Bool := rowZ v 4 && (nameZ (at0 v) && (memN ns (partD v 1) && (memN ns (partD v 2) && (!PyData.eqv (partD v 1) (partD v 2) && (colZ (partD v 3) 12 && (partsD (partD v 3)).all fun c => placeZ c far)))))
def gLine (a b y : PyData) : Prop := ∃ ns : List Str, b = .list (ns.map .str) ∧ SeqAt.shaped (.list (ns.map .str)) = true ∧ smS (at0 a) ∧ SeqAt.shaped (partD a 1) = true ∧ SeqAt.shaped (partD a 2) = true ∧ y = .bool (lineZ a ns 1000000000)
theorem gt_seq {K : PySem.W.Frag} {n : Nat} {t : TGs} {is : List Nat} {v : PyData} {ds : List PyData} {ys : List Val} (hs : seqOf v = some ds) (h : GTs t is (ds.map .d) ys) (hl : ds.length = n) : GT (gOr (gTup K n t) (gLst K n t)) is (.d v) ys := by
  cases v <;> first | (cases hs; done) | skip
  · cases hs; exact gt_or2 (gt_lst h hl)
  · cases hs; exact gt_or1 (gt_tup h hl)
/-! ### more of the law's own drawing -/
def wideZ (row : List Int) (n lim : Int) : Int := (drawZ row n 997 * 994009 + drawZ row (n + 1) 997 * 997 + drawZ row (n + 1 + 1) 997) % lim
def gWide (as : List Arg) (ret : Ret) (outs : Nat → Cont) : Prop := ∃ row n lim, as = [.d (.d (intsD row)), .r (.lst [.int n]), .d (.d (.int lim))] ∧ RowOk row ∧ (0 ≤ n ∧ n < 2 ^ 59) ∧ 0 < lim ∧ ret = .v (.d (.int (wideZ row n lim))) ∧ outs 1 = .lst [.int (n + 1 + 1 + 1)]
theorem lenWide {vs : List V} {H : Hp} {Q : VK} {E : XK} (s : spG gWide vs H Q E) : vs.length = 3 := len_of (fun as ret outs ⟨_, _, _, e, _⟩ => by rw [e]; rfl) s
/-- a def of the row, the spot and a limit that draws k times -/
theorem ev_draws {g : List Arg → Ret → (Nat → Cont) → Prop} {tc : TE} {ρ0 : List Slot} {E : XK} {i : Nat} {l : Bool} {row : List Int} {n n' lim : Int} {y : Val} (h1 : EV ta ρ (.d (intsD row)) ρ0) (h2 : ∃ l c, ρ0[i]? = some (.own l c)) (h3 : EV tc ρ0 (.d (.int lim)) ρ1) (h4 : ρ1[i]? = some (.own l (.lst [.int n])))
    (hg : g [.d (.d (intsD row)), .r (.lst [.int n]), .d (.d (.int lim))] (.v y) (fun _ => .lst [.int n'])) : EV (tCall (spG g) [] E (tCons ta (tCons (tVar i) (tCons tc tNil)))) ρ y (ρ1.set i (.own l (.lst [.int n']))) := by
  obtain ⟨l0, c0, h2⟩ := h2
  have h := ev_call (E := E) (g := g) (x := y) (outs := fun _ => .lst [.int n']) (ss := [.d (.d (intsD row)), .s i, .d (.d (.int lim))]) (ea_cons h1 (ea_ref h2 (ea_cons h3 ea_nil)))
    ⟨fun k j hk => ?_, fun j k m hj hk => ?_⟩ ?_
  · have e : putOuts (fun _ => Cont.lst [.int n']) 0 [Src.d (.d (intsD row)), .s i, .d (.d (.int lim))] ρ1 = ρ1.set i (.own l (.lst [.int n'])) := by
      simp [putOuts, h4]
    rw [e] at h
    exact h
  · obtain ⟨_, rfl⟩ := only1 hk; exact ⟨_, _, h4⟩
  · rw [(only1 hj).1, (only1 hk).1]
  · simpa [argOf, h4] using hg
/-! ### lists made tuples, tuples made lists, at every level -/
mutual
def tupZ : PyData → PyData
  | .list ds => .tuple (tupsZ ds)
  | .tuple ds => .tuple (tupsZ ds)
  | .none => .none
  | .bool b => .bool b
  | .int i => .int i
  | .str s => .str s
  | .dict d => .dict d
def tupsZ : List PyData → List PyData
  | [] => []
  | d :: ds => tupZ d :: tupsZ ds
end
theorem tups_map : ∀ ds : List PyData, tupsZ ds = ds.map tupZ
  | [] => by simp [tupsZ]
  | d :: ds => by simp [tupsZ, tups_map ds]
mutual
def depQ : PyData → Nat
  | .list ds => depsQ ds + 1
  | .tuple ds => depsQ ds + 1
  | _ => 0
def depsQ : List PyData → Nat
  | [] => 0
  | d :: ds => max (depQ d) (depsQ ds)
end
mutual
def smQ : PyData → Bool
  | .list ds => decide (ds.length < 1000000) && smsQ ds
  | .tuple ds => decide (ds.length < 1000000) && smsQ ds
  | _ => true
def smsQ : List PyData → Bool
  | [] => true
  | d :: ds => smQ d && smsQ ds
end
theorem depQ_mem : ∀ {ds : List PyData} {d : PyData}, d ∈ ds → depQ d ≤ depsQ ds
  | a :: ds, d, h => by
    rw [depsQ]
    rcases List.mem_cons.mp h with rfl | h
    · exact Nat.le_max_left _ _
    · exact Nat.le_trans (depQ_mem h) (Nat.le_max_right _ _)
theorem smQ_mem : ∀ {ds : List PyData} {d : PyData}, smsQ ds = true → d ∈ ds → smQ d = true
  | a :: ds, d, k, h => by
    simp [smsQ] at k
    rcases List.mem_cons.mp h with rfl | h
    · exact k.1
    · exact smQ_mem k.2 h
def gTup (n : Nat) (a y : PyData) : Prop := depQ a < n ∧ smQ a = true ∧ y = tupZ a
theorem seq_tup {v : PyData} {ds : List PyData} (h : seqOf v = some ds) : tupZ v = .tuple (ds.map tupZ) ∧ depQ v = depsQ ds + 1 ∧ smQ v = (decide (ds.length < 1000000) && smsQ ds) := by
  cases v <;> first | (cases h; done) | skip
  · cases h; exact ⟨by rw [tupZ, tups_map], by rw [depQ], by rw [smQ]⟩
  · cases h; exact ⟨by rw [tupZ, tups_map], by rw [depQ], by rw [smQ]⟩
theorem seq_of {v : PyData} (h : isSeqD v = true) : ∃ ds, seqOf v = some ds := by
  cases v <;> first | (cases h; done) | exact ⟨_, rfl⟩
theorem tup_no {v : PyData} (h : isSeqD v = false) : tupZ v = v := by
  cases v <;> first | (cases h; done) | rw [tupZ]
theorem ev_tupOf {K : PySem.W.Frag} {ds : List PyData} (h : EO ta ρ (.lst ds) ρ1) : EV (tCB (rTupOf K) (tCons ta tNil)) ρ (.d (.tuple ds)) ρ1 := ev_cw h.w cw_tuple
def gNum (a b y : PyData) : Prop := ∃ n, b = .int n ∧ y = .bool (betZ a (-n) n)
/-- the law's own look at a name -/
def gNm2 (a y : PyData) : Prop := smS a ∧ y = .bool (nameZ a)
theorem none_out {cs : List Nat} {p : Nat → Bool} : decide (((cs.filter fun c => !p c).length : Int) = 0) = cs.all p := by
  induction cs with
  | nil => rfl
  | cons c cs ih =>
    rw [List.all_cons, List.filter_cons]
    cases h : p c with
    | true => simpa using ih
    | false => simp; omega
mutual
def lisZ : PyData → PyData
  | .tuple ds => .list (lissZ ds)
  | .list ds => .list ds
  | .none => .none
  | .bool b => .bool b
  | .int i => .int i
  | .str s => .str s
  | .dict d => .dict d
def lissZ : List PyData → List PyData
  | [] => []
  | d :: ds => lisZ d :: lissZ ds
end
theorem liss_map : ∀ ds : List PyData, lissZ ds = ds.map lisZ
  | [] => by simp [lissZ]
  | d :: ds => by simp [lissZ, liss_map ds]
def gLis (n : Nat) (a y : PyData) : Prop := depD a < n ∧ smD a = true ∧ y = lisZ a
theorem depD_mem : ∀ {ds : List PyData} {d : PyData}, d ∈ ds → depD d ≤ depsD ds
  | a :: ds, d, h => by
    rw [depsD]
    rcases List.mem_cons.mp h with rfl | h
    · exact Nat.le_max_left _ _
    · exact Nat.le_trans (depD_mem h) (Nat.le_max_right _ _)
theorem smD_mem : ∀ {ds : List PyData} {d : PyData}, smsD ds = true → d ∈ ds → smD d = true
  | a :: ds, d, k, h => by
    simp [smsD] at k
    rcases List.mem_cons.mp h with rfl | h
    · exact k.1
    · exact smD_mem k.2 h
end Pw

set_option Elab.async false
set_option linter.all false
set_option maxRecDepth 100000
/-! Rules that the hand layer lacks. -/
namespace PwB
open PySem PySem.Spec PyProof.Rows L2
/-! ### the lesser and the greater of two texts -/
def txt (t : Str × Tok) : Value := .str t.1 t.2
section
variable {prog : Program} {w : World} {A : Around} {E : Value → Shared → Prop} {s : Shared}
theorem pair_item {p q : Str × Tok} {i : Nat} {v : Value} (h : (#[txt p, txt q] : Array Value)[i]? = some v) : v = txt (if i = 0 then p else q) := by
  match i, h with
  | 0, h => simpa using h.symm
  | 1, h => simpa using h.symm
  | i + 2, h => simp at h
theorem two_texts_gt {p q : Str × Tok} : CmpOf prog w A .Gt (fun i v => (#[txt p, txt q] : Array Value)[i]? = some v) (fun i j => decide ((if j = 0 then p else q).1.cps.toList < (if i = 0 then p else q).1.cps.toList)) := by
  intro i j vi vj s Q E hi hj hQ
  have e1 := pair_item hi
  have e2 := pair_item hj
  subst e1; subst e2
  exact (show wpAny (model prog w) A (compareOp .Gt (.str _ _) (.str _ _)) Q E s from P.gt_str hQ)
theorem two_texts_lt {p q : Str × Tok} : CmpOf prog w A .Lt (fun i v => (#[txt p, txt q] : Array Value)[i]? = some v) (fun i j => decide ((if i = 0 then p else q).1.cps.toList < (if j = 0 then p else q).1.cps.toList)) := by
  intro i j vi vj s Q E hi hj hQ
  have e1 := pair_item hi
  have e2 := pair_item hj
  subst e1; subst e2
  exact (show wpAny (model prog w) A (compareOp .Lt (.str _ _) (.str _ _)) Q E s from P.lt_str hQ)
theorem max_texts {a b : Str} {t u : Tok} {Q : Value → Shared → Prop} (hh : A.handled = none)
    (h : ∀ h' tk, (∀ c o, s.heap.get? c = some o → h'.get? c = some o) → Q (if a.cps.toList < b.cps.toList then .str b u else .str a t) { s with heap := h', toks := tk }) : wpAny (model prog w) A (call (.builtin "max") [.str a t, .str b u]) Q E s := by
  have isT : (s.heap.push { cls := .type "tuple", data := .seq #[.str a t, .str b u] }).IsTuple s.heap.objs.size #[txt (a, t), txt (b, u)] := ⟨_, Heap.get?_push_size _ rfl, rfl, 0, rfl⟩
  have size1 : (s.heap.push { cls := .type "tuple", data := .seq #[.str a t, .str b u] }).objs.size = s.heap.objs.size + 1 := Heap.size_push ..
  refine call_max_two (wpAny_pyIter_tuple isT ?_)
  refine ⟨_, [_, s.heap.objs.size], [_], _, _, _, _, rfl, Walks.tuple (A := A.in1) hh _ s.heap.objs.size (by rw [size1]; exact Nat.ne_of_lt (Nat.lt_succ_self _)) #[txt (a, t), txt (b, u)], ⟨⟨_, Heap.get?_push_size _ rfl, rfl, rfl⟩, isT.push _⟩, fun c hc => ?_, (show 0 < 2 by decide), two_texts_gt, fun v h' tk hP hk => ?_⟩
  · show c < ((s.heap.push _).push _).objs.size
    rw [Heap.size_push, size1]
    simp only [List.mem_cons, List.not_mem_nil, or_false] at hc
    rcases hc with hc | hc
    · rw [hc, size1]; exact Nat.lt_succ_self _
    · rw [hc]; exact Nat.lt_succ_of_lt (Nat.lt_succ_self _)
  · have kept : ∀ c o, s.heap.get? c = some o → h'.get? c = some o := fun c o ob => by
      refine hk c o (fun hm => ?_) (Heap.get?_push_of_some _ (Heap.get?_push_of_some _ ob))
      have lt := Heap.lt_size ob
      simp only [List.mem_cons, List.not_mem_nil, or_false] at hm
      rw [hm, size1] at lt
      exact Nat.lt_irrefl _ (Nat.lt_of_succ_lt lt)
    have hv := pair_item hP
    have e : v = if a.cps.toList < b.cps.toList then .str b u else .str a t := by
      rw [hv, show (#[txt (a, t), txt (b, u)] : Array Value).size - 1 = 1 from rfl]
      by_cases z : a.cps.toList < b.cps.toList
      · simp [argBest, txt, z]
      · simp [argBest, txt, z]
    rw [e]
    exact h h' tk kept
theorem min_texts {a b : Str} {t u : Tok} {Q : Value → Shared → Prop} (hh : A.handled = none)
    (h : ∀ h' tk, (∀ c o, s.heap.get? c = some o → h'.get? c = some o) → Q (if b.cps.toList < a.cps.toList then .str b u else .str a t) { s with heap := h', toks := tk }) : wpAny (model prog w) A (call (.builtin "min") [.str a t, .str b u]) Q E s := by
  have isT : (s.heap.push { cls := .type "tuple", data := .seq #[.str a t, .str b u] }).IsTuple s.heap.objs.size #[txt (a, t), txt (b, u)] := ⟨_, Heap.get?_push_size _ rfl, rfl, 0, rfl⟩
  have size1 : (s.heap.push { cls := .type "tuple", data := .seq #[.str a t, .str b u] }).objs.size = s.heap.objs.size + 1 := Heap.size_push ..
  refine call_min_two (wpAny_pyIter_tuple isT ?_)
  refine ⟨_, [_, s.heap.objs.size], [_], _, _, _, _, rfl, Walks.tuple (A := A.in1) hh _ s.heap.objs.size (by rw [size1]; exact Nat.ne_of_lt (Nat.lt_succ_self _)) #[txt (a, t), txt (b, u)], ⟨⟨_, Heap.get?_push_size _ rfl, rfl, rfl⟩, isT.push _⟩, fun c hc => ?_, (show 0 < 2 by decide), two_texts_lt, fun v h' tk hP hk => ?_⟩
  · show c < ((s.heap.push _).push _).objs.size
    rw [Heap.size_push, size1]
    simp only [List.mem_cons, List.not_mem_nil, or_false] at hc
    rcases hc with hc | hc
    · rw [hc, size1]; exact Nat.lt_succ_self _
    · rw [hc]; exact Nat.lt_succ_of_lt (Nat.lt_succ_self _)
  · have kept : ∀ c o, s.heap.get? c = some o → h'.get? c = some o := fun c o ob => by
      refine hk c o (fun hm => ?_) (Heap.get?_push_of_some _ (Heap.get?_push_of_some _ ob))
      have lt := Heap.lt_size ob
      simp only [List.mem_cons, List.not_mem_nil, or_false] at hm
      rw [hm, size1] at lt
      exact Nat.lt_irrefl _ (Nat.lt_of_succ_lt lt)
    have hv := pair_item hP
    have e : v = if b.cps.toList < a.cps.toList then .str b u else .str a t := by
      rw [hv, show (#[txt (a, t), txt (b, u)] : Array Value).size - 1 = 1 from rfl]
      by_cases z : b.cps.toList < a.cps.toList
      · simp [argBest, txt, z]
      · simp [argBest, txt, z]
    rw [e]
    exact h h' tk kept
end
section
variable {X : Cx}
abbrev rMaxS : List V → Hp → VK → Prop := fun xs H Q => ∃ a b, xs = [.str a, .str b] ∧ Q (.str (if a.cps.toList < b.cps.toList then b else a)) H
abbrev rMinS : List V → Hp → VK → Prop := fun xs H Q => ∃ a b, xs = [.str a, .str b] ∧ Q (.str (if b.cps.toList < a.cps.toList then b else a)) H
theorem call_maxS (hc : X.calm = true) : CallR X (.builtin "max") rMaxS := by
  intro pins s σ H xs us Q I r h
  obtain ⟨a, b, rfl, q⟩ := h
  obtain ⟨_, _, rfl, ⟨t, rfl⟩, ⟨u, rfl⟩⟩ := vals2 r
  refine max_texts (I.ok.hd hc) fun h' tk k => ⟨_, H, I.kept k, ?_, q⟩
  split <;> exact ⟨_, rfl⟩
theorem call_minS (hc : X.calm = true) : CallR X (.builtin "min") rMinS := by
  intro pins s σ H xs us Q I r h
  obtain ⟨a, b, rfl, q⟩ := h
  obtain ⟨_, _, rfl, ⟨t, rfl⟩, ⟨u, rfl⟩⟩ := vals2 r
  refine min_texts (I.ok.hd hc) fun h' tk k => ⟨_, H, I.kept k, ?_, q⟩
  split <;> exact ⟨_, rfl⟩
end
end PwB

set_option Elab.async false
set_option linter.all false
set_option maxRecDepth 100000
/-! enumerate over a tuple -/
namespace PySem
namespace PwE
open Sem (wp)
open AutoSeq1 (wpAny_loadPart')
set_option maxHeartbeats 1000000 in
theorem made_over_tuple (l : Addr) (items : Array Value) (n : Nat) (dct : Option Addr) (sl : Array (Option Value)) :
    Meets (Builtin.«enumerate.__new__» ⟨[.type "enumerate", .ref l], []⟩) (fun _ R s => s.heap.get? l = some { cls := .type "tuple", dict := dct, data := .seq items n, slots := sl } ∧
      R (.ok (.ret (.ref (s.heap.push { cls := .type "tuple_iterator", data := .fields #[.ref l, .int 0 0] }).objs.size)))
        { s with heap := (s.heap.push { cls := .type "tuple_iterator", data := .fields #[.ref l, .int 0 0] }).push { cls := .type "enumerate", data := .fields #[.none, .bool false, .ref s.heap.objs.size, rawInt 0, .none, .none] } }) :=
  .of_wp fun prog w A R s h => by
    cases s with
    | mk hp g d tk os =>
    obtain ⟨hl, h⟩ := h
    have isSub := sub_enumerate
    have isT : Heap.IsTuple (Shared.heap ⟨hp, g, d, tk, os⟩) l items := ⟨_, hl, rfl, n, rfl⟩
    wp_walk using wpAny_loadPart' hl
    refine wpAny_stack_any fun st => wpAny_pure ?_
    split
    case h_1 =>
      rename_i c _ _ _ _ _
      cases (c == Value.type "enumerate") <;> (wp_walk using wpAny_loadPart' hl, wpAny_pyIter_tuple isT; exact ⟨_, rfl, h⟩)
    case h_2 =>
      wp_walk using wpAny_loadPart' hl, wpAny_pyIter_tuple isT
      exact ⟨_, rfl, h⟩
section
variable {prog : Program} {w : World} {A : Around} {E : Value → Shared → Prop} {s : Shared}
theorem call_over_tuple {l : Addr} {items : Array Value} {o : Obj} {n : Nat} {Q : Value → Shared → Prop} (ho : s.heap.get? l = some o) (hc : o.cls = .type "tuple") (hd : o.data = .seq items n)
    (h : ∀ h', IsEnum h' (s.heap.objs.size + 1) s.heap.objs.size 0 .none → h'.IsTupleIter s.heap.objs.size l 0 → h'.objs.size = s.heap.objs.size + 2 → (∀ b o, s.heap.get? b = some o → h'.get? b = some o) → Q (.ref (s.heap.objs.size + 1)) { s with heap := h' }) :
    wpAny (model prog w) A (call (.type "enumerate") [.ref l]) Q E s := by
  cases o with
  | mk c dct dt sl =>
  dsimp only at hc hd
  subst hc hd
  refine callType_new F.called_enumerate (by decide) (F.typeCall_enumerate_1 _) (F.newCall_enumerate_1 _) (fun obj => F.args_object_init_2 obj _) F.entry_enumerate_new (made_over_tuple l items n dct sl) ⟨ho, ?_⟩
  have size1 : (s.heap.push { cls := .type "tuple_iterator", data := .fields #[.ref l, .int 0 0] }).objs.size = s.heap.objs.size + 1 := Heap.size_push ..
  show _ ∧ _
  rw [size1]
  have isE : IsEnum ((s.heap.push { cls := .type "tuple_iterator", data := .fields #[.ref l, .int 0 0] }).push { cls := .type "enumerate", data := .fields #[.none, .bool false, .ref s.heap.objs.size, rawInt 0, .none, .none] }) (s.heap.objs.size + 1) s.heap.objs.size 0 .none := by
    have z := Heap.get?_push_size (s.heap.push { cls := .type "tuple_iterator", data := .fields #[.ref l, .int 0 0] }) (o := { cls := .type "enumerate", data := .fields #[.none, .bool false, .ref s.heap.objs.size, rawInt 0, .none, .none] }) rfl
    rw [size1] at z
    exact z
  refine ⟨⟨_, isE, rfl⟩, h _ isE ⟨_, Heap.get?_push_of_some _ (Heap.get?_push_size _ rfl), rfl, rfl⟩ (by rw [Heap.size_push, size1]) fun b o ob => ?_⟩
  exact Heap.get?_push_of_some _ (Heap.get?_push_of_some _ ob)
theorem next_end {e it t : Addr} {i : Nat} {items : Array Value} {old : Value} {Q : Option Value → Shared → Prop} (hh : A.handled = none) (he : IsEnum s.heap e it i old) (hit : s.heap.IsTupleIter it t i) (ht : s.heap.IsTuple t items) (hx : items[i]? = none)
    (hQ : ∀ h', Heap.ExtBut it s.heap h' → Q none { s with heap := h' }) : wpAny (model prog w) A (pyNext (.ref e)) Q E s := by
  have isE : s.TypeIs (.ref e) "enumerate" := ⟨_, he, rfl⟩
  unfold pyNext
  refine wpAny_bind (wpAny_attempt ?_)
  refine wpAny_callSpecial?_slot (name := Str.ofString "__next__") isE F.slot_enumerate_next ?_
  refine wpAny_call_entry F.slot_enumerate_next isE F.entry_enumerate_next ?_ (F.args_enumerate_next_1 _)
  show wpAny _ _ (field (.ref e) 2 >>= _) _ _ _
  refine wpAny_bind (wpAny_field he rfl (x := .ref it) rfl ?_)
  refine wpAny_bind (wpAny_nextOf_tuple_end hh hit ht hx fun h' x keep stop => ?_)
  obtain ⟨o, ho, hc⟩ := stop
  refine wpAny_bind (wpAny_isInstance (T := "StopIteration") (b := true) ⟨o, ho, hc⟩ isSubtype_stop ?_)
  exact wpAny_pure (hQ _ keep)
end
end PwE
end PySem
namespace PwB
open PySem PySem.Spec PyProof.Rows L2
/-- a tuple at a, each item in a new pair with its number -/
def IteT (K : PySem.W.Frag) (a : Addr) : It :=
  ⟨fun i H => ∃ (xs : List V) (x : V), SqT K H a xs ∧ xs[i]? = some x, fun i H v H' => ∃ T x, v = .ref T ∧ H T = none ∧ H' = upd H T (.tup [.int (i : Nat), x]) ∧ ∀ xs, SqT K H a xs → xs[i]? = some x, fun i H => ∃ xs : List V, SqT K H a xs ∧ xs.length ≤ i⟩
theorem turn_enumT {P : Program} {w : World} {K : PySem.W.Frag} {elts : List Expr} {kk : Nat} {tpos : Pos} (a e it : Addr) (items : Array Value) (ne : e ≠ it) (na : a ≠ it) (nae : a ≠ e) :
    Turn P w K (.Tuple elts kk tpos) (IteT K a) [e, it] e (fun i h => (∃ old, IsEnum h e it ((i : Nat) : Int) old) ∧ h.IsTupleIter it a i) where
  mem := by simp
  obj := fun i h st b hb => by
    obtain ⟨⟨old, he⟩, o, ho, hc, hd⟩ := st
    simp only [List.mem_cons, List.not_mem_nil, or_false] at hb
    rcases hb with hb | hb
    · subst hb
      exact ⟨_, he, fun v q => nomatch q⟩
    · subst hb
      exact ⟨o, ho, fun v q => by rw [hd] at q; cases q⟩
  keep := fun i h h' ⟨⟨old, he⟩, hi⟩ k => ⟨⟨old, k e (by simp) _ he⟩, hi.at fun o q => k it (by simp) o q⟩
  item := by
    intro X hP hw hK hc i pins s σ H E I hf ⟨⟨old, he⟩, hit⟩ hg
    subst hP hw hK
    obtain ⟨xs, x, hq, hx⟩ := hg
    obtain ⟨its, rv, p, hz⟩ := I.tuple hq
    obtain ⟨u, hu, ru⟩ := rv.get hx
    have lte : e < s.heap.objs.size := Heap.lt_size he
    have lti : it < s.heap.objs.size := by
      obtain ⟨_, q, _⟩ := hit
      exact Heap.lt_size q
    have hu' : its.toArray[i]? = some u := by simpa using hu
    have hlt : i < its.toArray.size := (Array.getElem?_eq_some_iff.mp hu').1
    refine wpAny_pyNext_enum_itemD (Draws.tuple (A := X.A.in1) (I.ok.hd hc) it a na its.toArray) he ⟨hit, p⟩ hlt ne (by simp [ne, nae.symm]) fun y h' tk py eo st' hT hsz hk => ?_
    have ey : y = u := Option.some.inj (py.symm.trans hu')
    subst ey
    refine ⟨_, rfl, wpAny_letOwnedTupleGo_enum (s := { s with heap := h', toks := tk + 1 }) eo fun h2 he2 sb => ?_⟩
    have hT2 : h2.get? s.heap.objs.size = some { cls := .type "tuple", data := .seq #[.int i tk, y] } := (sb.2 _ (Nat.ne_of_gt lte)).trans hT
    have new : ObjOk X.prog X.w (upd H s.heap.objs.size (.tup [.int (i : Nat), x])) h2 s.heap.objs.size (.tup [.int (i : Nat), x]) := ⟨show 2 ≤ sizeLine by decide, [.int i tk, y], .cons ⟨_, rfl⟩ (.cons ru .nil), ⟨_, hT2, rfl, _, rfl⟩⟩
    have I1 : Inv X pins σ (upd H s.heap.objs.size (.tup [.int (i : Nat), x])) { s with heap := h2, toks := tk + 1 } :=
      I.turnedNew (ch := [e, it]) (fun b ob hb q => (sb.2 b (fun z => hb (by simp [z]))).trans (hk b ob (fun z => hb (by simp [z])) (fun z => hb (by simp [z])) q)) hf (Nat.le_refl _) new
    refine ⟨.ref s.heap.objs.size, _, I1, rfl, ⟨_, x, rfl, I.hok.fresh (Nat.le_refl _), rfl, fun ys hy => by rw [I.tuple_inj hy hq]; exact hx⟩, ⟨⟨y, ?_⟩, st'.1.at fun o q => (sb.2 it (Ne.symm ne)).trans q⟩, fun b hb => ?_⟩
    · have e1 : ((i + 1 : Nat) : Int) = (i : Int) + 1 := by omega
      rw [e1]
      exact he2
    · have hb' : b < s.heap.objs.size := by
        simp only [List.mem_cons, List.not_mem_nil, or_false] at hb
        rcases hb with hb | hb
        · rw [hb]; exact lte
        · rw [hb]; exact lti
      rw [upd_ne (Nat.ne_of_lt hb')]
      exact (hf b hb).1
  done := by
    intro X hP hw hK hc i pins s σ H E I hf ⟨⟨old, he⟩, hit⟩ hg
    subst hP hw hK
    obtain ⟨xs, hq, hx⟩ := hg
    obtain ⟨its, rv, p, hz⟩ := I.tuple hq
    obtain ⟨f0, f1, f2, f3, f4, f5⟩ := hf it (by simp)
    have hl := rv.length
    exact PySem.PwE.next_end (I.ok.hd hc) he hit p (by simp; omega) fun h' eb => ⟨rfl, I.turned (t' := s.toks) (fun b o hb q => eb b o hb q) f0 f1 f3 f4 f5⟩
  self := fun A i s Q E st h => let ⟨⟨_, he⟩, _⟩ := st; wpAny_pyIter_enum he h
def iEnumT (K : PySem.W.Frag) (ta : TA) : TI := fun σ H R => ta σ H fun vs H1 => ∃ a xs, vs = [.ref a] ∧ SqT K H1 a xs ∧ R (IteT K a) H1
theorem pi_enumT {X : Cx} {e : Expr} {ta : TA} {p pos tpos : Pos} {elts : List Expr} {kk : Nat} (K : PySem.W.Frag) (hg : Gl X "enumerate") (hm : X.mg "enumerate" = none) (ha : PA X [e] ta) (hk : X.K = K := by rfl) (hs : starEach [e] X.env = [(false, eval e X.env)] := by rfl) :
    PI X (.Tuple elts kk tpos) (.Call (.Name "enumerate" p) [e] [] pos) (iEnumT K ta) := ⟨fun pins s σ H R I h => by
  subst hk
  refine Call_ (ld_blt I hg hm boot_enumerate (PyProof.Rows.callWith_type1 (thn (ha.run pos pins s σ H _ I h) fun us s1 ⟨vs, H1, I1, r1, a, xs, ex, hq, q⟩ => ?_) hs rfl))
  subst ex
  cases r1 with
  | cons r rr =>
    cases rr
    cases r
    obtain ⟨its, rv, ⟨o, ho, hc, n, hd⟩, hz⟩ := I1.tuple hq
    have lta : a < s1.heap.objs.size := Heap.lt_size ho
    refine PySem.PwE.call_over_tuple ho hc hd fun h' he hit hsz kept => wpAny_pyIter_enum he ?_
    have I2 : Inv X pins σ H1 { s1 with heap := h' } := I1.kept (t' := s1.toks) kept
    refine ⟨s1.heap.objs.size + 1, [s1.heap.objs.size + 1, s1.heap.objs.size], _, _, H1, rfl, I2, turn_enumT a (s1.heap.objs.size + 1) s1.heap.objs.size #[] (Nat.succ_ne_self _) (Nat.ne_of_lt lta) (Nat.ne_of_lt (Nat.lt_succ_of_lt lta)), ⟨⟨.none, he⟩, hit⟩, fun b hb => ?_, q⟩
    have hle : s1.heap.objs.size ≤ b := by
      simp only [List.mem_cons, List.not_mem_nil, or_false] at hb
      rcases hb with hb | hb
      · rw [hb]; exact Nat.le_succ _
      · rw [hb]; exact Nat.le_refl _
    exact I1.fpOk hle (I1.hok.fresh hle)⟩
end PwB

set_option Elab.async false
set_option linter.all false
set_option maxRecDepth 100000
namespace Pw
open PySem L2
/-! ### an expression whose new dict is locked for a walk -/
def tLkF (td : TE) : TE := fun σ H Q => td σ H fun x H1 => ∃ d u, x = .ref d ∧ H1 d = some u ∧ Mut (some u) ∧ ∀ od, Q x (upd H1 d (.frz od u))
theorem pe_lockF {X : Cx} {e : Expr} {td : TE} (h : PE X e td) : PE X e (tLkF td) := ⟨fun pins s σ H Q I hw => thn (h.run pins s σ H _ I hw) fun v s1 ⟨x, H1, I1, r, d, u, ex, hd, mu, q⟩ => by
  obtain ⟨od, I2⟩ := I1.lock hd mu
  exact ⟨x, _, I2, r, q od⟩⟩
/-! ### things that stand apart from the slots -/
abbrev Hd := Option (Addr × HO)
def HC : Hd → Hp → Hp → Prop
  | none => C0
  | some (a, o) => fun _ H => H a = some o
def Apart (e : En) (ρ : List Slot) (σ : L2.St) (H : Hp) (a : Addr) (o : HO) : Prop := H a = some o ∧ e.H0 a = none ∧ ∀ (j : Nat) l c, ρ[j]? = some (.own l c) → σ[j]? ≠ some (some (.ref a))
def HeldAt (e : En) (ρ : List Slot) (σ : L2.St) (H : Hp) : Hd → Prop
  | none => True
  | some (a, o) => Apart e ρ σ H a o
def EIX (wi : TI) (ρ : List Slot) (xs : List Val) (ρ' : List Slot) : Prop := ∀ e F σ H (R : It → Hp → Prop), Sta e F ρ σ H → (∀ F' H' J hd, FSub F F' → Sta e F' ρ' σ H' → SI J F' (HC hd) xs → HeldAt e ρ' σ H' hd → R J H') → wi σ H R
variable {ρ ρ1 ρ2 : List Slot} {ta tb : TE} {P : Out → Prop}
theorem EI.x {wi : TI} {xs : List Val} (h : EI wi ρ xs ρ1) : EIX wi ρ xs ρ1 := fun e F σ H R S k => h e F σ H R S fun F' H' J f S' si => k F' H' J none f S' si trivial
def itemD (kv : Key × PyData) : PyData := .tuple [keyD kv.1, kv.2]
theorem kV_rp {F : Hp} : ∀ k : Key, Rp F (kV k) (keyD k)
  | .inl i => .int i
  | .inr s => .str s
theorem KRp.get? {F : Hp} {κ : Type} : ∀ {ws : List (κ × V)} {kvs : List (κ × PyData)} {i : Nat} {k : κ} {v : V}, KRp F ws kvs → ws[i]? = some (k, v) → ∃ d, kvs[i]? = some (k, d) ∧ Rp F v d
  | _, _, i, _, _, .nil, e => by simp at e
  | _, _, 0, _, _, .cons r _, e => by
    simp at e
    obtain ⟨rfl, rfl⟩ := e
    exact ⟨_, rfl, r⟩
  | _, _, i + 1, _, _, .cons _ t, e => by
    obtain ⟨d, h1, h2⟩ := t.get? (i := i) (by simpa using e)
    exact ⟨d, by simpa using h1, h2⟩
/-- d.items() of a dict just made -/
theorem ei_itemsF {kvs : List (Key × PyData)} (h : EO ta ρ (.dk kvs) ρ1) : EIX (iItems (tLkF ta)) ρ (kvs.map fun kv => .d (itemD kv)) ρ1 := fun e F σ H R S k => h e F σ H _ S fun F' H' a o f S' e1 e2 ⟨ws, eo, r⟩ e3 hs => by
  subst eo
  refine ⟨a, .dK ws, rfl, e2, trivial, fun od => ⟨a, od, ws, rfl, upd_same, ?_⟩⟩
  have S2 : Sta e F' ρ1 σ (upd H' a (.frz od (.dK ws))) := {
    sub := fun b u hb => by rw [upd_ne (fun z => by subst z; rw [e1] at hb; cases hb)]; exact S'.sub b u hb
    f0 := S'.f0
    new := S'.new
    keep := fun b u hb hp => by rw [upd_ne (fun z => by subst z; rw [e3] at hb; cases hb)]; exact S'.keep b u hb hp
    there := fun b hb => by
      by_cases z : b = a
      · subst z; rw [upd_same]; simp
      · rw [upd_ne z]; exact S'.there b hb
    len := S'.len
    val := S'.val
    own := fun j l c hj => by
      obtain ⟨b, u, g1, g2, g3, g4⟩ := S'.own j l c hj
      exact ⟨b, u, g1, g2, by rw [upd_ne (fun z => by subst z; exact hs j l c hj g1)]; exact g3, g4⟩
    sep := S'.sep }
  refine k F' _ _ (some (a, .frz od (.dK ws))) f S2 ?_ ⟨upd_same, e3, hs⟩
  exact {
    go := fun G L i g T c hi => ⟨c, by rw [r.length]; simpa using hi⟩
    stop := fun G L i g T c hi => ⟨c, by rw [r.length]; simpa using hi⟩
    yld := fun G L i v L' g T c y hi => by
      obtain ⟨q, k0, v0, hk, rfl, hq, rfl⟩ := y
      obtain ⟨d, hd, rd⟩ := (r.mono g).get? hk
      have A := Al.one (o := .tup [kV k0, v0]) T hq
      refine ⟨_, .d (itemD (k0, d)), A, by rw [List.getElem?_map, hd]; rfl, ?_⟩
      exact Rp.tup upd_same (.cons (kV_rp k0) (.cons (Rp.mono A.f rd) .nil)) }
/-! ### a comprehension's state: the list made so far and what else stands apart -/
structure Hold (e : En) (ρ : List Slot) (σ : L2.St) (D : Addr) (hd : Hd) (F H : Hp) (A : List PyData) : Prop where
  S : Sta e F ρ σ H
  fD : F D = none
  acc : ∃ vs, Apart e ρ σ H D (.lst vs) ∧ RpAll F vs A
  hh : HeldAt e ρ σ H hd
  ne : ∀ a o, hd = some (a, o) → a ≠ D
/-- the slots of a block own nothing but what the def's own slots own -/
def Within (vs : List Nat) (ρ : List Slot) (σ : L2.St) (ρw : List Slot) (σw : L2.St) : Prop := (∀ (j : Nat) l c, ρw[j]? = some (.own l c) → ρ[j]? = some (.own l c) ∧ σw[j]? = σ[j]?) ∧ (∀ j, j ∉ vs → ρw[j]? = ρ[j]? ∧ σw[j]? = σ[j]?)
theorem within_wipe {ρ : List Slot} {σ : L2.St} (vs : List Nat) : Within vs ρ σ (wipeR ρ vs) (L2.wipe σ vs) := ⟨fun j l c h => by
  by_cases z : j ∈ vs
  · exfalso
    have : ∀ ws : List Nat, j ∈ ws → ∀ l c, (wipeR ρ ws)[j]? ≠ some (.own l c) := by
      intro ws
      induction ws with
      | nil => intro h; cases h
      | cons w ws ih =>
        intro hm l c hj
        unfold wipeR at hj
        rcases get_set hj with ⟨_, e, _⟩ | ⟨n, e⟩
        · cases e
        · rcases List.mem_cons.mp hm with q | q
          · exact n q.symm
          · exact ih q l c e
    exact this vs z l c h
  · rw [wipeR_get z] at h
    exact ⟨h, wipe_get z⟩, fun j hj => ⟨wipeR_get hj, wipe_get hj⟩⟩
theorem Within.sets {vs : List Nat} {ρ : List Slot} {σ : L2.St} {F : Hp} : ∀ {is : List Nat} {ws : List V} {ys : List Val} {ρw : List Slot} {σw : L2.St}, Within vs ρ σ ρw σw → RpVs F ws ys → (∀ i ∈ is, i ∈ vs) → Within vs ρ σ (setsR ρw is ys) (Pw.sets σw is ws)
  | [], _, _, _, _, w, _, _ => by unfold setsR Pw.sets; exact w
  | i :: is, [], [], _, _, w, _, _ => by unfold setsR Pw.sets; exact w
  | i :: is, v :: ws, y :: ys, ρw, σw, w, .cons r t, h => by
    unfold setsR Pw.sets
    refine Within.sets (is := is) (ρw := ρw.set i (.val y)) (σw := List.set σw i (some v)) ⟨fun j l c hj => ?_, fun j hj => ?_⟩ t fun k hk => h k (by simp [hk])
    · rcases get_set hj with ⟨_, e, _⟩ | ⟨n, e⟩
      · cases e
      · rw [List.getElem?_set_ne n]; exact w.1 j l c e
    · have n : i ≠ j := fun z => hj (z ▸ h i (by simp))
      rw [List.getElem?_set_ne n, List.getElem?_set_ne n]; exact w.2 j hj
theorem Within.wipe {vs ws : List Nat} {ρ ρw : List Slot} {σ σw : L2.St} (w : Within vs ρ σ ρw σw) (h : ∀ i ∈ ws, i ∈ vs) : Within vs ρ σ (wipeR ρw ws) (L2.wipe σw ws) := ⟨fun j l c hj => by
  obtain ⟨h1, h2⟩ := (within_wipe (ρ := ρw) (σ := σw) ws).1 j l c hj
  obtain ⟨g1, g2⟩ := w.1 j l c h1
  exact ⟨g1, h2.trans g2⟩, fun j hj => by
  rw [wipeR_get (fun z => hj (h j z)), wipe_get (fun z => hj (h j z))]; exact w.2 j hj⟩
theorem Apart.keep {e : En} {F H F' H' : Hp} {ρ ρw ρ' : List Slot} {σ σw σ' : L2.St} {a : Addr} {o : HO} {vs : List Nat} (W : Sta e F ρw σw H) (w : Within vs ρ σ ρw σw) (h : Apart e ρ σ H a o) (T : Sta W.sub_en F' ρ' σ' H') : Apart e ρ σ H' a o := by
  refine ⟨(W.apart T h.1 h.2.1 fun j l c hj => ?_).1, h.2.1, h.2.2⟩
  obtain ⟨h1, h2⟩ := w.1 j l c hj
  rw [h2]
  exact h.2.2 j l c h1
theorem Hold.block {e : En} {ρ ρw ρ' : List Slot} {σ σw σ' : L2.St} {D : Addr} {hd : Hd} {F H F' H' : Hp} {A : List PyData} {vs : List Nat} (O : Hold e ρ σ D hd F H A) (W : Sta e F ρw σw H) (w : Within vs ρ σ ρw σw) (T : Sta W.sub_en F' ρ' σ' H') (f : FSub F F')
    (hσ : ∀ j, j ∉ vs → σ'[j]? = σ[j]?) (hρ : ∀ j, j ∉ vs → ρ[j]? = ρ'[j]?) (hv : ∀ j ∈ vs, ∀ l c, ρ[j]? ≠ some (.own l c)) : Hold e ρ σ D hd F' H' A := by
  obtain ⟨ws, ap, r⟩ := O.acc
  have T2 := W.leave T
  have wD : ∀ (j : Nat) l c, ρw[j]? = some (.own l c) → σw[j]? ≠ some (some (.ref D)) := fun j l c hj => by
    obtain ⟨h1, h2⟩ := w.1 j l c hj
    rw [h2]
    exact ap.2.2 j l c h1
  refine ⟨O.S.unwipe (vs := vs) T2 f hσ hv rfl (fun _ _ => rfl) hρ, (W.apart T ap.1 ap.2.1 wD).2 O.fD, ⟨ws, ap.keep W w T, r.mono f⟩, ?_, O.ne⟩
  cases hd with
  | none => trivial
  | some p => exact Apart.keep (a := p.1) (o := p.2) W w O.hh T
theorem Hold.add {e : En} {ρ : List Slot} {σ : L2.St} {D : Addr} {hd : Hd} {F H : Hp} {A : List PyData} {v : V} {d : PyData} (O : Hold e ρ σ D hd F H A) (r : Rp F v d) : ∃ vs, H D = some (.lst vs) ∧ vs.length = A.length ∧ Hold e ρ σ D hd F (upd H D (.lst (vs ++ [v]))) (A ++ [d]) := by
  obtain ⟨ws, ap, ra⟩ := O.acc
  refine ⟨ws, ap.1, ra.length, ?_, O.fD, ⟨ws ++ [v], ⟨upd_same, ap.2.1, ap.2.2⟩, ra.append (.cons r .nil)⟩, ?_, O.ne⟩
  · exact { sub := fun b u h => by rw [upd_ne (ne_of_none h O.fD)]; exact O.S.sub b u h
            f0 := O.S.f0, new := O.S.new
            keep := fun a o h hpp => by
              have z : a ≠ D := fun z => by subst z; rw [ap.2.1] at h; cases h
              rw [upd_ne z]; exact O.S.keep a o h hpp
            there := fun a h => by
              by_cases z : a = D
              · subst z; rw [upd_same]; simp
              · rw [upd_ne z]; exact O.S.there a h
            len := O.S.len, val := O.S.val
            own := fun j l c h => by
              obtain ⟨a, o, e1, e2, e3, q⟩ := O.S.own j l c h
              have z : a ≠ D := fun z => by subst z; exact ap.2.2 j l c h e1
              exact ⟨a, o, e1, e2, by rw [upd_ne z]; exact e3, q⟩
            sep := O.S.sep }
  · cases hd with
    | none => trivial
    | some p =>
      have h : Apart e ρ σ H p.1 p.2 := O.hh
      exact ⟨by rw [upd_ne (O.ne p.1 p.2 rfl)]; exact h.1, h.2⟩
theorem Hold.al {e : En} {ρ : List Slot} {σ : L2.St} {D : Addr} {hd : Hd} {F H F' H' : Hp} {A : List PyData} (O : Hold e ρ σ D hd F H A) (Ax : Al F H F' H') : Hold e ρ σ D hd F' H' A := by
  obtain ⟨ws, ap, ra⟩ := O.acc
  refine ⟨O.S.al Ax, ?_, ⟨ws, ⟨Ax.h _ _ ap.1, ap.2⟩, ra.mono Ax.f⟩, ?_, O.ne⟩
  · cases z : F' D with
    | none => rfl
    | some u =>
      rcases Ax.new D (by rw [z]; simp) with q | q
      · exact absurd O.fD q
      · rw [ap.1] at q; cases q
  · cases hd with
    | none => trivial
    | some p =>
      have h : Apart e ρ σ H p.1 p.2 := O.hh
      exact ⟨Ax.h _ _ h.1, h.2⟩
theorem HeldAt.c {e : En} {ρ : List Slot} {σ : L2.St} {F H : Hp} : ∀ {hd : Hd}, HeldAt e ρ σ H hd → HC hd F H
  | none, _ => trivial
  | some _, h => h.1
theorem Hold.start {e : En} {ρ : List Slot} {σ : L2.St} {D : Addr} {hd : Hd} {F H : Hp} (S : Sta e F ρ σ H) (hD : H D = none) (hh : HeldAt e ρ σ H hd) : Hold e ρ σ D hd F (upd H D (.lst [])) [] := by
  refine ⟨S.alloc hD, S.sub.none hD, ⟨[], ⟨upd_same, S.h0 hD, S.fresh hD⟩, .nil⟩, ?_, fun a o h z => ?_⟩
  · cases hd with
    | none => trivial
    | some p =>
      have h : Apart e ρ σ H p.1 p.2 := hh
      exact ⟨by rw [upd_ne (ne_of_none h.1 hD)]; exact h.1, h.2⟩
  · subst h; subst z
    have h : Apart e ρ σ H a o := hh
    rw [h.1] at hD; cases hD
theorem rpvs_mono {F F' : Hp} (f : FSub F F') : ∀ {vs : List V} {xs : List Val}, RpVs F vs xs → RpVs F' vs xs
  | _, _, .nil => .nil
  | _, _, .cons r t => .cons (r.mono f) (rpvs_mono f t)
/-- [e for x in xs for y in ys], nothing changed: the items of each turn one after another -/
theorem eo_lc2 {α β : Type} {wi wi1 : TI} {g g1 : TG} {te : TE} {vs vs1 is js : List Nat} (zs : List α) (inj : α → Val) (ys : α → List Val) (qs : α → List β) (inj1 : β → Val) (us : β → List Val) (fv : α → β → PyData)
    (hi : EIX wi ρ (zs.map inj) ρ1) (hsub : ∀ i ∈ is, i ∈ vs) (hsub1 : ∀ i ∈ js, i ∈ vs1) (hvv : ∀ i ∈ vs1, i ∈ vs) (hdis : ∀ i ∈ is, i ∉ vs1) (hv : ∀ j ∈ vs, ∀ l c, ρ1[j]? ≠ some (.own l c)) (hz : ((zs.flatMap fun z => (qs z).map (fv z)).length < sizeLine))
    (hs : ∀ z ∈ zs, GT g is (inj z) (ys z) ∧ EI wi1 (setsR (wipeR ρ1 vs) is (ys z)) ((qs z).map inj1) (setsR (wipeR ρ1 vs) is (ys z)) ∧
      ∀ q ∈ qs z, GT g1 js (inj1 q) (us q) ∧ EV te (setsR (wipeR (setsR (wipeR ρ1 vs) is (ys z)) vs1) js (us q)) (.d (fv z q)) (setsR (wipeR (setsR (wipeR ρ1 vs) is (ys z)) vs1) js (us q))) :
    EO (tLc2 wi g tYes wi1 g1 tYes te vs vs1) ρ (.lst (zs.flatMap fun z => (qs z).map (fv z))) ρ1 := fun e F σ H Q S k =>
  hi e F σ H _ S fun F1 H1 J hd f1 S1 si hh D hD => by
    refine ⟨fun i m H => m = zs.length - i ∧ i ≤ zs.length ∧ ∃ F', FSub F1 F' ∧ Hold e ρ1 σ D hd F' H ((zs.take i).flatMap fun z => (qs z).map (fv z)), ⟨zs.length, by simp, Nat.zero_le _, F1, .rfl, Hold.start S1 hD hh⟩, ?_⟩
    rintro i m H2 ⟨rfl, hle, F2, f2, O2⟩
    have lenz : (zs.map inj).length = zs.length := List.length_map ..
    by_cases hlt : i < zs.length
    · refine .inr ⟨si.go F2 H2 i f2 O2.S.sub O2.hh.c (by rw [lenz]; exact hlt), fun H' => ∃ F', FSub F1 F' ∧ Hold e ρ1 σ D hd F' H' ((zs.take (i + 1)).flatMap fun z => (qs z).map (fv z)), fun H' ⟨F', f, O⟩ => ⟨zs.length - (i + 1), by omega, rfl, hlt, F', f, O⟩, fun v H3 y => ?_⟩
      obtain ⟨F3, x, Ax, hx, rx⟩ := si.yld F2 H2 i v H3 f2 O2.S.sub O2.hh.c y (by rw [lenz]; exact hlt)
      have O3 := O2.al Ax
      have hzi : zs[i]? = some zs[i] := by simp [hlt]
      rw [List.getElem?_map, hzi] at hx
      cases hx
      obtain ⟨h1, h2, h3⟩ := hs zs[i] (List.mem_of_getElem? hzi)
      refine h1 F3 H3 v _ _ O3.S.sub rx fun ws rw' _ => ⟨wipe_sets hsub, ?_⟩
      rw [L2.tYes, if_pos rfl]
      have ww : Within vs ρ1 σ (setsR (wipeR ρ1 vs) is (ys zs[i])) (sets (L2.wipe σ vs) is ws) := Within.sets (vs := vs) (ρ := ρ1) (σ := σ) (ρw := wipeR ρ1 vs) (σw := L2.wipe σ vs) (within_wipe (ρ := ρ1) (σ := σ) vs) rw' hsub
      have W2 : Sta e F3 (setsR (wipeR ρ1 vs) is (ys zs[i])) (sets (L2.wipe σ vs) is ws) H3 := (O3.S.wipe vs).sets rw'
      refine h2 _ F3 _ H3 _ W2.enter fun F4 H4 J1 f4 S4 si1 => ?_
      have f34 : FSub F1 F4 := (f2.trans Ax.f).trans f4
      have O4 : Hold e ρ1 σ D hd F4 H4 ((zs.take i).flatMap fun z => (qs z).map (fv z)) := O3.block W2 ww S4 f4 (fun j hj => (ww.2 j hj).2) (fun j hj => (ww.2 j hj).1.symm) hv
      have lenq : ((qs zs[i]).map inj1).length = (qs zs[i]).length := List.length_map ..
      have bound : ∀ j, j < (qs zs[i]).length → ((zs.take i).flatMap fun z => (qs z).map (fv z)).length + j < sizeLine := fun j hj => by
        refine Nat.lt_of_lt_of_le (Nat.add_lt_add_left hj _) (Nat.le_trans ?_ (Nat.le_of_lt hz))
        have e1 : zs = zs.take i ++ (zs[i] :: zs.drop (i + 1)) := by rw [List.getElem_cons_drop, List.take_append_drop]
        have e2 : (zs.flatMap fun z => (qs z).map (fv z)).length = ((zs.take i).flatMap fun z => (qs z).map (fv z)).length + ((qs zs[i]).length + ((zs.drop (i + 1)).flatMap fun z => (qs z).map (fv z)).length) := by
          conv => lhs; rw [e1]
          rw [List.flatMap_append, List.flatMap_cons, List.length_append, List.length_append, List.length_map]
        omega
      refine ⟨fun j n H => n = (qs zs[i]).length - j ∧ j ≤ (qs zs[i]).length ∧ ∃ F', FSub F4 F' ∧ Hold e ρ1 σ D hd F' H (((zs.take i).flatMap fun z => (qs z).map (fv z)) ++ ((qs zs[i]).take j).map (fv zs[i])),
        ⟨(qs zs[i]).length, by simp, Nat.zero_le _, F4, .rfl, by simpa using O4⟩, ?_⟩
      rintro j n H5 ⟨rfl, hjl, F5, f5, O5⟩
      by_cases hjlt : j < (qs zs[i]).length
      · refine .inr ⟨si1.go F5 H5 j f5 O5.S.sub trivial (by rw [lenq]; exact hjlt), fun H' => ∃ F', FSub F4 F' ∧ Hold e ρ1 σ D hd F' H' (((zs.take i).flatMap fun z => (qs z).map (fv z)) ++ ((qs zs[i]).take (j + 1)).map (fv zs[i])), fun H' ⟨F', f, O⟩ => ⟨(qs zs[i]).length - (j + 1), by omega, rfl, hjlt, F', f, O⟩, fun v1 H6 y1 => ?_⟩
        obtain ⟨F6, x1, Ax1, hx1, rx1⟩ := si1.yld F5 H5 j v1 H6 f5 O5.S.sub trivial y1 (by rw [lenq]; exact hjlt)
        have O6 := O5.al Ax1
        have hqj : (qs zs[i])[j]? = some (qs zs[i])[j] := by simp [hjlt]
        rw [List.getElem?_map, hqj] at hx1
        cases hx1
        obtain ⟨k1, k2⟩ := h3 (qs zs[i])[j] (List.mem_of_getElem? hqj)
        refine k1 F6 H6 v1 _ _ O6.S.sub rx1 fun ws1 rw1 _ => ⟨wipe_sets hsub1, ?_⟩
        rw [L2.tYes, if_pos rfl]
        have f36 : FSub F3 F6 := (f4.trans f5).trans Ax1.f
        have rwm : RpVs F6 ws (ys zs[i]) := rpvs_mono f36 rw'
        have ww6 : Within vs ρ1 σ (setsR (wipeR (setsR (wipeR ρ1 vs) is (ys zs[i])) vs1) js (us (qs zs[i])[j])) (sets (L2.wipe (sets (L2.wipe σ vs) is ws) vs1) js ws1) := Within.sets (vs := vs) (ρ := ρ1) (σ := σ) (ww.wipe hvv) rw1 fun q hq => hvv q (hsub1 q hq)
        have W6 : Sta e F6 (setsR (wipeR (setsR (wipeR ρ1 vs) is (ys zs[i])) vs1) js (us (qs zs[i])[j])) (sets (L2.wipe (sets (L2.wipe σ vs) is ws) vs1) js ws1) H6 := (((O6.S.wipe vs).sets rwm).wipe vs1).sets rw1
        refine k2 _ F6 _ H6 _ W6.enter fun F7 H7 v7 f7 S7 r7 => ?_
        have O7 := O6.block W6 ww6 S7 f7 (fun j hj => (ww6.2 j hj).2) (fun j hj => (ww6.2 j hj).1.symm) hv
        obtain ⟨vs7, g1, g2, O8⟩ := O7.add (show Rp F7 v7 _ from r7)
        refine ⟨vs7, g1, ?_, F7, (f5.trans Ax1.f).trans f7, ?_⟩
        · rw [g2, List.length_append, List.length_map, List.length_take]
          exact Nat.lt_of_le_of_lt (Nat.add_le_add_left (Nat.min_le_left _ _) _) (bound j hjlt)
        · rw [List.take_add_one, hqj, List.map_append, ← List.append_assoc]
          exact O8
      · have ej : j = (qs zs[i]).length := by omega
        subst ej
        refine .inl ⟨si1.stop F5 H5 _ f5 O5.S.sub trivial (by rw [lenq]; exact Nat.le_refl _), F5, f34.trans f5, ?_⟩
        have e3 : (zs.take (i + 1)).flatMap (fun z => (qs z).map (fv z)) = ((zs.take i).flatMap fun z => (qs z).map (fv z)) ++ ((qs zs[i]).take (qs zs[i]).length).map (fv zs[i]) := by
          rw [List.take_add_one, hzi, List.flatMap_append, List.take_length]
          simp
        rw [e3]
        exact O5
    · have ei : i = zs.length := by omega
      subst ei
      rw [List.take_length] at O2
      obtain ⟨ws, ap, ra⟩ := O2.acc
      exact .inl ⟨si.stop F2 H2 _ f2 O2.S.sub O2.hh.c (by rw [lenz]; exact Nat.le_refl _), k F2 H2 D _ (f1.trans f2) O2.S O2.fD ap.1 ⟨ws, rfl, ra⟩ ap.2.1 ap.2.2⟩
end Pw

set_option Elab.async false
set_option linter.all false
set_option maxRecDepth 100000
set_option maxHeartbeats 2000000
/-! {x for row in rows} of texts, and len of it. -/
namespace Pw
open PySem PySem.Spec PyProof.Rows L2
section
variable {X : Cx}
/-- set.add of a key to the set at B -/
theorem addK_ok {pn : List (Addr × Obj)} {ς : L2.St} {G : Hp} {s : Shared} {E : Value → Shared → Prop} {B : Addr} {M : Key → Bool} {m : Nat} {x : Key} {u : Value} {Qv : Value → Shared → Prop} (J : Inv X pn ς G s) (hB : G B = some (SetK X.prog X.w B M m))
    (ru : RelV (kV x) u) (hm : m + 1 < scanBound) (k : ∀ t, Inv X pn ς (upd G B (SetK X.prog X.w B (fun j => M j || decide (j = x)) (if M x = true then m else m + 1))) t → Qv .none t) : wpAny (model X.prog X.w) X.A (call (.builtin "set.add") [.ref B, u]) Qv E s :=
  call_set_add (kV_is ru) (key_scan ru) (setK_get J hB) hm fun h1 same put => k _ (J.write (t' := s.toks + 1) (e := B) (by rw [hB]; trivial) (.inl rfl) (fun c v nc hv => (same.2 c nc).trans hv) (let ⟨o, _, _, _, ho, _⟩ := put; ⟨o, ho⟩) (setK_new put))
/-- what one turn of the walk owes: the set at B with the item's text -/
def addsK (P : Program) (w : World) (B : Addr) (ς : L2.St) (g : TG) (te : TE) (vs : List Nat) (x : V) (G : Hp) (Nx : Hp → Prop) : Prop :=
  g x (wipe ς vs) G fun ς2 G2 => wipe ς2 vs = wipe ς vs ∧ te ς2 G2 fun y G3 => ∃ (z : Key) (M : Key → Bool) (m : Nat), y = kV z ∧ G3 B = some (SetK P w B M m) ∧ m + 1 < scanBound ∧ Nx (upd G3 B (SetK P w B (fun j => M j || decide (j = z)) (if M z = true then m else m + 1)))
def tSk (P : Program) (w : World) (wi : TI) (g : TG) (te : TE) (vs : List Nat) : TE := fun ς G Q => wi ς G fun J G1 => ∀ B, G1 B = none → ∃ T : Nat → Nat → Hp → Prop, (∃ m, T 0 m (upd G1 B (SetK P w B (fun _ => false) 0))) ∧ ∀ i m G2, T i m G2 →
  (J.stop i G2 ∧ Q (.ref B) G2) ∨ (J.go i G2 ∧ ∃ Nx : Hp → Prop, (∀ G', Nx G' → ∃ m', m' < m ∧ T (i + 1) m' G') ∧ ∀ x G', J.yld i G2 x G' → addsK P w B ς g te vs x G' Nx)
variable {elt tg iter : Expr} {scope : Scope} {own : List (PySem.Str × Nat)} {pos : Pos} {wi : TI} {g : TG} {te : TE}
theorem pe_sk (hc : X.calm = true) (hN : X.N.Nodup) (hi : PI X tg iter wi) (ok : BlkOk X.N X.env.scope scope own)
    (hg : ∀ (t : Shared) (G : Hp) (C : Addr) (cl : List (PySem.Str × Addr)) (fp : List Addr), PG (X.blk t G scope (compEnvC scope cl C X.env) fp) tg g)
    (he : ∀ (t : Shared) (G : Hp) (C : Addr) (cl : List (PySem.Str × Addr)) (fp : List Addr), PE (X.blk t G scope (compEnvC scope cl C X.env) fp) elt te) (hs : ∀ x, foldedSetIterable iter X.env x = pure x := by intro _; rfl) :
    PE X (.SetComp elt [⟨tg, iter, [], 0⟩] scope pos) (tSk X.prog X.w wi g te (own.map (·.2))) := by
  refine ⟨fun pn a ς G Q I h => ?_⟩
  rw [PpSet.eval_SetComp]
  have cellOf : ∀ y ∈ scope.names, y.2 = .free → ∃ c, X.env.cells.lookup y.1 = some c := fun y hy e => (ok.free y hy e).elim (fun k => I.ok.has _ (.inl k)) fun k => I.ok.has _ (.inr k)
  refine wpAny_comprehension_free (use := none) rfl hs (closure_ok cellOf) ok.kind (fun y hy e => (ok.uniq y hy).trans (congrArg some e)) ?_
  refine thn (hi.run pn a ς G _ I h) fun xv b hx => thn hx fun itv b2 ⟨it, fp, tn, J, G2, e, I2, Tn, here, ffp, q⟩ => ?_
  subst e
  refine PpSet.newSet_ok (newEnv_comp ?_)
  generalize eB : b2.heap.objs.size = B
  obtain ⟨T, ⟨m0, t0⟩, turn⟩ := q B (I2.hok.fresh (Nat.le_of_eq eB))
  generalize eS : ({ cls := .type "set", dict := none, data := .set #[] 0 (.fresh 0 0 (!X.w.params.followText "set-order")) } : Obj) = oS
  have fresh : (b2.heap.push oS).SetOf (mixKind X.prog X.w) b2.heap.objs.size (fun _ => false) 0 := by
    subst eS
    exact ⟨_, #[], 0, _, Heap.get?_push_size _ rfl, ⟨rfl, rfl, rfl⟩, rfl, (fun e he => by simp at he), (fun k => by simp), (by decide), (by rfl), rfl⟩
  generalize e3 : ({ b2 with heap := b2.heap.push oS } : Shared) = b3
  have h3 : b3.heap = b2.heap.push oS := by rw [← e3]
  generalize eG : upd G2 B (SetK X.prog X.w B (fun _ => false) 0) = G3 at t0
  have I3 : Inv X pn ς G3 b3 := by
    rw [← e3, ← eG]
    exact I2.laid (t' := b2.toks) (fun c o z => Heap.get?_push_of_some _ z) (Nat.le_of_eq eB) (by rw [← eB]; exact setK_new fresh)
  have small : ∀ c ∈ fp, c < b2.heap.objs.size := fun c hcf => let ⟨_, z, _⟩ := Tn.obj _ _ here c hcf; Heap.lt_size z
  have f3 : ∀ c ∈ fp, FpOk X pn G3 c ∧ c < b3.heap.objs.size := fun c hcf => by
    have lt := small c hcf
    refine ⟨⟨?_, (ffp c hcf).2⟩, ?_⟩
    · rw [← eG, upd_ne (fun z => Nat.ne_of_lt lt (z.trans eB.symm))]
      exact (ffp c hcf).1
    · rw [h3, Heap.size_push]
      exact Nat.lt_succ_of_lt lt
  have here3 : tn 0 b3.heap := Tn.keep _ _ _ here fun c _ o z => by
    rw [h3]
    exact Heap.get?_push_of_some _ z
  have I4 := block_start I3 ok hN f3
  generalize eC : b3.heap.objs.size = C at I4
  generalize eE : compEnvC scope (cellsFrom (C + 1) scope.names (cloFrom X.env.cells scope.names [])) C X.env = ce at I4
  have pg : PG (X.blk b3 G3 scope ce fp) tg g := by
    rw [← eE]
    exact hg b3 G3 C (cellsFrom (C + 1) scope.names (cloFrom X.env.cells scope.names [])) fp
  have pe : PE (X.blk b3 G3 scope ce fp) elt te := by
    rw [← eE]
    exact he b3 G3 C (cellsFrom (C + 1) scope.names (cloFrom X.env.cells scope.names [])) fp
  have atC : ce.locals = C := by
    rw [← eE]; rfl
  generalize e4 : ({ b3 with heap := pushCells (b3.heap.push { cls := .type "dict", data := .dict #[] }) scope.names } : Shared) = b4 at I4
  have goal4 : codeAny (model X.prog X.w) X.A (.compStart (.SetComp elt [⟨tg, iter, [], 0⟩] scope pos) 0 (.ref it) (.ref B) ce) (compPost (model X.prog X.w) X.A X.xe none (EP X pn ς Q) (.ref B) C) b4 := by
    have here4 : tn 0 b4.heap := Tn.keep _ _ _ here3 fun c _ o z => by
      rw [← e4]
      exact pushCells_keeps _ _ _ _ (Heap.get?_push_of_some _ z)
    have stat : ∀ {ς' : L2.St} {G' : Hp} {t : Shared}, Inv (X.blk b3 G3 scope ce fp) [] ς' G' t → (∀ c ∈ fp, G' c = none) → ∀ c ∈ fp, FpOk (X.blk b3 G3 scope ce fp) [] G' c := fun {ς' G' t} J' no c hcf =>
      ⟨no c hcf, (J'.ok.exf c hcf).1, J'.ok.exfs c hcf, .inl hcf, fun x d e => (J'.ok.exf c hcf).2 x d e, fun p hp => by simp at hp⟩
    have run : codeAny (model X.prog X.w) X.A (.compLoop (.SetComp elt [⟨tg, iter, [], 0⟩] scope pos) 0 (.ref it) (.ref B) ce) (compPost (model X.prog X.w) X.A X.xe none (EP X pn ς Q) (.ref B) C) b4 := by
      refine PpSet.compLoopS_any (fun n t => ∃ i G', Inv (X.blk b3 G3 scope ce fp) [] (wipe ς (own.map (·.2))) G' t ∧ tn i t.heap ∧ (∀ c ∈ fp, G' c = none) ∧ T i n G') ?_ m0 ⟨0, G3, I4, here4, fun c hcf => (f3 c hcf).1.1, t0⟩
      rintro n t ⟨i, G5, I5, here5, no5, t5⟩
      rcases turn i n G5 t5 with ⟨halt, out⟩ | ⟨goes, Nx, next, step⟩
      · refine thnF (Tn.done (X.blk b3 G3 scope ce fp) rfl rfl rfl hc i [] t _ G5 (fun _ _ => False) I5 (stat I5 no5) here5 halt) fun r t2 ⟨hr, I6⟩ => ?_
        subst hr
        have I7 : Inv X pn ς G5 t2 := I3.call' (ch := fp) I6.os I6.base I6.hok I6.bare fun c hcf => let z := (f3 c hcf).1.2.2; ⟨z.2.1, (f3 c hcf).1.2.1, z.2.2.1, z.2.2.2⟩
        have noC : G5 C = none := by
          have z : G5 ce.locals = none := I6.free
          rw [atC] at z; exact z
        obtain ⟨mm, hn, _⟩ := I6.loc
        have hn : t2.heap.Ns ce.locals mm := hn
        rw [atC] at hn
        refine ⟨mm, hn, fun h2 same => ?_⟩
        obtain ⟨y0, y1, y2, y3, y4, y5⟩ := I3.fpOk (Nat.le_of_eq eC) noC
        exact ⟨.ref B, G5, I7.turned (t' := t2.toks) (fun c o nc z => (same.2 c nc).trans z) y0 y1 y3 y4 y5, rfl, out⟩
      · refine thnF (Tn.item (X.blk b3 G3 scope ce fp) rfl rfl rfl hc i [] t _ G5 (fun _ _ => False) I5 (stat I5 no5) here5 goes) fun r t2 ⟨u, hr, h6⟩ => ?_
        subst hr
        refine thnF h6 fun _ t3 ⟨x, G7, I7, rx, y7, here7, no7⟩ => ?_
        have pinned := I7.pinned (stat I7 no7) (Tn.obj _ _ here7)
        refine thnF (pg.run _ t3 _ G7 x u _ pinned rx (step x G7 y7)) fun _ t4 ⟨ς8, G8, I8, same8, q8⟩ => ?_
        refine thnF ((pts_nil (X := X.blk b3 G3 scope ce fp)).run _ t4 ς8 G8 (fun bb G9 => bb = true ∧ te ς8 G9 fun y G3 => ∃ (z : Key) (M : Key → Bool) (m : Nat), y = kV z ∧ G3 B = some (SetK X.prog X.w B M m) ∧ m + 1 < scanBound ∧ Nx (upd G3 B (SetK X.prog X.w B (fun j => M j || decide (j = z)) (if M z = true then m else m + 1)))) I8 ⟨rfl, q8⟩) fun bb t5 ⟨G9, I9, hb, q9⟩ => ?_
        subst hb
        rw [if_pos rfl]
        refine thnF (pe.run _ t5 ς8 G9 _ I9 q9) fun zv t6 ⟨yv, G10, I10, r10, z, M, m, ey, hB, room, nx⟩ => ?_
        subst ey
        refine addK_ok (X := X.blk b3 G3 scope ce fp) I10 hB r10 room fun t7 I11 => ?_
        obtain ⟨m', lt, t'⟩ := next _ nx
        have held : ∀ c ∈ fp, ∀ o, t3.heap.get? c = some o → t7.heap.get? c = some o ∧ _ := fun c hcf o z =>
          let w := I11.pin (c, o) (List.mem_append_right _ (List.mem_append_right _ (mem_pinsAt hcf z)))
          ⟨w.1, w.2.1⟩
        refine ⟨m', lt, i + 1, _, (I11.unpinned (pins := [])).weak (by rw [← same8, wipe_length]) (fun j v e => ?_), Tn.keep _ _ _ here7 fun c hcf o z => (held c hcf o z).1, fun c hcf => ?_, t'⟩
        · rw [← same8] at e
          exact (wipe_some e).1
        · obtain ⟨o, z, _⟩ := Tn.obj _ _ here7 c hcf
          exact (held c hcf o z).2
    exact PpSet.codeAny_compStart_set run (Tn.self X.A 0 _ _ _ here4 run)
  subst e4 eE eC e3
  exact goal4
/-- len of a set of keys -/
def rLenK (P : Program) (w : World) : List V → Hp → VK → Prop := fun xs G Q => ∃ (a : Addr) (M : Key → Bool) (m : Nat), xs = [.ref a] ∧ G a = some (SetK P w a M m) ∧ m < scanBound ∧ Q (.int m) G
theorem call_lenSK : CallR X (.builtin "len") (rLenK X.prog X.w) := fun pn s ς G xs us Q I r ⟨a, M, m, e, ha, hm, q⟩ => by
  subst e
  cases r with
  | cons r t =>
    cases t
    cases r
    obtain ⟨o, es, ep, t, ho, hex, hd, _, _, _, hf, hn⟩ := setK_get I ha
    have hz : es.size < scanBound := by rw [hn]; exact hm
    exact call_len_set ho hex hd hf (by unfold scanBound at hz; omega) ⟨.int m, G, I.tok _, ⟨_, by rw [hn]⟩, q⟩
theorem call_lenSKK (K : PySem.W.Frag) (P : Program) (w : World) (hp : X.prog = P := by rfl) (hw : X.w = w := by rfl) : CallR X (.builtin "len") (rLenK P w) := by
  subst hp; subst hw
  exact call_lenSK
theorem pe_skK {own : List (PySem.Str × Nat)} (P : Program) (w : World) (hc : X.calm = true) (hN : X.N.Nodup) (hi : PI X tg iter wi) (ok : BlkOk X.N X.env.scope scope own)
    (hg : ∀ (t : Shared) (G : Hp) (C : Addr) (cl : List (PySem.Str × Addr)) (fp : List Addr), PG (X.blk t G scope (compEnvC scope cl C X.env) fp) tg g)
    (he : ∀ (t : Shared) (G : Hp) (C : Addr) (cl : List (PySem.Str × Addr)) (fp : List Addr), PE (X.blk t G scope (compEnvC scope cl C X.env) fp) elt te) (hp : X.prog = P := by rfl) (hw : X.w = w := by rfl) (hs : ∀ x, foldedSetIterable iter X.env x = pure x := by intro _; rfl) :
    PE X (.SetComp elt [⟨tg, iter, [], 0⟩] scope pos) (tSk P w wi g te (own.map (·.2))) := by
  subst hp; subst hw
  exact pe_sk hc hN hi ok hg he hs
end
/-! ### over data -/
theorem Sta.swap {e : En} {F H : Hp} {ρ : List Slot} {σ : L2.St} (S : Sta e F ρ σ H) {B : Addr} {o : HO} (hF : F B = none) (h0 : e.H0 B = none) (hs : ∀ (j : Nat) l c, ρ[j]? = some (.own l c) → σ[j]? ≠ some (some (.ref B))) : Sta e F ρ σ (upd H B o) where
  sub := fun a u h => by
    have n : a ≠ B := fun z => by subst z; rw [hF] at h; cases h
    rw [upd_ne n]; exact S.sub a u h
  f0 := S.f0
  new := S.new
  keep := fun a u h q => by
    have n : a ≠ B := fun z => by subst z; rw [h0] at h; cases h
    rw [upd_ne n]; exact S.keep a u h q
  there := fun a h => by
    by_cases z : a = B
    · subst z; rw [upd_same]; simp
    · rw [upd_ne z]; exact S.there a h
  len := S.len
  val := S.val
  own := fun i l c h => by
    obtain ⟨a, u, e1, e2, e3, r, q⟩ := S.own i l c h
    have n : a ≠ B := fun z => by subst z; exact hs i l c h e1
    exact ⟨a, u, e1, e2, by rw [upd_ne n]; exact e3, r, q⟩
  sep := S.sep
/-- the different ones, in the sequence in which they come -/
def difs (xs : List Str) : List Str := xs.foldl (fun acc x => if x ∈ acc then acc else acc ++ [x]) []
theorem difs_snoc (xs : List Str) (x : Str) : difs (xs ++ [x]) = if x ∈ difs xs then difs xs else difs xs ++ [x] := by
  unfold difs
  rw [List.foldl_append]
  rfl
theorem mem_difs (x : Str) : ∀ xs : List Str, x ∈ difs xs ↔ x ∈ xs := by
  intro xs
  have key : ∀ n, ∀ xs : List Str, xs.length = n → (x ∈ difs xs ↔ x ∈ xs) := by
    intro n
    induction n with
    | zero => intro xs h; cases xs with
      | nil => simp [difs]
      | cons _ _ => simp at h
    | succ n ih =>
      intro xs h
      have hne : xs ≠ [] := fun z => by subst z; simp at h
      rw [← List.dropLast_concat_getLast hne, difs_snoc]
      have := ih xs.dropLast (by simp [h])
      split
      · rename_i hm
        rw [this]
        simp only [List.mem_append, List.mem_singleton]
        refine ⟨.inl, fun z => z.elim id fun z => ?_⟩
        rw [← z] at hm
        exact this.mp hm
      · simp only [List.mem_append, List.mem_singleton, this]
  exact key _ xs rfl
theorem difs_len (xs : List Str) : (difs xs).length ≤ xs.length ∧ ((difs xs).length = xs.length ↔ xs.Nodup) := by
  have key : ∀ n, ∀ xs : List Str, xs.length = n → (difs xs).length ≤ xs.length ∧ ((difs xs).length = xs.length ↔ xs.Nodup) := by
    intro n
    induction n with
    | zero => intro xs h; cases xs with
      | nil => simp [difs]
      | cons _ _ => simp at h
    | succ n ih =>
      intro xs h
      have hne : xs ≠ [] := fun z => by subst z; simp at h
      obtain ⟨h1, h2⟩ := ih xs.dropLast (by simp [h])
      have e := List.dropLast_concat_getLast hne
      have hl : xs.length = xs.dropLast.length + 1 := by rw [List.length_dropLast]; omega
      rw [← e, difs_snoc]
      have hnd : (xs.dropLast ++ [xs.getLast hne]).Nodup ↔ xs.dropLast.Nodup ∧ xs.getLast hne ∉ xs.dropLast := by
        rw [List.nodup_append]
        constructor
        · intro ⟨a, b, c⟩
          exact ⟨a, fun z => c _ z _ (List.mem_singleton.mpr rfl) rfl⟩
        · intro ⟨a, c⟩
          exact ⟨a, by simp, fun y hy z hz q => by rw [List.mem_singleton.mp hz] at q; rw [q] at hy; exact c hy⟩
      rw [hnd]
      split
      · rename_i hm
        rw [mem_difs] at hm
        refine ⟨by simp; omega, ⟨fun z => ?_, fun ⟨_, z⟩ => absurd hm z⟩⟩
        simp at z
        omega
      · rename_i hm
        rw [mem_difs] at hm
        refine ⟨by simp; omega, ?_⟩
        simp only [List.length_append, List.length_singleton, Nat.add_right_cancel_iff]
        exact ⟨fun z => ⟨h2.mp z, hm⟩, fun z => h2.mpr z.1⟩
  exact key _ xs rfl
variable {ρ ρ1 : List Slot}
theorem ev_lenSk {P : Program} {w : World} {α : Type} {wi : TI} {g : TG} {te : TE} {vs is : List Nat} (zs : List α) (inj : α → Val) (f : α → Str) (ys : α → List Val) (hi : EI wi ρ (zs.map inj) ρ1) (hsub : ∀ i ∈ is, i ∈ vs)
    (hv : ∀ j ∈ vs, ∀ l c, ρ1[j]? ≠ some (.own l c)) (hz : zs.length + 1 < scanBound)
    (hs : ∀ z ∈ zs, GT g is (inj z) (ys z) ∧ EV te (setsR (wipeR ρ1 vs) is (ys z)) (.d (.str (f z))) (setsR (wipeR ρ1 vs) is (ys z))) :
    EV (tCB (rLenK P w) (tCons (tSk P w wi g te vs) tNil)) ρ (.d (.int (difs (zs.map f)).length)) ρ1 := fun e F σ H Q S k =>
  hi e F σ H _ S fun F1 H1 J f1 S1 si B hB => by
    have hl : (zs.map inj).length = zs.length := List.length_map ..
    have hb0 : e.H0 B = none := S1.h0 hB
    have nown : ∀ (j : Nat) l c, ρ1[j]? = some (.own l c) → σ[j]? ≠ some (some (.ref B)) := S1.fresh hB
    have cnt : ∀ i, (difs ((zs.take i).map f)).length ≤ zs.length := fun i => by
      have := (difs_len ((zs.take i).map f)).1
      rw [List.length_map, List.length_take] at this
      omega
    refine ⟨fun i m G => m = zs.length - i ∧ i ≤ zs.length ∧ ∃ F', FSub F1 F' ∧ Sta e F' ρ1 σ G ∧ F' B = none ∧ ∃ M : Key → Bool, G B = some (SetK P w B M (difs ((zs.take i).map f)).length) ∧ ∀ x : Str, M (.inr x) = decide (x ∈ (zs.take i).map f), ?_, ?_⟩
    · exact ⟨zs.length, by simp, Nat.zero_le _, F1, .rfl, S1.alloc hB, S1.sub.none hB, fun _ => false, by rw [upd_same]; rfl, fun x => by simp⟩
    · rintro i m G ⟨rfl, hle, F2, f2, S2, hF2, M, hG, hM⟩
      by_cases hlt : i < zs.length
      · refine .inr ⟨si.go F2 G i f2 S2.sub trivial (by rw [hl]; exact hlt), fun G' => ∃ F', FSub F1 F' ∧ Sta e F' ρ1 σ G' ∧ F' B = none ∧ ∃ M : Key → Bool, G' B = some (SetK P w B M (difs ((zs.take (i + 1)).map f)).length) ∧ ∀ x : Str, M (.inr x) = decide (x ∈ (zs.take (i + 1)).map f),
          fun G' q => ⟨zs.length - (i + 1), by omega, rfl, hlt, q⟩, fun v G' y => ?_⟩
        obtain ⟨F3, xx, A, hx, rx⟩ := si.yld F2 G i v G' f2 S2.sub trivial y (by rw [hl]; exact hlt)
        have hzi : zs[i]? = some zs[i] := by simp [hlt]
        rw [List.getElem?_map, hzi] at hx
        cases hx
        obtain ⟨hg, he⟩ := hs zs[i] (List.getElem_mem hlt)
        have S3 := S2.al A
        have hF3 : F3 B = none := by
          cases q : F3 B with
          | none => rfl
          | some o => rcases A.new B (by rw [q]; simp) with z | z
                      · exact absurd hF2 z
                      · rw [hG] at z; cases z
        have WW : Sta e F3 (wipeR ρ1 vs) (L2.wipe σ vs) G' := S3.wipe vs
        have W1 := WW.enter
        refine hg F3 G' v _ (wipe σ vs) S3.sub rx fun ws rw' hwl => ⟨wipe_sets hsub, ?_⟩
        have W2 : Sta WW.sub_en F3 (setsR (wipeR ρ1 vs) is (ys zs[i])) (sets (L2.wipe σ vs) is ws) G' := W1.sets rw'
        refine he _ F3 _ G' _ W2 fun F5 G5 u f5 S5 ru => ?_
        have ru : Rp F5 u (.str (f zs[i])) := ru
        cases ru
        have hB' : G' B = some (SetK P w B M (difs ((zs.take i).map f)).length) := A.h _ _ hG
        have hσ : ∀ j, j ∉ vs → (sets (L2.wipe σ vs) is ws)[j]? = σ[j]? := fun j hj => by
          rw [sets_get (fun q => hj (hsub j q)), wipe_get hj]
        have hfw : ∀ (j : Nat) l c', (wipeR ρ1 vs)[j]? = some (.own l c') → (L2.wipe σ vs)[j]? ≠ some (some (.ref B)) := fun j l c' h => by
          by_cases z : j ∈ vs
          · rw [wipe_in z]; split <;> simp
          · rw [wipe_get z]; rw [wipeR_get z] at h; exact nown j l c' h
        have T2 := WW.leave S5
        obtain ⟨g1, g2⟩ := WW.apart S5 hB' hb0 hfw
        have T3 : Sta e F5 ρ1 σ G5 := S3.unwipe (vs := vs) T2 f5 hσ hv rfl (fun j hj => rfl) (fun j hj => by
          rw [setsR_get (fun q => hj (hsub j q)), wipeR_get hj])
        have tk : (zs.take (i + 1)).map f = (zs.take i).map f ++ [f zs[i]] := by rw [List.take_add_one, hzi, List.map_append]; rfl
        refine ⟨.inr (f zs[i]), M, _, rfl, g1, by have := cnt i; omega, F5, (f2.trans A.f).trans f5, T3.swap (g2 hF3) hb0 nown, g2 hF3, fun j => M j || decide (j = .inr (f zs[i])), ?_, fun x => ?_⟩
        · rw [upd_same, tk, difs_snoc, hM]
          have em : (f zs[i] ∈ difs ((zs.take i).map f)) ↔ f zs[i] ∈ (zs.take i).map f := mem_difs _ _
          by_cases hm : f zs[i] ∈ (zs.take i).map f
          · rw [if_pos (decide_eq_true hm), if_pos (em.mpr hm)]
          · rw [if_neg (by simpa using hm), if_neg (fun z => hm (em.mp z))]
            rw [List.length_append]; rfl
        · show (M (.inr x) || decide ((Sum.inr x : Key) = .inr (f zs[i]))) = _
          rw [tk, hM]
          by_cases h1 : x ∈ (zs.take i).map f <;> by_cases h2 : x = f zs[i] <;> simp [h1, h2]
      · have e' : i = zs.length := by omega
        subst e'
        refine .inl ⟨si.stop F2 G _ f2 S2.sub trivial (by rw [hl]; exact Nat.le_refl _), ?_⟩
        rw [List.take_length] at hG
        exact ⟨B, M, _, rfl, hG, by have := cnt zs.length; rw [List.take_length] at this; omega, k F2 G _ (f1.trans f2) S2 (.int _)⟩
end Pw

set_option Elab.async false
set_option linter.all false
set_option maxRecDepth 100000
/-! Defs that raise: promises over data with an exceptional end, calls of them, try .. except C as n. -/
namespace Pw
open PySem L2
/-- what a def comes to: an answer or an exception -/
inductive Rs where
  | val (y : PyData)
  | exc (C : Addr) (fld : Option (Str × PyData))
def spX (g : List PyData → Rs → Prop) : Sp := fun vs H Q E => ∃ F ds r, Sub F H ∧ RpAll F vs ds ∧ g ds r ∧
  ∀ F' H', FSub F F' → (∀ a, F' a ≠ none → F a ≠ none ∨ H a = none) → Sub F' H' → (∀ a o, H a = some o → H' a = some o) → match r with
    | .val y => ∀ v, Rp F' v y → Q v H'
    | .exc C none => E (.ref C) none H'
    | .exc C (some (f, x)) => ∀ v d, Rp F' v x → H' d = none → E (.ref C) (some d) (upd H' d (.xd [(f, v)]))
theorem lenX {g : List PyData → Rs → Prop} {n : Nat} (h : ∀ ds r, g ds r → ds.length = n) {vs : List V} {H : Hp} {Q : VK} {E : XK} (s : spX g vs H Q E) : vs.length = n := by
  obtain ⟨F, ds, r, _, A, hg, _⟩ := s
  rw [A.length, h ds r hg]
/-- the end of a body that may raise -/
def GoodR (W : WX) : Rs → Out → Prop
  | .val y, o => GoodP y o
  | .exc C fld, .ex W' C' fld' _ => W' = W ∧ C' = C ∧ fld' = fld
  | .exc _ _, _ => False
def en0 (F H : Hp) : En where
  F0 := F
  H0 := H
  P := fun _ => False
  X := fun _ => False
  Ad := fun _ => none
  pH := fun _ z => z.elim
  xP := fun _ z => z.elim
  aP := fun _ _ z => by cases z
theorem rpArgs {F H : Hp} : ∀ {vs : List V} {ds : List PyData}, RpAll F vs ds → ArgsRp F H (ds.map fun d => Arg.d (.d d)) vs
  | _, _, .nil => .nil
  | _, _, .cons r t => .cons r (rpArgs t)
theorem no_ref {ds : List PyData} {i : Nat} {c : Cont} : (ds.map fun d => Arg.d (.d d))[i]? ≠ some (Arg.r c) := fun h => by
  rw [List.getElem?_map] at h
  cases y : ds[i]? with
  | none => rw [y] at h; cases h
  | some w => rw [y] at h; cases h
theorem wp_spX {g : List PyData → Rs → Prop} {vs : List V} {H : Hp} {Q : VK} {E : XK} {N : List Str} {t : TS} (h : spX g vs H Q E)
    (hb : ∀ ds r, g ds r → ds.length = vs.length → WP t (rhoD N ds) (GoodR (fun cls d _ H' => E cls d H') r)) : t { nx := fun _ H' => Q .non H', rt := Q } (L2.start N vs) H := by
  obtain ⟨F, ds, r, S, A, hg, k⟩ := h
  have e : rho N (ds.map fun d => Arg.d (.d d)) = rhoD N ds := by
    unfold rho rhoD
    rw [List.map_map, List.length_map]; rfl
  have AA : ArgsRp F H (ds.map fun d => Arg.d (.d d)) vs := rpArgs A
  have sp : Sep (ds.map fun d => Arg.d (.d d)) vs := fun i j a ⟨⟨c, z⟩, _⟩ => absurd z no_ref
  have S0 := sta0 (N := N) S AA sp
  rw [e] at S0
  refine hb ds r hg A.length.symm _ F _ H _ (fun _ z => z) S0 fun o ho => ?_
  have keepAll : ∀ {F' H' : Hp} {ρ : List Slot} {σ : L2.St}, Sta (enOf F H _ vs AA) F' ρ σ H' → ∀ a o, H a = some o → H' a = some o := fun S' a o ha => S'.keep a o ha fun ⟨i, ⟨c, z⟩, _⟩ => no_ref z
  cases r with
  | val y =>
    cases o with
    | nx ρ =>
      intro F' σ' H' f S'
      have ho : y = .none := ho
      subst ho
      exact k F' H' f S'.new S'.sub (keepAll S') _ .non
    | rt x ρ =>
      intro F' σ' H' v f S' r
      have ho : x = .d y := ho
      subst ho
      exact k F' H' f S'.new S'.sub (keepAll S') v r
    | ro c ρ =>
      intro F' σ' H' a o f S' e1 e2 r e3
      cases c with
      | lst zs =>
        have ho : y = .list zs := ho
        subst ho
        have fs : FSub F' (upd F' a o) := fun b u h => by rw [upd_ne (ne_of_none h e1)]; exact h
        refine k (upd F' a o) H' (f.trans fs) (fun b h => ?_) (fun b u h => ?_) (keepAll S') _ (RpV.lst ⟨a, o, rfl, upd_same, r.mono fs⟩)
        · by_cases z : b = a
          · subst z; exact .inr e3
          · rw [upd_ne z] at h; exact S'.new b h
        · by_cases z : b = a
          · subst z; rw [upd_same] at h; cases h; exact .inl e2
          · rw [upd_ne z] at h; exact S'.sub b u h
      | dk _ => exact ho.elim
      | dt _ => exact ho.elim
    | bk ρ => exact ho.elim
    | ct ρ => exact ho.elim
    | ex _ _ _ _ => exact ho.elim
  | exc C fld =>
    cases o with
    | ex W' C' fld' ρ =>
      obtain ⟨rfl, rfl, rfl⟩ := ho
      intro F' σ' H' f S'
      cases fld' with
      | none => exact k F' H' f S'.new S'.sub (keepAll S')
      | some p => exact k F' H' f S'.new S'.sub (keepAll S')
    | _ => exact ho.elim
variable {ρ ρ1 ρ2 : List Slot} {ta tb : TE} {P : Out → Prop} {W : WX} {C : Addr} {fld : Option (Str × PyData)} {x : Val}
/-- a reading that raises -/
def ER (W : WX) (ta : TE) (ρ : List Slot) (C : Addr) (fld : Option (Str × PyData)) (ρ' : List Slot) : Prop := ∀ e F σ H (Q : VK), Sta e F ρ σ H → (∀ F' H', FSub F F' → Sta e F' ρ' σ H' → FinX W C fld F' σ H') → ta σ H Q
theorem Al.of {e : En} {F H F' H' : Hp} {ρ : List Slot} {σ : L2.St} (f : FSub F F') (new : ∀ a, F' a ≠ none → F a ≠ none ∨ H a = none) (sub : Sub F' H') (h : ∀ a o, H a = some o → H' a = some o) : Al F H F' H' := ⟨f, h, sub, new⟩
theorem ev_callX {g : List PyData → Rs → Prop} {E : L2.St → XK} {t : TA} {ds : List PyData} {y : PyData} (ha : EA t ρ (ds.map fun d => Src.d (.d d)) ρ1) (hg : g ds (.val y)) : EV (tCallSD (spX g) [] E t) ρ (.d y) ρ1 := fun e F σ H Q S k =>
  ha e F σ H _ S fun F1 H1 vs f1 S1 hs => by
    show spX g (vs ++ []) H1 Q _
    rw [List.append_nil]
    exact ⟨F1, ds, .val y, S1.sub, hs.data, hg, fun F' H' f new sub keep v r => k F' H' v (f1.trans f) (S1.al ⟨f, keep, sub, new⟩) r⟩
theorem er_callX {g : List PyData → Rs → Prop} {t : TA} {ds : List PyData} (ha : EA t ρ (ds.map fun d => Src.d (.d d)) ρ1) (hg : g ds (.exc C fld)) : ER W (tCallSD (spX g) [] (fun σ cls d H => W cls d σ H) t) ρ C fld ρ1 := fun e F σ H Q S k =>
  ha e F σ H _ S fun F1 H1 vs f1 S1 hs => by
    show spX g (vs ++ []) H1 Q _
    rw [List.append_nil]
    refine ⟨F1, ds, .exc C fld, S1.sub, hs.data, hg, fun F' H' f new sub keep => ?_⟩
    have z := k F' H' (f1.trans f) (S1.al ⟨f, keep, sub, new⟩)
    cases fld with
    | none => exact z
    | some p => exact z
theorem ev_cX1 {g : List PyData → Rs → Prop} {E : L2.St → XK} {a y : PyData} (h1 : EV ta ρ (.d a) ρ1) (hg : g [a] (.val y)) : EV (tCallSD (spX g) [] E (tCons ta tNil)) ρ (.d y) ρ1 := ev_callX (ds := [a]) (ea_cons h1 ea_nil) hg
theorem er_cX1 {g : List PyData → Rs → Prop} {a : PyData} (h1 : EV ta ρ (.d a) ρ1) (hg : g [a] (.exc C fld)) : ER W (tCallSD (spX g) [] (fun σ cls d H => W cls d σ H) (tCons ta tNil)) ρ C fld ρ1 := er_callX (ds := [a]) (ea_cons h1 ea_nil) hg
theorem ev_cX2 {g : List PyData → Rs → Prop} {E : L2.St → XK} {a b y : PyData} (h1 : EV ta ρ (.d a) ρ1) (h2 : EV tb ρ1 (.d b) ρ2) (hg : g [a, b] (.val y)) : EV (tCallSD (spX g) [] E (tCons ta (tCons tb tNil))) ρ (.d y) ρ2 := ev_callX (ds := [a, b]) (ea_cons h1 (ea_cons h2 ea_nil)) hg
theorem er_cX2 {g : List PyData → Rs → Prop} {a b : PyData} (h1 : EV ta ρ (.d a) ρ1) (h2 : EV tb ρ1 (.d b) ρ2) (hg : g [a, b] (.exc C fld)) : ER W (tCallSD (spX g) [] (fun σ cls d H => W cls d σ H) (tCons ta (tCons tb tNil))) ρ C fld ρ2 := er_callX (ds := [a, b]) (ea_cons h1 (ea_cons h2 ea_nil)) hg
/-- the first of a call's arguments raises -/
theorem er_arg {t : TA} {r : List V → Hp → VK → Prop} (h : ER W ta ρ C fld ρ1) : ER W (tCB r (tCons ta t)) ρ C fld ρ1 := fun e F σ H Q S k => h e F σ H _ S k
theorem er_argC {t : TA} {sp : Sp} {dvs : List V} {E : XK} (h : ER W ta ρ C fld ρ1) : ER W (tCall sp dvs E (tCons ta t)) ρ C fld ρ1 := fun e F σ H Q S k => h e F σ H _ S k
theorem er_argX {t : TA} {sp : Sp} {dvs : List V} {E : L2.St → XK} (h : ER W ta ρ C fld ρ1) : ER W (tCallSD sp dvs E (tCons ta t)) ρ C fld ρ1 := fun e F σ H Q S k => h e F σ H _ S k
theorem wp_asgR {g : TG} (h : ER W ta ρ C fld ρ1) (k : P (.ex W C fld ρ1)) : WP (tAsg ta g) ρ P := fun e F σ H D hX S q => h e F σ H _ S fun F' H' f S' => q _ k F' σ H' f S'
theorem wp_retR (h : ER W ta ρ C fld ρ1) (k : P (.ex W C fld ρ1)) : WP (tRet ta) ρ P := fun e F σ H D hX S q => h e F σ H _ S fun F' H' f S' => q _ k F' σ H' f S'
theorem wp_exprR (h : ER W ta ρ C fld ρ1) (k : P (.ex W C fld ρ1)) : WP (tDrop ta) ρ P := fun e F σ H D hX S q => h e F σ H _ S fun F' H' f S' => q _ k F' σ H' f S'
theorem wp_raise1 {f : Str} {d : PyData} (h : EV ta ρ (.d d) ρ1) (k : P (.ex W C (some (f, d)) ρ1)) : WP (fun _ σ H => tExr C f (tCons ta tNil) σ H fun cls dd H' => W cls dd σ H') ρ P := fun e F σ H D hX S q =>
  ea_cons h ea_nil e F σ H _ S fun F1 H1 vs f1 S1 r => by
    cases r with
    | cons r t =>
      cases t
      rename_i v
      have r : Rp F1 v d := r
      exact ⟨v, rfl, fun dx hdx => q _ k F1 σ H1 f1 S1 v dx r hdx⟩
/-! ### try .. except C as n -/
def TryP (W : WX) (P : Out → Prop) (Hd : Addr → Option (Str × PyData) → List Slot → Prop) : Out → Prop
  | .ex W' C fld ρ => W' = W ∧ Hd C fld ρ
  | o => P o
def backP (i : Nat) (P : Out → Prop) : Out → Prop
  | .nx ρ => P (.nx (ρ.set i .non))
  | .bk ρ => P (.bk (ρ.set i .non))
  | .ct ρ => P (.ct (ρ.set i .non))
  | o => P o
theorem wp_tryAs {K : PySem.W.Frag} {c : Value} {i : Nat} {tb : WX → TS} {ts : Addr → Value → Option Addr → TS} {Wo : WX} (Hd : Addr → Option (Str × PyData) → List Slot → Prop)
    (hb : ∀ W, WP (tb W) ρ (TryP W P Hd))
    (hh : ∀ C fld ρ', Hd C fld ρ' → PySem.W.exmOne K (.ref C) c = some true ∧ ∀ a d, WP (ts a (.ref C) d) (ρ'.set i (.val (.xh a d ⟨C, fld⟩))) (backP i P)) : WP (fun D σ H => tb (wAs K c i ts Wo D) D σ H) ρ P := fun e F σ H D hX S q => by
  refine hb (wAs K c i ts Wo D) e F σ H D hX S fun o ho => ?_
  cases o with
  | ex W' C fld ρ' =>
    obtain ⟨rfl, ho⟩ := ho
    obtain ⟨h1, h2⟩ := hh C fld ρ' ho
    intro F' σ' H' f S'
    have back : ∀ {F'' : Hp}, FSub F F'' → ∀ o, backP i P o → Fin e F'' { nx := fun σ' H' => D.nx (σ'.set i none) H', rt := D.rt, bk := fun σ' H' => D.bk (σ'.set i none) H', ct := fun σ' H' => D.ct (σ'.set i none) H' } o := fun ff o p => by
      cases o with
      | nx ρ'' => exact fun G σ'' H'' g S'' => q _ (show P (.nx (ρ''.set i .non)) from p) G _ H'' (ff.trans g) (S''.setN i)
      | bk ρ'' => exact fun G σ'' H'' g S'' => q _ (show P (.bk (ρ''.set i .non)) from p) G _ H'' (ff.trans g) (S''.setN i)
      | ct ρ'' => exact fun G σ'' H'' g S'' => q _ (show P (.ct (ρ''.set i .non)) from p) G _ H'' (ff.trans g) (S''.setN i)
      | rt y ρ'' => exact fun G σ'' H'' v g S'' => q _ (show P (.rt y ρ'') from p) G σ'' H'' v (ff.trans g) S''
      | ro y ρ'' => exact fun G σ'' H'' a o g S'' => q _ (show P (.ro y ρ'') from p) G σ'' H'' a o (ff.trans g) S''
      | ex W C fld ρ'' => exact fun G σ'' H'' g S'' => q _ (show P (.ex W C fld ρ'') from p) G σ'' H'' (ff.trans g) S''
    cases fld with
    | none =>
      refine ⟨true, h1, fun _ a ha => ?_, fun z => by cases z⟩
      exact h2 a none e F' _ H' _ hX (S'.setV i (x := .xh a none ⟨C, none⟩) (v := .ref a) rfl) (back f)
    | some p =>
      obtain ⟨fl, x⟩ := p
      intro v d r hd
      refine ⟨true, h1, fun _ a ha => ?_, fun z => by cases z⟩
      have A := Al.one (o := HO.xd [(fl, v)]) S'.sub hd
      have S2 := S'.al A
      exact h2 a (some d) e _ _ _ _ hX (S2.setV i (x := .xh a (some d) ⟨C, some (fl, x)⟩) (v := .ref a) ⟨rfl, d, v, rfl, upd_same, r.mono A.f⟩) (back (f.trans A.f))
  | nx ρ' => exact q _ ho
  | bk ρ' => exact q _ ho
  | ct ρ' => exact q _ ho
  | rt y ρ' => exact q _ ho
  | ro y ρ' => exact q _ ho
theorem Sub.xd {F H : Hp} (s : Sub F H) {a : Addr} {fs : List (Str × V)} (h : F a = some (.xd fs)) : H a = some (.xd fs) := by
  rcases s a _ h with e | ⟨⟨w, e⟩ | ⟨w, e⟩, _⟩
  · exact e
  · cases e
  · cases e
theorem ev_xf {a : Addr} {d : Option Addr} {f : Str} {y : PyData} (h : EV ta ρ (.xh a d ⟨C, some (f, y)⟩) ρ1) : EV (tXf a (.ref C) d C f ta) ρ (.d y) ρ1 := fun e F σ H Q S k => h e F σ H _ S fun F' H' v f' S' r => by
  obtain ⟨rfl, dd, w, rfl, e1, r⟩ := r
  exact ⟨rfl, rfl, dd, _, w, rfl, S'.sub.xd e1, by simp [List.lookup], k F' H' w f' S' r⟩
section
variable {P : Program} {w : World} {K : PySem.W.Frag} {mg : Str → Option Value} {base : Heap}
/-- a def that may raise, called by its name -/
def CalX (P : Program) (w : World) (K : PySem.W.Frag) (mg : Str → Option Value) (base : Heap) (k : Nat) (x : Str) (ps : List Str) (sp : Sp) : Prop :=
  ∃ (f : Addr) (fd : FuncData), FnOk P w K mg base (L2.CX P w) k f fd ps sp ∧ mg x = some (.ref f) ∧ PySem.W.keepIn K (.ref f) = true ∧ Binds K fd ps []
theorem calX_mk {x : Str} {s : Stmt} {N ps : List Str} {k : Nat} {sp : Sp} (D : Df K mg x s) (S : FnScope N ps (defScope s)) (len : ∀ vs H Q E, sp vs H Q E → vs.length = ps.length)
    (hb : ∀ (kV doc pm : Value) (an : Option Addr) (cdv ct : Value) (us : List Value), us.length = ps.length → bindArgs (PySem.W.fnOf x x (defArgs s) (defBody s) (defScope s) .none kV doc pm an cdv ct) ⟨us, []⟩ = pure (ps.zip us))
    (hbody : ∀ (f : Addr) (cdv : Value) (A : Around) (outer : List Env) (st : Shared) (H : Hp) (vs : List V) (Q : VK) (E : XK), Room k (A.deeper (PyProof.Rows.envOfC x (defScope s) st.heap.objs.size f cdv)) → sp vs H Q E →
      ∃ t, PSs (cxOf (L2.CX P w) P w K mg base N x (defScope s) f cdv A outer st H E) (defBody s) t ∧ t { nx := fun _ H' => Q .non H', rt := Q } (L2.start N vs) H) : CalX P w K mg base (k + 1) x ps sp := by
  obtain ⟨f, fd, F, hm⟩ := D
  exact ⟨f, fd, F.ok S len fun cdv A outer st H vs Q E hr h => hbody f cdv A outer st H vs Q E hr h, hm, F.kp, F.bindsN hb⟩
end
section
variable {X : Cx} {j k : Nat} {x : Str} {ps : List Str} {sp : Sp} {p pos : Pos} {e : Expr} {es : List Expr} {t : TA} {W : WX}
theorem pe_calX (c : CalX X.prog X.w X.K X.mg X.base k x ps sp) (hr : Room j X.A) (hk : k ≤ j) (tk : Takes X W) (hg : Gl X x) (ha : PA X (e :: es) t) (hdb : (x == ("__debug__" : Str)) = false := by decide)
    (he : starEach (e :: es) X.env = (false, eval e X.env) :: starEach es X.env := by rfl) (hpl : (backTo pos (starEach es X.env)).any (·.1) = false := by rfl) : PE X (.Call (.Name x p) (e :: es) [] pos) (tCallSD sp [] (fun σ cls d H => W cls d σ H) t) := by
  obtain ⟨f, fd, F, hm, kp, b⟩ := c
  exact pe_callSD (E := fun σ cls d H => W cls d σ H) F (hr.mono hk) hg hm kp b .nil (fun σ pins H s e s' I c => tk e s' (XE.of_call I (fun cls d H' h => h) c)) ha hdb he hpl
end
end Pw

set_option Elab.async false
set_option linter.all false
set_option maxRecDepth 100000
/-! What is a map: the mathematics of is_map. -/
namespace Pw
open PySem L2
/-! ### values that can be looked at -/
mutual
def tame : PyData → Bool
  | .none => true
  | .bool _ => true
  | .int _ => true
  | .str x => PyData.strOk x && decide (x.length ≤ 1000)
  | .list xs => decide (xs.length < 100000) && tames xs
  | .tuple xs => decide (xs.length < 100000) && tames xs
  | .dict _ => false
def tames : List PyData → Bool
  | [] => true
  | x :: xs => tame x && tames xs
end
theorem tame_mem : ∀ {xs : List PyData} {x : PyData}, tames xs = true → x ∈ xs → tame x = true
  | a :: xs, x, k, h => by
    simp only [tames, Bool.and_eq_true] at k
    rcases List.mem_cons.mp h with rfl | h
    · exact k.1
    · exact tame_mem k.2 h
theorem depth_mem : ∀ {xs : List PyData} {x : PyData}, x ∈ xs → x.depth ≤ PyData.depthAll xs
  | a :: xs, x, h => by
    rw [PyData.depthAll]
    rcases List.mem_cons.mp h with rfl | h
    · exact Nat.le_max_left _ _
    · exact Nat.le_trans (depth_mem h) (Nat.le_max_right _ _)
mutual
theorem tame_lay : ∀ {d : PyData}, tame d = true → d.canLay0 = true
  | .none, _ => by simp [PyData.canLay0]
  | .bool _, _ => by simp [PyData.canLay0]
  | .int _, _ => by simp [PyData.canLay0]
  | .str x, h => by
    simp only [tame, Bool.and_eq_true] at h
    simp [PyData.canLay0, h.1]
  | .list xs, h => by
    simp only [tame, Bool.and_eq_true] at h
    simp [PyData.canLay0, tames_lay h.2]
  | .tuple xs, h => by
    simp only [tame, Bool.and_eq_true] at h
    simp [PyData.canLay0, tames_lay h.2]
  | .dict _, h => by simp [tame] at h
theorem tames_lay : ∀ {ds : List PyData}, tames ds = true → PyData.canLayAll0 ds = true
  | [], _ => by simp [PyData.canLayAll0]
  | d :: ds, h => by
    simp only [tames, Bool.and_eq_true] at h
    simp [PyData.canLayAll0, tame_lay h.1, tames_lay h.2]
end
mutual
theorem tame_smQ : ∀ {d : PyData}, tame d = true → smQ d = true
  | .none, _ => by simp [smQ]
  | .bool _, _ => by simp [smQ]
  | .int _, _ => by simp [smQ]
  | .str x, h => by simp [smQ]
  | .list xs, h => by
    simp only [tame, Bool.and_eq_true, decide_eq_true_eq] at h
    simp only [smQ, tames_smQ h.2, Bool.and_true, decide_eq_true_eq]; omega
  | .tuple xs, h => by
    simp only [tame, Bool.and_eq_true, decide_eq_true_eq] at h
    simp only [smQ, tames_smQ h.2, Bool.and_true, decide_eq_true_eq]; omega
  | .dict _, h => by simp [tame] at h
theorem tames_smQ : ∀ {ds : List PyData}, tames ds = true → smsQ ds = true
  | [], _ => by simp [smsQ]
  | d :: ds, h => by
    simp only [tames, Bool.and_eq_true] at h
    simp [smsQ, tame_smQ h.1, tames_smQ h.2]
end
mutual
theorem tame_smD : ∀ {d : PyData}, tame d = true → smD d = true
  | .none, _ => by simp [smD]
  | .bool _, _ => by simp [smD]
  | .int _, _ => by simp [smD]
  | .str x, h => by simp [smD]
  | .list xs, h => by simp [smD]
  | .tuple xs, h => by
    simp only [tame, Bool.and_eq_true, decide_eq_true_eq] at h
    simp only [smD, tames_smD h.2, Bool.and_true, decide_eq_true_eq]; omega
  | .dict _, h => by simp [tame] at h
theorem tames_smD : ∀ {ds : List PyData}, tames ds = true → smsD ds = true
  | [], _ => by simp [smsD]
  | d :: ds, h => by
    simp only [tames, Bool.and_eq_true] at h
    simp [smsD, tame_smD h.1, tames_smD h.2]
end
mutual
theorem depQ_le : ∀ d : PyData, depQ d ≤ d.depth
  | .none => by simp [depQ]
  | .bool _ => by simp [depQ]
  | .int _ => by simp [depQ]
  | .str _ => by simp [depQ]
  | .list xs => by simp only [depQ, PyData.depth]; have := depsQ_le xs; omega
  | .tuple xs => by simp only [depQ, PyData.depth]; have := depsQ_le xs; omega
  | .dict _ => by simp [depQ]
theorem depsQ_le : ∀ ds : List PyData, depsQ ds ≤ PyData.depthAll ds
  | [] => by simp [depsQ]
  | d :: ds => by simp only [depsQ, PyData.depthAll]; have := depsQ_le ds; have := depQ_le d; omega
end
mutual
theorem depD_le : ∀ d : PyData, depD d ≤ d.depth
  | .none => by simp [depD]
  | .bool _ => by simp [depD]
  | .int _ => by simp [depD]
  | .str _ => by simp [depD]
  | .list xs => by simp [depD]
  | .tuple xs => by simp only [depD, PyData.depth]; have := depsD_le xs; omega
  | .dict _ => by simp [depD]
theorem depsD_le : ∀ ds : List PyData, depsD ds ≤ PyData.depthAll ds
  | [] => by simp [depsD]
  | d :: ds => by simp only [depsD, PyData.depthAll]; have := depsD_le ds; have := depD_le d; omega
end
/-- a value that can be looked at, at most n deep -/
def Nice (n : Nat) (d : PyData) : Prop := tame d = true ∧ d.depth ≤ n
theorem Nice.mono {n m : Nat} {d : PyData} (h : Nice n d) (l : n ≤ m) : Nice m d := ⟨h.1, Nat.le_trans h.2 l⟩
theorem Nice.part {n : Nat} {v : PyData} {ds : List PyData} (h : Nice n v) (e : seqOf v = some ds) {d : PyData} (hd : d ∈ ds) : Nice n d := by
  cases v <;> first | (cases e; done) | skip
  all_goals
    cases e
    have h1 := h.1
    have h2 := h.2
    simp only [tame, Bool.and_eq_true, PyData.depth] at h1 h2
    exact ⟨tame_mem h1.2 hd, by have := depth_mem hd; omega⟩
theorem Nice.none {n : Nat} : Nice n .none := ⟨rfl, by simp [PyData.depth]⟩
theorem Nice.partD {n : Nat} {v : PyData} (h : Nice n v) (i : Nat) : Nice n (partD v i) := by
  cases e : seqOf v with
  | none => simp [Pw.partD, partsD, e]; exact .none
  | some ds =>
    simp only [Pw.partD, partsD, e, Option.getD_some]
    rw [List.getD_eq_getElem?_getD]
    cases z : ds[i]? with
    | none => exact .none
    | some d => exact h.part e (List.mem_of_getElem? z)
theorem Nice.at0 {n : Nat} {v : PyData} (h : Nice n v) : Nice n (at0 v) := h.partD 0
theorem Nice.shaped {n : Nat} {v : PyData} (h : Nice n v) (l : n ≤ 64) : SeqAt.shaped v = true := by
  unfold SeqAt.shaped
  rw [tame_lay h.1, decide_eq_true (Nat.le_trans h.2 l)]; rfl
theorem Nice.smS {n : Nat} {v : PyData} (h : Nice n v) : smS v := by
  cases v <;> first | trivial | skip
  have h1 := h.1
  simp only [tame, Bool.and_eq_true, decide_eq_true_eq] at h1
  show _ ≤ sizeLine
  rw [PySem.sizeLine_eq]; omega
/-! ### different names -/
def nm (d : PyData) : Str := match at0 d with
  | .str z => z
  | _ => ⟨#[]⟩
def difZ (v : PyData) : Bool := decide (((partsD v).map nm).Nodup)
def gDif (a y : PyData) : Prop := ∃ ds, seqOf a = some ds ∧ ds.length ≤ 16 ∧ (∀ d ∈ ds, ∃ es z, seqOf d = some es ∧ es[0]? = some (.str z)) ∧ y = .bool (difZ a)
theorem nm_of {d : PyData} {es : List PyData} {z : Str} (h : seqOf d = some es) (e : es[0]? = some (.str z)) : nm d = z := by
  simp [nm, at0, h, List.getD_eq_getElem?_getD, e]
/-! ### maps -/
def cntZ (v : PyData) : Int := ((partsD v).map fun l => ((partsD (partD l 3)).length : Int)).sum
def namesZ (v : PyData) : List Str := (partsD v).map nm
def mapZ (v : PyData) : Bool := rowZ v 3 && ((colZ (partD v 0) 16 && (partsD (partD v 0)).all fun d => nodeZ d 1000000000) && ((colZ (partD v 2) 10 && (partsD (partD v 2)).all fun d => markZ d 1000000000 1000000) &&
  ((colZ (partD v 1) 16 && (partsD (partD v 1)).all fun d => lineZ d (namesZ (partD v 0)) 1000000000) && (decide (cntZ (partD v 1) ≤ 60) && (difZ (partD v 0) && (difZ (partD v 1) && difZ (partD v 2)))))))
def gMap (a y : PyData) : Prop := Nice 9 a ∧ y = .bool (mapZ a)
theorem name_str {d : PyData} (h : nameZ d = true) : ∃ z, d = .str z := by
  cases d <;> first | (cases h; done) | exact ⟨_, rfl⟩
theorem row_name {d : PyData} {n : Nat} (h : rowZ d (n + 1 : Nat) = true) (h2 : nameZ (at0 d) = true) : ∃ es z, seqOf d = some es ∧ es[0]? = some (.str z) := by
  obtain ⟨es, e, hl⟩ := row_seq h
  obtain ⟨z, hz⟩ := name_str h2
  refine ⟨es, z, e, ?_⟩
  have : 0 < es.length := by omega
  simp [at0, e, List.getD_eq_getElem?_getD, this] at hz
  simp [this, hz]
theorem node_name {d : PyData} {f : Int} (h : nodeZ d f = true) : ∃ es z, seqOf d = some es ∧ es[0]? = some (.str z) := by
  simp only [nodeZ, Bool.and_eq_true] at h
  exact row_name (n := 2) h.1 h.2.1
theorem mark_name {d : PyData} {f l : Int} (h : markZ d f l = true) : ∃ es z, seqOf d = some es ∧ es[0]? = some (.str z) := by
  simp only [markZ, Bool.and_eq_true] at h
  exact row_name (n := 4) h.1 h.2.1
theorem line_name {d : PyData} {ns : List Str} {f : Int} (h : lineZ d ns f = true) : ∃ es z, seqOf d = some es ∧ es[0]? = some (.str z) := by
  simp only [lineZ, Bool.and_eq_true] at h
  exact row_name (n := 3) h.1 h.2.1
theorem shaped_names {zs : List Str} (h : ∀ z ∈ zs, tame (.str z) = true) : SeqAt.shaped (.list (zs.map .str)) = true := by
  have key : ∀ zs : List Str, (∀ z ∈ zs, tame (.str z) = true) → PyData.canLayAll0 (zs.map .str) = true ∧ PyData.depthAll (zs.map .str) = 0 := by
    intro zs
    induction zs with
    | nil => intro _; simp [PyData.canLayAll0, PyData.depthAll]
    | cons z zs ih =>
      intro h
      obtain ⟨a, b⟩ := ih fun y hy => h y (List.mem_cons_of_mem _ hy)
      have := tame_lay (h z List.mem_cons_self)
      simp [PyData.canLayAll0, PyData.depthAll, a, b, this, PyData.depth]
  obtain ⟨a, b⟩ := key zs h
  unfold SeqAt.shaped
  simp [PyData.canLay0, a, PyData.depth, b]
end Pw

set_option Elab.async false
set_option linter.all false
set_option maxRecDepth 100000
/-! Dict comprehensions over data; the star in a tuple. -/
namespace Pw
open PySem L2
variable {ρ ρ1 ρ2 : List Slot} {ta tb : TE}
def dictOf {α : Type} (zs : List α) (key : α → Key) (f : α → PyData) : List (Key × PyData) := zs.foldl (fun acc z => putD acc (key z) (f z)) []
theorem dictOf_snoc {α : Type} (zs : List α) (z : α) (key : α → Key) (f : α → PyData) : dictOf (zs ++ [z]) key f = putD (dictOf zs key f) (key z) (f z) := by
  unfold dictOf
  rw [List.foldl_append]
  rfl
theorem putD_len (kvs : List (Key × PyData)) (k : Key) (d : PyData) : (putD kvs k d).length ≤ kvs.length + 1 := by
  unfold putD
  split <;> simp
theorem dictOf_len {α : Type} (key : α → Key) (f : α → PyData) : ∀ n (zs : List α), zs.length = n → (dictOf zs key f).length ≤ n := by
  intro n
  induction n with
  | zero => intro zs h; cases zs with
    | nil => simp [dictOf]
    | cons _ _ => simp at h
  | succ n ih =>
    intro zs h
    have hne : zs ≠ [] := fun z => by subst z; simp at h
    rw [← List.dropLast_concat_getLast hne, dictOf_snoc]
    have := ih zs.dropLast (by simp [h])
    have := putD_len (dictOf zs.dropLast key f) (key (zs.getLast hne)) (f (zs.getLast hne))
    omega
theorem putD_new {kvs : List (Key × PyData)} {k : Key} (d : PyData) (h : k ∉ kvs.map (·.1)) : putD kvs k d = kvs ++ [(k, d)] := by
  unfold putD
  rw [if_neg]
  intro z
  rw [List.any_eq_true] at z
  obtain ⟨p, hp, e⟩ := z
  exact h (List.mem_map.mpr ⟨p, hp, by simpa using e⟩)
theorem dictOf_map {α : Type} (key : α → Key) (f : α → PyData) : ∀ n (zs : List α), zs.length = n → (zs.map key).Nodup → dictOf zs key f = zs.map fun z => (key z, f z) := by
  intro n
  induction n with
  | zero => intro zs h _; cases zs with
    | nil => simp [dictOf]
    | cons _ _ => simp at h
  | succ n ih =>
    intro zs h nd
    have hne : zs ≠ [] := fun z => by subst z; simp at h
    have e := List.dropLast_concat_getLast hne
    rw [← e] at nd ⊢
    rw [List.map_append, List.nodup_append] at nd
    rw [dictOf_snoc, ih zs.dropLast (by simp [h]) nd.1, putD_new, List.map_append]
    · rfl
    · rw [List.map_map]
      intro hm
      obtain ⟨y, hy, ey⟩ := List.mem_map.mp hm
      exact nd.2.2 _ (List.mem_map.mpr ⟨y, hy, ey⟩) _ (by simp) rfl
theorem eo_dc {α : Type} {wi : TI} {g : TG} {tk tv : TE} {vs is : List Nat} (zs : List α) (inj : α → Val) (key : α → Key) (f : α → PyData) (ys : α → List Val) (hi : EI wi ρ (zs.map inj) ρ1) (hsub : ∀ i ∈ is, i ∈ vs)
    (hv : ∀ j ∈ vs, ∀ l c, ρ1[j]? ≠ some (.own l c)) (hz : zs.length < sizeLine)
    (hs : ∀ z ∈ zs, GT g is (inj z) (ys z) ∧ EV tk (setsR (wipeR ρ1 vs) is (ys z)) (.d (keyD (key z))) (setsR (wipeR ρ1 vs) is (ys z)) ∧ EV tv (setsR (wipeR ρ1 vs) is (ys z)) (.d (f z)) (setsR (wipeR ρ1 vs) is (ys z))) :
    EO (tDc wi g tYes tk tv vs) ρ (.dk (dictOf zs key f)) ρ1 := fun e F σ H Q S k =>
  hi e F σ H _ S fun F1 H1 J f1 S1 si B hB => by
    have hl : (zs.map inj).length = zs.length := List.length_map ..
    have hb0 : e.H0 B = none := S1.h0 hB
    have nown : ∀ (j : Nat) l c, ρ1[j]? = some (.own l c) → σ[j]? ≠ some (some (.ref B)) := S1.fresh hB
    have cnt : ∀ i, (dictOf (zs.take i) key f).length ≤ zs.length := fun i => by
      have := dictOf_len key f _ (zs.take i) rfl
      rw [List.length_take] at this
      omega
    refine ⟨fun i m G => m = zs.length - i ∧ i ≤ zs.length ∧ ∃ F' ws, FSub F1 F' ∧ Sta e F' ρ1 σ G ∧ F' B = none ∧ G B = some (.dK ws) ∧ KRp F' ws (dictOf (zs.take i) key f), ?_, ?_⟩
    · exact ⟨zs.length, by simp, Nat.zero_le _, F1, [], .rfl, S1.alloc hB, S1.sub.none hB, upd_same, .nil⟩
    · rintro i m G ⟨rfl, hle, F2, ws, f2, S2, hF2, hG, hK⟩
      by_cases hlt : i < zs.length
      · refine .inr ⟨si.go F2 G i f2 S2.sub trivial (by rw [hl]; exact hlt), fun G' => ∃ F' ws, FSub F1 F' ∧ Sta e F' ρ1 σ G' ∧ F' B = none ∧ G' B = some (.dK ws) ∧ KRp F' ws (dictOf (zs.take (i + 1)) key f),
          fun G' q => ⟨zs.length - (i + 1), by omega, rfl, hlt, q⟩, fun v G' y => ?_⟩
        obtain ⟨F3, xx, A, hx, rx⟩ := si.yld F2 G i v G' f2 S2.sub trivial y (by rw [hl]; exact hlt)
        have hzi : zs[i]? = some zs[i] := by simp [hlt]
        rw [List.getElem?_map, hzi] at hx
        cases hx
        obtain ⟨hg, hk, he⟩ := hs zs[i] (List.getElem_mem hlt)
        have S3 := S2.al A
        have hF3 : F3 B = none := by
          cases q : F3 B with
          | none => rfl
          | some o => rcases A.new B (by rw [q]; simp) with z | z
                      · exact absurd hF2 z
                      · rw [hG] at z; cases z
        have WW : Sta e F3 (wipeR ρ1 vs) (L2.wipe σ vs) G' := S3.wipe vs
        have W1 := WW.enter
        refine hg F3 G' v _ (wipe σ vs) S3.sub rx fun us rw' hwl => ⟨wipe_sets hsub, ?_⟩
        have W2 : Sta WW.sub_en F3 (setsR (wipeR ρ1 vs) is (ys zs[i])) (sets (L2.wipe σ vs) is us) G' := W1.sets rw'
        unfold tYes
        dsimp only
        rw [if_pos rfl]
        refine hk WW.sub_en F3 _ G' _ W2 fun F4 G4 y4 f4 S4 r4 => ?_
        refine he WW.sub_en F4 _ G4 _ S4 fun F5 G5 u f5 S5 ru => ?_
        have ru : Rp F5 u (f zs[i]) := ru
        have r4 : Rp F4 y4 (keyD (key zs[i])) := r4
        have hB' : G' B = some (.dK ws) := A.h _ _ hG
        have hσ : ∀ j, j ∉ vs → (sets (L2.wipe σ vs) is us)[j]? = σ[j]? := fun j hj => by
          rw [sets_get (fun q => hj (hsub j q)), wipe_get hj]
        have hfw : ∀ (j : Nat) l c', (wipeR ρ1 vs)[j]? = some (.own l c') → (L2.wipe σ vs)[j]? ≠ some (some (.ref B)) := fun j l c' h => by
          by_cases z : j ∈ vs
          · rw [wipe_in z]; split <;> simp
          · rw [wipe_get z]; rw [wipeR_get z] at h; exact nown j l c' h
        have T2 := WW.leave S5
        obtain ⟨g1, g2⟩ := WW.apart S5 hB' hb0 hfw
        have T3 : Sta e F5 ρ1 σ G5 := S3.unwipe (vs := vs) T2 (f4.trans f5) hσ hv rfl (fun j hj => rfl) (fun j hj => by
          rw [setsR_get (fun q => hj (hsub j q)), wipeR_get hj])
        have tk : zs.take (i + 1) = zs.take i ++ [zs[i]] := by rw [List.take_add_one, hzi]; rfl
        have f15 : FSub F2 F5 := (A.f.trans f4).trans f5
        refine ⟨ws, key zs[i], key_rp r4, g1, by rw [hK.length]; exact Nat.lt_of_le_of_lt (cnt i) hz, F5, _, f2.trans f15, T3.swap (g2 hF3) hb0 nown, g2 hF3, upd_same, ?_⟩
        rw [tk, dictOf_snoc]
        exact KRp.put ru (hK.mono f15)
      · have e' : i = zs.length := by omega
        subst e'
        refine .inl ⟨si.stop F2 G _ f2 S2.sub trivial (by rw [hl]; exact Nat.le_refl _), ?_⟩
        rw [List.take_length] at hK
        exact k F2 G B _ (f1.trans f2) S2 hF2 hG ⟨ws, rfl, hK⟩ hb0 nown
end Pw

set_option Elab.async false
set_option linter.all false
set_option maxRecDepth 100000
/-! A star in a tuple, enumerate over a tuple, min and max of texts, or of values. -/
namespace Pw
open PySem L2
variable {ρ ρ1 ρ2 : List Slot} {ta tb : TE} {x : Val} {K : PySem.W.Frag}
theorem srcs_app {F : Hp} {σ : L2.St} : ∀ {ds : List PyData} {vs : List V} {ss : List Src} {ws : List V}, RpAll F vs ds → Srcs F σ ss ws → Srcs F σ ((ds.map fun d => Src.d (.d d)) ++ ss) (vs ++ ws)
  | _, _, _, _, .nil, s => s
  | _, _, _, _, .cons r t, s => .cons r (srcs_app t s)
theorem ea_star {t : TA} {ds : List PyData} {ss : List Src} (h1 : EV ta ρ (.d (.tuple ds)) ρ1) (h2 : EA t ρ1 ss ρ2) : EA (StX.tStar K ta t) ρ ((ds.map fun d => Src.d (.d d)) ++ ss) ρ2 := fun e F σ H Q S k =>
  h1 e F σ H _ S fun F1 H1 v f1 S1 r1 => by
    cases r1 with
    | tup q r =>
      exact ⟨_, _, rfl, .inl (SqT.of (S1.sub.tup q)), h2 e F1 σ H1 _ S1 fun F2 H2 ws f2 S2 r2 => k F2 H2 _ (f1.trans f2) S2 (srcs_app (r.mono f2) r2)⟩
theorem cd_maxS {a b : Str} : CallD PwB.rMaxS [.str a, .str b] (.str (if a.cps.toList < b.cps.toList then b else a)) := fun F H Q vs S r k => by
  cases r with
  | cons r t => cases t with
    | cons q t =>
      cases t; cases r; cases q
      exact ⟨a, b, rfl, k F H _ (.rfl S) (.str _)⟩
theorem cd_minS {a b : Str} : CallD PwB.rMinS [.str a, .str b] (.str (if b.cps.toList < a.cps.toList then b else a)) := fun F H Q vs S r k => by
  cases r with
  | cons r t => cases t with
    | cons q t =>
      cases t; cases r; cases q
      exact ⟨a, b, rfl, k F H _ (.rfl S) (.str _)⟩
/-- the pairs that enumerate gives -/
def enumD (ds : List PyData) : List PyData := (List.range ds.length).map fun i => .tuple [.int (i : Nat), ds.getD i .none]
theorem si_enumT {F : Hp} {a : Addr} {vs : List V} {ds : List PyData} (e : F a = some (.tup vs)) (r : RpAll F vs ds) : SI (PwB.IteT K a) F C0 ((enumD ds).map .d) where
  go := fun F' H i f S c h => by
    rw [List.length_map, enumD, List.length_map, List.length_range] at h
    have hl : i < vs.length := by rw [r.length]; exact h
    exact ⟨vs, vs[i], SqT.of (S.tup (f _ _ e)), by simp [hl]⟩
  stop := fun F' H i f S c h => by
    rw [List.length_map, enumD, List.length_map, List.length_range] at h
    exact ⟨vs, SqT.of (S.tup (f _ _ e)), by rw [r.length]; exact h⟩
  yld := fun F' H i v H' f S c y h => by
    rw [List.length_map, enumD, List.length_map, List.length_range] at h
    obtain ⟨T, x, rfl, hT, rfl, y⟩ := y
    have hx := y vs (SqT.of (S.tup (f _ _ e)))
    obtain ⟨d, hd, rd⟩ := (r.mono f).get hx
    have A := Al.one (o := .tup [.int (i : Nat), x]) S hT
    refine ⟨_, .d (.tuple [.int (i : Nat), d]), A, ?_, Rp.tup upd_same (.cons (.int _) (.cons (rd.mono A.f) .nil))⟩
    rw [List.getElem?_map, enumD, List.getElem?_map, List.getElem?_range h]
    simp [List.getD_eq_getElem?_getD, hd]
theorem ei_enumT {ds : List PyData} (h : EV ta ρ (.d (.tuple ds)) ρ1) : EI (PwB.iEnumT K (tCons ta tNil)) ρ ((enumD ds).map .d) ρ1 := fun e F σ H R S k => h e F σ H _ S fun F' H' v f S' r => by
  cases r with
  | tup q r => exact ⟨_, _, rfl, SqT.of (S'.sub.tup q), k F' H' _ f S' (si_enumT q r)⟩
/-- or of values that are None or a tuple that is not empty -/
def truD : PyData → Option Bool
  | .none => some false
  | .bool b => some b
  | .tuple (_ :: _) => some true
  | _ => none
theorem tru_rp {F H : Hp} {v : V} {d : PyData} {b : Bool} (S : Sub F H) (r : Rp F v d) (h : truD d = some b) : TruV K v H b := by
  cases r with
  | non => cases h; exact rfl
  | bl c => cases h; exact rfl
  | int i => cases h
  | str s => cases h
  | lst _ _ => cases h
  | tup q r =>
    rename_i a xs ds
    cases ds with
    | nil => cases h
    | cons d ds =>
      cases h
      cases r with
      | cons r t => exact .inr (.inl ⟨_, SqT.of (S.tup q), rfl⟩)
theorem ev_orT {a b : PyData} {p : Bool} (h1 : EV ta ρ (.d a) ρ) (hp : truD a = some p) (h2 : p = false → EV tb ρ (.d b) ρ) : EV (tOrT K ta tb) ρ (.d (if p = true then a else b)) ρ := fun e F σ H Q S k => h1 e F σ H _ S fun F' H' v f S' r => by
  refine ⟨p, tru_rp S'.sub r hp, ?_⟩
  cases p with
  | true => rw [if_pos rfl]; rw [if_pos rfl] at k; exact k F' H' v f S' r
  | false => rw [if_neg (by decide)]; rw [if_neg (by decide)] at k; exact h2 rfl e F' σ H' Q S' fun F2 H2 w f2 S2 r2 => k F2 H2 w (f.trans f2) S2 r2
theorem pe_orTK {X : Cx} {a b : Expr} {rest : List Expr} {ta tb : TE} {pos : Pos} (K : PySem.W.Frag) (ha : PE X a ta) (hb : PE X (.BoolOp .Or (b :: rest) pos) tb) (h : X.K = K := by rfl) : PE X (.BoolOp .Or (a :: b :: rest) pos) (tOrT K ta tb) := h ▸ pe_orT ha hb
theorem pa_starK {X : Cx} {e : Expr} {es : List Expr} {te : TE} {t : TA} {p : Pos} (K : PySem.W.Frag) (he : PE X e te) (hr : PA X es t) (h : X.K = K := by rfl) (hs : starEach (.Starred e p :: es) X.env = (true, eval e X.env) :: starEach es X.env := by rfl) : PA X (.Starred e p :: es) (StX.tStar K te t) := h ▸ StX.pa_star he hr hs
end Pw

set_option Elab.async false
set_option linter.all false
set_option maxRecDepth 100000
set_option maxHeartbeats 2000000
/-! itertools.combinations of two over a list. -/
namespace PySem
namespace PwC
open Sem (wp)
open Builtin Builtin.Itertools

theorem ownC : Manifest.owners.lookup (String.ofList ['s', 'n', 'o', 'i', 't', 'a', 'n', 'i', 'b', 'm', 'o', 'c', '.', 's', 'l', 'o', 'o', 't', 'r', 'e', 't', 'i'].reverse) = some Manifest.sig_itertools_combinations := by kernel_rfl
theorem mroC : mroOf (.type "itertools.combinations") = pure [.type "itertools.combinations", .type "object"] := by rw [mroOf_type]; kernel_rfl
theorem newC : typeLookup (.type "itertools.combinations") "__new__" = pure (some (.builtin "itertools.combinations.__new__")) := by rw [typeLookup_type, builtinLookup_eq_fast]; kernel_rfl
theorem initC : Slot "itertools.combinations" "__init__" "object.__init__" := .of (owner := "object") (n := "__init__") (by rw [typeLookup_type, builtinLookup_eq_fast]; kernel_rfl) (by decide +kernel) (by decide +kernel) (by decide +kernel) (by first | exact .inl (by decide +kernel) | exact .inr (by decide +kernel)) (by rw [isSubtype_type]; kernel_rfl)
theorem iterC : Slot "itertools.combinations" "__iter__" "itertools.combinations.__iter__" := .of (owner := "itertools.combinations") (n := "__iter__") (by rw [typeLookup_type, builtinLookup_eq_fast]; kernel_rfl) (by decide +kernel) (by decide +kernel) (by decide +kernel) (by first | exact .inl (by decide +kernel) | exact .inr (by decide +kernel)) (by rw [isSubtype_type]; kernel_rfl)
theorem nextC : Slot "itertools.combinations" "__next__" "itertools.combinations.__next__" := .of (owner := "itertools.combinations") (n := "__next__") (by rw [typeLookup_type, builtinLookup_eq_fast]; kernel_rfl) (by decide +kernel) (by decide +kernel) (by decide +kernel) (by first | exact .inl (by decide +kernel) | exact .inr (by decide +kernel)) (by rw [isSubtype_type]; kernel_rfl)
theorem calledC : TypeCalled "itertools.combinations" "itertools.combinations.__new__" "object.__init__" := ⟨by decide +kernel, by decide +kernel, ⟨_, _, mroC⟩, madeBy_type mroC newC (by decide +kernel), by decide +kernel, by rw [isSubtype_type]; kernel_rfl, initC⟩
theorem typeCallC (a b : Value) : checkTypeCall "itertools.combinations" ⟨[a, b], []⟩ = pure () := by kernel_rfl
theorem newCallC (a b : Value) : checkBuiltinCall "itertools.combinations.__new__" ⟨[.type "itertools.combinations", a, b], []⟩ = pure () := by kernel_rfl
theorem entryNew : entryFor table "itertools.combinations.__new__" = some Builtin.«itertools.combinations.__new__» := entryFor_of_tree (by kernel_rfl)
theorem entryNext : entryFor table "itertools.combinations.__next__" = some Builtin.«itertools.combinations.__next__» := entryFor_of_tree (by kernel_rfl)
theorem entryIter : entryFor table "itertools.combinations.__iter__" = some Builtin.«dict_keyiterator.__iter__» := entryFor_alias (id' := "dict_keyiterator.__iter__") (by kernel_rfl) (by first | rfl | decide +kernel | (unfold String.splitOn; simp +decide [String.splitOnAux])) (by decide +kernel) (by kernel_rfl)
theorem argsNext (a : Value) : argsOk "itertools.combinations.__next__" ⟨[a], []⟩ := by
  unfold argsOk; rw [signature?_of (id := "itertools.combinations.__next__") (n := ['_', '_', 't', 'x', 'e', 'n', '_', '_']) (o := ['s', 'n', 'o', 'i', 't', 'a', 'n', 'i', 'b', 'm', 'o', 'c', '.', 's', 'l', 'o', 'o', 't', 'r', 'e', 't', 'i']) (by kernel_rfl) ownC]; kernel_rfl
theorem argsIter (a : Value) : argsOk "itertools.combinations.__iter__" ⟨[a], []⟩ := by
  unfold argsOk; rw [signature?_of (id := "itertools.combinations.__iter__") (n := ['_', '_', 'r', 'e', 't', 'i', '_', '_']) (o := ['s', 'n', 'o', 'i', 't', 'a', 'n', 'i', 'b', 'm', 'o', 'c', '.', 's', 'l', 'o', 'o', 't', 'r', 'e', 't', 'i']) (by kernel_rfl) ownC]; kernel_rfl
end PwC
end PySem

set_option Elab.async false
set_option linter.all false
set_option maxRecDepth 100000
set_option maxHeartbeats 2000000
namespace PySem
namespace PwC
open Sem (wp)
open Builtin Builtin.Itertools
open AutoSeq1 (wpAny_loadPart')
def poolO (items : Array Value) : Obj := { cls := .type "tuple", data := .seq items }
def recO (p : Addr) (st : Int) (last : Value) (a b : Nat) : Obj := { cls := .type "itertools.combinations", data := .fields #[.ref p, rawInt st, last, rawInt a, rawInt b] }
theorem madeC (l : Addr) (o : Obj) (items : Array Value) (n : Nat) (t : Tok) :
    Meets (Builtin.«itertools.combinations.__new__» ⟨[.type "itertools.combinations", .ref l, .int 2 t], []⟩) (fun _ R s => s.heap.get? l = some o ∧ o.cls = .type "list" ∧ o.data = .seq items n ∧ items.size ≤ sizeLine ∧
      ∀ h' : Heap, (∀ b o', s.heap.get? b = some o' → h'.get? b = some o') → R (.ok (.ret (.ref (h'.objs.size + 1)))) { s with heap := (h'.push (poolO items)).push (recO h'.objs.size (if 2 > items.size then 2 else 0) .none 0 1) }) :=
  .of_wp fun prog w A R s h => by
    obtain ⟨ho, hc, hd, hz, h⟩ := h
    wp_walk using wpAny_collect_seq l (.inl rfl) ho hc hd
    have eT : ("itertools." ++ "combinations" : String) = "itertools.combinations" := by decide +kernel
    rw [eT]
    have isSub : isSubtype (.type "itertools.combinations") (.type "itertools.combinations") = pure true := by rw [isSubtype_type]; kernel_rfl
    rw [isSub]
    wp_walk using wpAny_collect_seq l (.inl rfl) ho hc hd
    intro h' kept
    dsimp only
    rw [if_neg (show ¬ ((2 : Int) < 0) by decide), if_neg (show ¬ (itTooMany 2 = true) by decide)]
    wp_walk
    have e1 : items.toList.toArray = items := by simp
    have e2 : items.toList.length = items.size := Array.length_toList
    dsimp only
    rw [e1, e2]
    refine ⟨_, rfl, ?_⟩
    have z := h h' kept
    rw [show (h'.push { cls := Value.type "tuple", data := Data.seq items }).objs.size = h'.objs.size + 1 from Heap.size_push ..]
    exact z

section
variable {prog : Program} {w : World} {A : Around} {E : Value → Shared → Prop} {s : Shared}
theorem call_comb {l : Addr} {o : Obj} {items : Array Value} {n : Nat} {t : Tok} {Q : Value → Shared → Prop} (ho : s.heap.get? l = some o) (hc : o.cls = .type "list") (hd : o.data = .seq items n) (hz : items.size ≤ sizeLine)
    (h : ∀ h' : Heap, (∀ (b : Addr) (o' : Obj), s.heap.get? b = some o' → h'.get? b = some o') → Q (.ref (h'.objs.size + 1)) { s with heap := (h'.push (poolO items)).push (recO h'.objs.size (if 2 > items.size then 2 else 0) .none 0 1) }) :
    wpAny (model prog w) A (call (.type "itertools.combinations") [.ref l, .int 2 t]) Q E s := by
  refine callType_new calledC (by decide) (typeCallC _ _) (newCallC _ _) (fun obj => F.args_object_init_3 obj _ _) entryNew (madeC l o items n t) ⟨ho, hc, hd, hz, fun h' kept => ?_⟩
  refine ⟨⟨_, Heap.get?_push_at (by rw [Heap.size_push]) rfl, rfl⟩, h h' kept⟩
theorem iter_comb {e p : Addr} {st : Int} {last : Value} {a b : Nat} {Q : Value → Shared → Prop} (he : s.heap.get? e = some (recO p st last a b)) (h : Q (.ref e) s) : wpAny (model prog w) A (pyIter (.ref e)) Q E s := by
  have hT : s.TypeIs (.ref e) "itertools.combinations" := ⟨_, he, rfl⟩
  refine wpAny_pyIter_slot hT iterC (wpAny_call_entry iterC hT entryIter ?_ (argsIter _))
  show wpAny _ _ (ret (.ref e)) _ _ s
  exact wpAny_pure ⟨_, rfl, "itertools.combinations", _, hT, nextC.lookup, h⟩
theorem numbers {e p : Addr} {st : Int} {last : Value} {a b : Nat} {Q : List Nat → Shared → Prop} (he : s.heap.get? e = some (recO p st last a b)) (h : Q [a, b] s) : wpAny (model prog w) A (itNumbersFrom (.ref e) 3) Q E s := by
  unfold itNumbersFrom
  refine wpAny_bind (wpAny_load he ?_)
  exact wpAny_pure h
theorem stateOf {e p : Addr} {st : Int} {last : Value} {a b : Nat} {Q : Int → Shared → Prop} (he : s.heap.get? e = some (recO p st last a b)) (h : Q st s) : wpAny (model prog w) A (itIntField (.ref e) 1) Q E s := by
  unfold itIntField
  refine wpAny_bind (wpAny_field he rfl (x := rawInt st) rfl ?_)
  exact wpAny_pure h
theorem setAt {e p : Addr} {st : Int} {last : Value} {a b : Nat} {i : Nat} {v : Value} {o' : Obj} {Q : Unit → Shared → Prop} (he : s.heap.get? e = some (recO p st last a b)) (hi : i < 5) (ho : Obj.mapFields (·.setIfInBounds i v) (recO p st last a b) = o') (hf : o'.isFreed = false)
    (h : ∀ h' : Heap, h'.get? e = some o' → h'.objs.size = s.heap.objs.size → (∀ c, c ≠ e → h'.get? c = s.heap.get? c) → Q () { s with heap := h' }) : wpAny (model prog w) A (setField (.ref e) i v) Q E s := by
  refine wpAny_setField he rfl hi (h _ ?_ ?_ fun c hc => ?_)
  · rw [Heap.get?_update_self _ he (by rw [ho]; exact hf), ho]
  · exact Heap.size_update ..
  · exact Heap.get?_update_other _ _ (Ne.symm hc)
end
end PwC
end PySem

set_option Elab.async false
set_option linter.all false
set_option maxRecDepth 100000
set_option maxHeartbeats 2000000
namespace PySem
namespace PwC
open Sem (wp)
open Builtin Builtin.Itertools
open AutoSeq1 (wpAny_loadPart')
section
variable {prog : Program} {w : World} {A : Around} {E : Value → Shared → Prop} {s : Shared}
theorem pool {p : Addr} {items : Array Value} {Q : Array Value → Shared → Prop} (hp : s.heap.get? p = some (poolO items)) (h : Q items s) : wpAny (model prog w) A (itPoolItems (.ref p)) Q E s := by
  unfold itPoolItems
  refine wpAny_bind (wpAny_mono (show wpAny (model prog w) A (seqItems? (.ref p)) (fun r s' => r = some items ∧ s' = s) E s from ?_) (fun r s' hr => ?_) fun _ _ x => x)
  · wp_walk using wpAny_loadPart' hp
    exact ⟨rfl, rfl⟩
  · obtain ⟨rfl, rfl⟩ := hr
    exact wpAny_pure h
theorem hand {e p : Addr} {last : Value} {a b : Nat} {items : Array Value} {R : Fin → Shared → Prop} (he : s.heap.get? e = some (recO p 1 last a b)) (hp : s.heap.get? p = some (poolO items)) (hep : e ≠ p)
    (h : ∀ h' : Heap, h'.get? s.heap.objs.size = some { cls := .type "tuple", data := .seq #[items.getD a .none, items.getD b .none] } → h'.get? e = some (recO p 1 (.ref s.heap.objs.size) a b) → (∀ c o, c ≠ e → s.heap.get? c = some o → h'.get? c = some o) →
      h'.objs.size = s.heap.objs.size + 1 → R (.done (.ret (.ref s.heap.objs.size))) { s with heap := h' }) :
    wpAny (model prog w) A ((itPoolItems (.ref p) >>= fun its => newTuple ([a, b].map fun i => its.getD i .none)) >>= fun result => field (.ref e) 2 >>= fun before => setField (.ref e) 2 result >>= fun _ => letGo [before] [result] >>= fun _ => ret result) R E s := by
  refine wpAny_bind (wpAny_bind (pool hp ?_))
  refine wpAny_newObj_type ?_
  have lte : e < s.heap.objs.size := Heap.lt_size he
  have he2 := Heap.get?_push_of_some { cls := .type "tuple", data := .seq ([a, b].map fun i => items.getD i .none).toArray } he
  refine wpAny_bind (wpAny_field he2 rfl (x := last) rfl ?_)
  refine wpAny_bind (setAt he2 (i := 2) (by decide) (o' := recO p 1 (.ref s.heap.objs.size) a b) rfl rfl fun h' g1 g2 g3 => ?_)
  refine wpAny_bind (wpAny_letGo ?_)
  refine wpAny_pure (h h' ?_ g1 (fun c o hc ho => ?_) ?_)
  · rw [g3 _ (Nat.ne_of_gt lte)]
    exact Heap.get?_push_size _ rfl
  · rw [g3 c hc]
    exact Heap.get?_push_of_some _ ho
  · rw [g2, Heap.size_push]
/-- the indices behind these, of n items -/
def nx (n : Nat) (q : Nat × Nat) : Option (Nat × Nat) := if q.2 + 1 < n then some (q.1, q.2 + 1) else if q.1 + 2 < n then some (q.1 + 1, q.1 + 2) else none
theorem nx_is (n a b : Nat) (hn : 2 ≤ n) (hb : b < n) (ha : a + 1 < n) : (match (List.range [a, b].length).reverse.find? fun i => [a, b].getD i 0 != i + n - [a, b].length with
    | none => none
    | some i => some ([a, b].take i ++ (List.range ([a, b].length - i)).map ([a, b].getD i 0 + 1 + ·))) = (nx n (a, b)).map fun q => [q.1, q.2] := by
  have e : (List.range [a, b].length).reverse = [1, 0] := rfl
  rw [e]
  unfold nx
  have e1 : ([a, b].getD 1 0 != 1 + n - [a, b].length) = !decide (b = n - 1) := by
    show (b != 1 + n - 2) = _
    have : 1 + n - 2 = n - 1 := by omega
    rw [this]; by_cases h : b = n - 1 <;> simp [h]
  have e0 : ([a, b].getD 0 0 != 0 + n - [a, b].length) = !decide (a = n - 2) := by
    show (a != 0 + n - 2) = _
    have : 0 + n - 2 = n - 2 := by omega
    rw [this]; by_cases h : a = n - 2 <;> simp [h]
  rw [List.find?_cons, e1]
  by_cases h1 : b = n - 1
  · rw [List.find?_cons, e0]
    by_cases h0 : a = n - 2
    · simp only [h1, h0, decide_true, Bool.not_true, List.find?_nil]
      rw [if_neg (by omega), if_neg (by omega)]
      rfl
    · simp only [h1, h0, decide_true, decide_false, Bool.not_true, Bool.not_false]
      rw [if_neg (by omega), if_pos (by omega)]
      rfl
  · simp only [h1, decide_false, Bool.not_false]
    rw [if_pos (by omega)]
    rfl
theorem next_first {e p : Addr} {items : Array Value} {last : Value} {Q : Option Value → Shared → Prop} (he : s.heap.get? e = some (recO p 0 last 0 1)) (hp : s.heap.get? p = some (poolO items)) (hep : e ≠ p)
    (hQ : ∀ h' : Heap, h'.get? s.heap.objs.size = some { cls := .type "tuple", data := .seq #[items.getD 0 .none, items.getD 1 .none] } → h'.get? e = some (recO p 1 (.ref s.heap.objs.size) 0 1) → (∀ b o, b ≠ e → s.heap.get? b = some o → h'.get? b = some o) →
      h'.objs.size = s.heap.objs.size + 1 → Q (some (.ref s.heap.objs.size)) { s with heap := h' }) :
    wpAny (model prog w) A (pyNext (.ref e)) Q E s := by
  have hT : s.TypeIs (.ref e) "itertools.combinations" := ⟨_, he, rfl⟩
  unfold pyNext
  refine wpAny_bind (wpAny_attempt ?_)
  refine wpAny_callSpecial?_slot (name := Str.ofString "__next__") hT nextC ?_
  refine wpAny_call_entry nextC hT entryNext ?_ (argsNext _)
  wp_walk using wpAny_field he rfl
  case h.h.hi => exact rfl
  refine wpAny_bind (numbers he ?_)
  refine wpAny_bind (stateOf he ?_)
  refine wpAny_bind (setAt he (i := 1) (by decide) (o' := recO p 1 last 0 1) rfl rfl fun h1 g1 g2 g3 => ?_)
  refine hand (s := { s with heap := h1 }) g1 ((g3 p (Ne.symm hep)).trans hp) hep fun h' q1 q2 q3 q4 => ?_
  refine ⟨_, rfl, wpAny_pure ?_⟩
  dsimp only at q1 q2 q3 q4 ⊢
  rw [g2] at q1 q2 q4 ⊢
  exact hQ h' q1 q2 (fun b o hb ho => q3 b o hb ((g3 b hb).trans ho)) q4
theorem choose {o r : Option (List Nat)} (e : o = r) {f : List Nat → Sem Fin} {g : Sem Fin} {Q : Fin → Shared → Prop} (h : wpAny (model prog w) A (match r with | some n => f n | none => g) Q E s) : wpAny (model prog w) A (match o with | some n => f n | none => g) Q E s := by
  subst e
  exact h
theorem setNumbers {e p : Addr} {st : Int} {last : Value} {a b c d : Nat} {Q : Unit → Shared → Prop} (he : s.heap.get? e = some (recO p st last a b))
    (h : ∀ h' : Heap, h'.get? e = some (recO p st last c d) → h'.objs.size = s.heap.objs.size → (∀ c, c ≠ e → h'.get? c = s.heap.get? c) → Q () { s with heap := h' }) : wpAny (model prog w) A (itSetNumbersFrom (.ref e) 3 [c, d]) Q E s := by
  unfold itSetNumbersFrom updateFields
  wp_walk
  refine h _ ?_ (Heap.size_update ..) fun c hc => Heap.get?_update_other _ _ (Ne.symm hc)
  exact Heap.get?_update_self _ he rfl
theorem next_more {e p : Addr} {items : Array Value} {last : Value} {a b c d : Nat} {Q : Option Value → Shared → Prop} (he : s.heap.get? e = some (recO p 1 last a b)) (hp : s.heap.get? p = some (poolO items)) (hep : e ≠ p) (hb : b < items.size) (ha : a < b) (hx : nx items.size (a, b) = some (c, d))
    (hQ : ∀ h' : Heap, h'.get? s.heap.objs.size = some { cls := .type "tuple", data := .seq #[items.getD c .none, items.getD d .none] } → h'.get? e = some (recO p 1 (.ref s.heap.objs.size) c d) → (∀ b o, b ≠ e → s.heap.get? b = some o → h'.get? b = some o) →
      h'.objs.size = s.heap.objs.size + 1 → Q (some (.ref s.heap.objs.size)) { s with heap := h' }) :
    wpAny (model prog w) A (pyNext (.ref e)) Q E s := by
  have hT : s.TypeIs (.ref e) "itertools.combinations" := ⟨_, he, rfl⟩
  unfold pyNext
  refine wpAny_bind (wpAny_attempt ?_)
  refine wpAny_callSpecial?_slot (name := Str.ofString "__next__") hT nextC ?_
  refine wpAny_call_entry nextC hT entryNext ?_ (argsNext _)
  wp_walk using wpAny_field he rfl
  case h.h.hi => exact rfl
  refine wpAny_bind (numbers he ?_)
  refine wpAny_bind (stateOf he ?_)
  refine wpAny_bind (pool hp ?_)
  refine choose (nx_is items.size a b (by omega) hb (by omega)) ?_
  rw [hx]
  refine wpAny_bind (setNumbers he fun h1 g1 g2 g3 => ?_)
  refine hand (s := { s with heap := h1 }) g1 ((g3 p (Ne.symm hep)).trans hp) hep fun h' q1 q2 q3 q4 => ?_
  refine ⟨_, rfl, wpAny_pure ?_⟩
  dsimp only at q1 q2 q3 q4 ⊢
  rw [g2] at q1 q2 q4 ⊢
  exact hQ h' q1 q2 (fun b o hb ho => q3 b o hb ((g3 b hb).trans ho)) q4
theorem next_end {e p : Addr} {items : Array Value} {last : Value} {a b : Nat} {Q : Option Value → Shared → Prop} (he : s.heap.get? e = some (recO p 1 last a b)) (hp : s.heap.get? p = some (poolO items)) (hep : e ≠ p) (hb : b < items.size) (ha : a < b) (hx : nx items.size (a, b) = none) (hh : A.handled = none)
    (hQ : ∀ h' : Heap, (∀ b o, b ≠ e → s.heap.get? b = some o → h'.get? b = some o) → Q none { s with heap := h' }) :
    wpAny (model prog w) A (pyNext (.ref e)) Q E s := by
  have hT : s.TypeIs (.ref e) "itertools.combinations" := ⟨_, he, rfl⟩
  unfold pyNext
  refine wpAny_bind (wpAny_attempt ?_)
  refine wpAny_callSpecial?_slot (name := Str.ofString "__next__") hT nextC ?_
  refine wpAny_call_entry nextC hT entryNext ?_ (argsNext _)
  wp_walk using wpAny_field he rfl
  case h.h.hi => exact rfl
  refine wpAny_bind (numbers he ?_)
  refine wpAny_bind (stateOf he ?_)
  refine wpAny_bind (pool hp ?_)
  refine choose (nx_is items.size a b (by omega) hb (by omega)) ?_
  rw [hx]
  refine wpAny_bind (setAt he (i := 1) (by decide) (o' := recO p 2 last a b) rfl rfl fun h1 g1 g2 g3 => ?_)
  wp_walk
  refine wpAny_raiseNew_none hh ?_
  have new := Heap.get?_push_size (h1.push { cls := Value.type "tuple", data := Data.seq #[] }) (o := { cls := Value.type "StopIteration", data := Data.fields (#[Value.ref h1.objs.size, Value.none, Value.none, Value.none, Value.bool false, if ((Manifest.find? "StopIteration").elim false fun t => t.mro.contains "StopIteration" || t.mro.contains "SystemExit") = true then [].headD Value.none else Value.none] ++ ownMembersOf (Value.type "StopIteration") []) }) rfl
  refine wpAny_bind (wpAny_isInstance (T := "StopIteration") (b := true) ⟨_, new, rfl⟩ isSubtype_stop ?_)
  refine wpAny_pure (hQ _ fun c o hc ho => ?_)
  refine Heap.get?_push_of_some _ (Heap.get?_push_of_some _ ?_)
  rw [g3 c hc]
  exact ho
theorem next_done {e p : Addr} {last : Value} {a b : Nat} {Q : Option Value → Shared → Prop} (he : s.heap.get? e = some (recO p 2 last a b)) (hh : A.handled = none)
    (hQ : ∀ h' : Heap, (∀ b o, s.heap.get? b = some o → h'.get? b = some o) → Q none { s with heap := h' }) :
    wpAny (model prog w) A (pyNext (.ref e)) Q E s := by
  have hT : s.TypeIs (.ref e) "itertools.combinations" := ⟨_, he, rfl⟩
  unfold pyNext
  refine wpAny_bind (wpAny_attempt ?_)
  refine wpAny_callSpecial?_slot (name := Str.ofString "__next__") hT nextC ?_
  refine wpAny_call_entry nextC hT entryNext ?_ (argsNext _)
  wp_walk using wpAny_field he rfl
  case h.h.hi => exact rfl
  refine wpAny_bind (numbers he ?_)
  refine wpAny_bind (stateOf he ?_)
  wp_walk
  refine wpAny_raiseNew_none hh ?_
  have new := Heap.get?_push_size (s.heap.push { cls := Value.type "tuple", data := Data.seq #[] }) (o := { cls := Value.type "StopIteration", data := Data.fields (#[Value.ref s.heap.objs.size, Value.none, Value.none, Value.none, Value.bool false, if ((Manifest.find? "StopIteration").elim false fun t => t.mro.contains "StopIteration" || t.mro.contains "SystemExit") = true then [].headD Value.none else Value.none] ++ ownMembersOf (Value.type "StopIteration") []) }) rfl
  refine wpAny_bind (wpAny_isInstance (T := "StopIteration") (b := true) ⟨_, new, rfl⟩ isSubtype_stop ?_)
  refine wpAny_pure (hQ _ fun c o ho => ?_)
  exact Heap.get?_push_of_some _ (Heap.get?_push_of_some _ ho)
end
end PwC
end PySem

set_option Elab.async false
set_option linter.all false
set_option maxRecDepth 100000
set_option maxHeartbeats 2000000
/-! combinations(xs, 2), walked. -/
namespace PwC
open PySem PySem.Spec PyProof.Rows L2 PySem.PwC
def prsF (n : Nat) : Nat → Nat × Nat → List (Nat × Nat)
  | 0, _ => []
  | f + 1, q => q :: (match nx n q with
    | some r => prsF n f r
    | none => [])
/-- the pairs of indices below n, in their sequence -/
def prs (n : Nat) : List (Nat × Nat) := if n < 2 then [] else prsF n (n * n) (0, 1)
theorem nx_lt {n : Nat} {q r : Nat × Nat} (h : q.1 < q.2 ∧ q.2 < n) (e : nx n q = some r) : (r.1 < r.2 ∧ r.2 < n) ∧ q.1 * n + q.2 < r.1 * n + r.2 := by
  unfold nx at e
  split at e
  · cases e
    dsimp only
    omega
  · split at e
    · cases e
      dsimp only
      refine ⟨by omega, ?_⟩
      have : (q.1 + 1) * n = q.1 * n + n := by rw [Nat.add_mul, Nat.one_mul]
      omega
    · cases e
theorem prsF_all {n : Nat} : ∀ (f : Nat) (q : Nat × Nat), (q.1 < q.2 ∧ q.2 < n) → ∀ r ∈ prsF n f q, r.1 < r.2 ∧ r.2 < n := by
  intro f
  induction f with
  | zero => intro q _ r hr; cases hr
  | succ f ih =>
    intro q h r hr
    unfold prsF at hr
    rcases List.mem_cons.mp hr with rfl | hr
    · exact h
    · cases e : nx n q with
      | none => rw [e] at hr; cases hr
      | some t =>
        rw [e] at hr
        exact ih t (nx_lt h e).1 r hr
theorem prsF_next {n : Nat} : ∀ (f : Nat) (q : Nat × Nat), (q.1 < q.2 ∧ q.2 < n) → n * n ≤ f + (q.1 * n + q.2) → ∀ (i : Nat) r, (prsF n f q)[i]? = some r → (prsF n f q)[i + 1]? = nx n r := by
  intro f
  induction f with
  | zero =>
    intro q h hm
    have : (q.1 + 1) * n ≤ n * n := Nat.mul_le_mul_right n (by omega)
    rw [Nat.add_mul, Nat.one_mul] at this
    omega
  | succ f ih =>
    intro q h hm i r hr
    unfold prsF at hr ⊢
    cases e : nx n q with
    | none =>
      rw [e] at hr
      cases i with
      | zero => simp at hr; subst hr; simp [e]
      | succ i => simp at hr
    | some t =>
      rw [e] at hr
      obtain ⟨h1, h2⟩ := nx_lt h e
      have key := ih t h1 (by omega)
      cases i with
      | zero =>
        simp at hr
        subst hr
        rw [e]
        show (prsF n f t)[0]? = some t
        cases f with
        | zero =>
          have : (t.1 + 1) * n ≤ n * n := Nat.mul_le_mul_right n (by omega)
          rw [Nat.add_mul, Nat.one_mul] at this
          omega
        | succ f => unfold prsF; rfl
      | succ i =>
        show (prsF n f t)[i + 1]? = nx n r
        exact key i r (by simpa using hr)
theorem prs_lt {n : Nat} {r : Nat × Nat} (h : r ∈ prs n) : r.1 < r.2 ∧ r.2 < n := by
  unfold prs at h
  split at h
  · cases h
  · exact prsF_all _ (0, 1) ⟨by decide, by dsimp only; omega⟩ r h
theorem prs_zero {n : Nat} (h : 2 ≤ n) : (prs n)[0]? = some (0, 1) := by
  unfold prs
  rw [if_neg (by omega)]
  have : 0 < n * n := Nat.mul_pos (by omega) (by omega)
  obtain ⟨f, e⟩ : ∃ f, n * n = f + 1 := ⟨n * n - 1, by omega⟩
  rw [e]
  unfold prsF
  rfl
theorem prs_next {n : Nat} {i : Nat} {r : Nat × Nat} (h : (prs n)[i]? = some r) : (prs n)[i + 1]? = nx n r := by
  unfold prs at h ⊢
  split at h
  · simp at h
  · rename_i hn
    rw [if_neg hn]
    exact prsF_next _ (0, 1) ⟨by decide, by dsimp only; omega⟩ (by omega) i r h
theorem prs_small {n : Nat} (h : n < 2) : prs n = [] := by
  unfold prs
  rw [if_pos h]
/-- the pairs of a list's items, each in a new tuple -/
def IteC (xs : List V) : It :=
  ⟨fun i H => i < (prs xs.length).length, fun i H v H' => ∃ T q x y, (prs xs.length)[i]? = some q ∧ v = .ref T ∧ H T = none ∧ H' = upd H T (.tup [x, y]) ∧ xs[q.1]? = some x ∧ xs[q.2]? = some y, fun i H => (prs xs.length).length ≤ i⟩
theorem turn_comb {P : Program} {w : World} {K : PySem.W.Frag} {tg : Expr} {xs : List V} {its : List Value} (r : Vals xs its) (e p : Addr) (ne : e ≠ p) :
    Turn P w K tg (IteC xs) [e, p] e (fun i h => h.get? p = some (poolO its.toArray) ∧ ((i = 0 ∧ h.get? e = some (recO p (if 2 > its.toArray.size then 2 else 0) .none 0 1)) ∨ (0 < i ∧ ∃ q last, (prs xs.length)[i - 1]? = some q ∧ h.get? e = some (recO p 1 last q.1 q.2)))) where
  mem := by simp
  obj := fun i h ⟨hp, st⟩ b hb => by
    simp only [List.mem_cons, List.not_mem_nil, or_false] at hb
    rcases hb with rfl | rfl
    · rcases st with ⟨_, he⟩ | ⟨_, q, last, _, he⟩
      · exact ⟨_, he, fun v z => nomatch z⟩
      · exact ⟨_, he, fun v z => nomatch z⟩
    · exact ⟨_, hp, fun v z => nomatch z⟩
  keep := fun i h h' ⟨hp, st⟩ k => by
    refine ⟨k p (by simp) _ hp, ?_⟩
    rcases st with ⟨z, he⟩ | ⟨z, q, last, y, he⟩
    · exact .inl ⟨z, k e (by simp) _ he⟩
    · exact .inr ⟨z, q, last, y, k e (by simp) _ he⟩
  item := by
    intro X hP hw hK hc i pins s σ H E I hf ⟨hp, st⟩ hg
    subst hP hw hK
    have hg : i < (prs xs.length).length := hg
    have hlen : its.toArray.size = xs.length := by rw [List.size_toArray, ← r.length]
    have lte : e < s.heap.objs.size := by
      rcases st with ⟨z, he⟩ | ⟨z, q, last, y, he⟩ <;> exact Heap.lt_size he
    have ltp : p < s.heap.objs.size := Heap.lt_size hp
    -- whatever the state: the pair q comes
    have fin : ∀ q : Nat × Nat, (prs xs.length)[i]? = some q → ∀ h' : Heap, h'.get? s.heap.objs.size = some { cls := .type "tuple", data := .seq #[its.toArray.getD q.1 .none, its.toArray.getD q.2 .none] } → h'.get? e = some (recO p 1 (.ref s.heap.objs.size) q.1 q.2) →
        (∀ b o, b ≠ e → s.heap.get? b = some o → h'.get? b = some o) → ∃ u, some (Value.ref s.heap.objs.size) = some u ∧ wpAny (model X.prog X.w) X.A (letOwnedTupleGo tg (.ref e) u) (fun _ s2 => ∃ x H', Inv X pins σ H' s2 ∧ RelV x u ∧ (IteC xs).yld i H x H' ∧
          (s2.heap.get? p = some (poolO its.toArray) ∧ ((i + 1 = 0 ∧ s2.heap.get? e = some (recO p (if 2 > its.toArray.size then 2 else 0) .none 0 1)) ∨ (0 < i + 1 ∧ ∃ q last, (prs xs.length)[i + 1 - 1]? = some q ∧ s2.heap.get? e = some (recO p 1 last q.1 q.2)))) ∧ ∀ b ∈ [e, p], H' b = none) E { s with heap := h' } := by
      intro q hq h' q1 q2 q3
      have lt := prs_lt (List.mem_of_getElem? hq)
      obtain ⟨x, hx⟩ : ∃ x, xs[q.1]? = some x := ⟨xs[q.1], by simp⟩
      obtain ⟨y, hy⟩ : ∃ y, xs[q.2]? = some y := ⟨xs[q.2], by simp⟩
      obtain ⟨u, hu, ru⟩ := r.get hx
      obtain ⟨v, hv, rv⟩ := r.get hy
      have gu : its.toArray.getD q.1 .none = u := by simp [Array.getD_eq_getD_getElem?, hu]
      have gv : its.toArray.getD q.2 .none = v := by simp [Array.getD_eq_getD_getElem?, hv]
      rw [gu, gv] at q1
      refine ⟨_, rfl, go_of (s := { s with heap := h' }) q2 rfl rfl (by decide) ?_⟩
      have new : ObjOk X.prog X.w (upd H s.heap.objs.size (.tup [x, y])) h' s.heap.objs.size (.tup [x, y]) := ⟨show 2 ≤ sizeLine by decide, [u, v], .cons ru (.cons rv .nil), ⟨_, q1, rfl, _, rfl⟩⟩
      have I1 : Inv X pins σ (upd H s.heap.objs.size (.tup [x, y])) { s with heap := h', toks := s.toks } :=
        I.turnedNew (ch := [e, p]) (fun b ob hb z => q3 b ob (fun y => hb (by simp [y])) z) hf (Nat.le_refl _) new
      refine ⟨.ref s.heap.objs.size, _, I1, rfl, ⟨_, q, x, y, hq, rfl, I.hok.fresh (Nat.le_refl _), rfl, hx, hy⟩, ⟨q3 p _ (Ne.symm ne) hp, .inr ⟨Nat.succ_pos _, q, _, hq, q2⟩⟩, fun b hb => ?_⟩
      have hb' : b < s.heap.objs.size := by
        simp only [List.mem_cons, List.not_mem_nil, or_false] at hb
        rcases hb with rfl | rfl
        · exact lte
        · exact ltp
      rw [upd_ne (Nat.ne_of_lt hb')]
      exact (hf b hb).1
    rcases st with ⟨rfl, he⟩ | ⟨pos, q, last, hq, he⟩
    · have h2 : 2 ≤ xs.length := by
        by_cases z : 2 ≤ xs.length
        · exact z
        · rw [prs_small (by omega)] at hg; simp at hg
      rw [if_neg (by rw [hlen]; omega)] at he
      exact next_first he hp ne fun h' q1 q2 q3 _ => fin (0, 1) (prs_zero h2) h' q1 q2 q3
    · have lt := prs_lt (List.mem_of_getElem? hq)
      have hn := prs_next hq
      have ei : i - 1 + 1 = i := by omega
      rw [ei] at hn
      have hq2 : (prs xs.length)[i]? = some (prs xs.length)[i] := by simp [hg]
      rw [hq2] at hn
      generalize (prs xs.length)[i] = t at hq2 hn
      obtain ⟨c, d⟩ := t
      obtain ⟨a, b⟩ := q
      exact next_more he hp ne (by rw [hlen]; exact lt.2) lt.1 (by rw [hlen]; exact hn.symm) fun h' q1 q2 q3 _ => fin (c, d) hq2 h' q1 q2 q3
  done := by
    intro X hP hw hK hc i pins s σ H E I hf ⟨hp, st⟩ hg
    subst hP hw hK
    have hg : (prs xs.length).length ≤ i := hg
    have hlen : its.toArray.size = xs.length := by rw [List.size_toArray, ← r.length]
    obtain ⟨f0, f1, f2, f3, f4, f5⟩ := hf e (by simp)
    rcases st with ⟨rfl, he⟩ | ⟨pos, q, last, hq, he⟩
    · have h2 : xs.length < 2 := by
        by_cases z : xs.length < 2
        · exact z
        · have := prs_zero (n := xs.length) (by omega)
          rw [List.getElem?_eq_none hg] at this
          cases this
      rw [if_pos (by rw [hlen]; omega)] at he
      exact next_done he (I.ok.hd hc) fun h' k => ⟨rfl, I.turned (t' := s.toks) (fun b o hb z => k b o z) f0 f1 f3 f4 f5⟩
    · have lt := prs_lt (List.mem_of_getElem? hq)
      have hn := prs_next hq
      have ei : i - 1 + 1 = i := by omega
      rw [ei, List.getElem?_eq_none hg] at hn
      obtain ⟨a, b⟩ := q
      exact next_end he hp ne (by rw [hlen]; exact lt.2) lt.1 (by rw [hlen]; exact hn.symm) (I.ok.hd hc) fun h' k => ⟨rfl, I.turned (t' := s.toks) (fun b o hb z => k b o hb z) f0 f1 f3 f4 f5⟩
  self := fun A i s Q E ⟨hp, st⟩ h => by
    rcases st with ⟨_, he⟩ | ⟨_, q, last, _, he⟩
    · exact iter_comb he h
    · exact iter_comb he h
def iComb (K : PySem.W.Frag) (ta : TA) : TI := fun σ H R => ta σ H fun vs H1 => ∃ a xs, vs = [.ref a, .int 2] ∧ SqL K H1 a xs ∧ R (IteC xs) H1
theorem pi_comb {X : Cx} {e : Expr} {es : List Expr} {ta : TA} {p pos : Pos} {tg : Expr} {x : Str} (K : PySem.W.Frag) (hg : Gl X x) (hm : X.mg x = some (.type "itertools.combinations")) (ha : PA X (e :: es) ta) (hk : X.K = K := by rfl) (hdb : (x == ("__debug__" : Str)) = false := by decide)
    (hs : starEach (e :: es) X.env = (false, eval e X.env) :: starEach es X.env := by rfl) (hpl : (backTo pos (starEach es X.env)).any (·.1) = false := by rfl) :
    PI X tg (.Call (.Name x p) (e :: es) [] pos) (iComb K ta) := ⟨fun pins s σ H R I h => by
  subst hk
  refine wpAny_Call_Name_kw (ld_glob I hg hm ?_ hdb)
  refine PyProof.Rows.callWith_type1 (thn (ha.run pos pins s σ H _ I h) fun us s1 ⟨vs, H1, I1, r1, a, xs, ex, hq, q⟩ => ?_) hs hpl
  subst ex
  obtain ⟨_, _, rfl, ra, ⟨t, rfl⟩⟩ := vals2 r1
  cases ra
  obtain ⟨its, rv, pl, hz⟩ := I1.list hq
  obtain ⟨o, ho, hc, n, hd⟩ := pl.isList
  refine call_comb ho hc hd (by rw [List.size_toArray, ← rv.length]; exact hz) fun h' kept => ?_
  have I2 : Inv X pins σ H1 { s1 with heap := h' } := I1.kept (t' := s1.toks) kept
  have hp := Heap.get?_push_size h' (o := poolO its.toArray) rfl
  have e1 : h'.objs.size + 1 = (h'.push (poolO its.toArray)).objs.size := (Heap.size_push ..).symm
  have he := Heap.get?_push_size (h'.push (poolO its.toArray)) (o := recO h'.objs.size (if 2 > its.toArray.size then 2 else 0) .none 0 1) rfl
  rw [← e1] at he
  have I3 : Inv X pins σ H1 { s1 with heap := (h'.push (poolO its.toArray)).push (recO h'.objs.size (if 2 > its.toArray.size then 2 else 0) .none 0 1) } := I2.kept (t' := s1.toks) fun b o z => Heap.get?_push_of_some _ (Heap.get?_push_of_some _ z)
  refine iter_comb (s := { s1 with heap := _ }) he ?_
  refine ⟨h'.objs.size + 1, [h'.objs.size + 1, h'.objs.size], _, _, H1, rfl, I3, turn_comb rv (h'.objs.size + 1) h'.objs.size (Nat.succ_ne_self _), ⟨Heap.get?_push_of_some _ hp, .inl ⟨rfl, he⟩⟩, fun b hb => ?_, q⟩
  have hle : h'.objs.size ≤ b := by
    simp only [List.mem_cons, List.not_mem_nil, or_false] at hb
    rcases hb with rfl | rfl
    · exact Nat.le_succ _
    · exact Nat.le_refl _
  exact I2.fpOk hle (I2.hok.fresh hle)⟩
end PwC
namespace Pw
open PySem L2
variable {ρ ρ1 : List Slot} {K : PySem.W.Frag}
/-- the pairs of a list's items -/
def combD (ds : List PyData) : List PyData := (PwC.prs ds.length).map fun q => .tuple [ds.getD q.1 .none, ds.getD q.2 .none]
theorem si_comb {F : Hp} {vs : List V} {ds : List PyData} (r : RpAll F vs ds) : SI (PwC.IteC vs) F C0 ((combD ds).map .d) where
  go := fun F' H i f S c h => by
    rw [List.length_map, combD, List.length_map, ← r.length] at h
    exact h
  stop := fun F' H i f S c h => by
    rw [List.length_map, combD, List.length_map, ← r.length] at h
    exact h
  yld := fun F' H i v H' f S c y h => by
    obtain ⟨T, q, x, y, hq, rfl, hT, rfl, hx, hy⟩ := y
    obtain ⟨d1, e1, r1⟩ := (r.mono f).get hx
    obtain ⟨d2, e2, r2⟩ := (r.mono f).get hy
    have A := Al.one (o := .tup [x, y]) S hT
    refine ⟨_, .d (.tuple [d1, d2]), A, ?_, Rp.tup upd_same (.cons (r1.mono A.f) (.cons (r2.mono A.f) .nil))⟩
    rw [r.length] at hq
    rw [List.getElem?_map, combD, List.getElem?_map, hq]
    simp [List.getD_eq_getElem?_getD, e1, e2]
theorem ei_comb {ta : TA} {ds : List PyData} {xs : List Src} (h : EA ta ρ [.d (.d (.list ds)), .d (.d (.int 2))] ρ1) : EI (PwC.iComb K ta) ρ ((combD ds).map .d) ρ1 := fun e F σ H R S k => h e F σ H _ S fun F' H' vs f S' r => by
  cases r with
  | cons r t => cases t with
    | cons r2 t =>
      cases t
      have r : Rp F' _ (.list ds) := r
      have r2 : Rp F' _ (.int 2) := r2
      cases r2
      cases r with
      | lst q r => exact ⟨_, _, rfl, SqL.of (S'.sub.lst q), k F' H' _ f S' (si_comb r)⟩
theorem combD_mem {ds : List PyData} {z : PyData} (h : z ∈ combD ds) : ∃ a b, a ∈ ds ∧ b ∈ ds ∧ z = .tuple [a, b] := by
  obtain ⟨q, hq, rfl⟩ := List.mem_map.mp h
  have lt := PwC.prs_lt hq
  refine ⟨ds.getD q.1 .none, ds.getD q.2 .none, ?_, ?_, rfl⟩
  · rw [List.getD_eq_getElem?_getD, List.getElem?_eq_getElem (by omega)]; exact List.getElem_mem _
  · rw [List.getD_eq_getElem?_getD, List.getElem?_eq_getElem (by omega)]; exact List.getElem_mem _
end Pw

set_option Elab.async false
set_option linter.all false
set_option maxRecDepth 100000
/-! The plane. -/
namespace Pv
open PySem L2 Pw
abbrev Pt := Int × Int
abbrev Sg := Pt × Pt
def ptD (p : Pt) : PyData := .tuple [.int p.1, .int p.2]
def sgD (s : Sg) : PyData := .tuple [ptD s.1, ptD s.2]
/-- places within reach of the rule for products -/
structure Near (p : Pt) : Prop where
  h : (-(2 ^ 60) ≤ p.1 ∧ p.1 ≤ 2 ^ 60) ∧ -(2 ^ 60) ≤ p.2 ∧ p.2 ≤ 2 ^ 60
def crossZ (p q r : Pt) : Int := (q.1 - p.1) * (r.2 - p.2) - (q.2 - p.2) * (r.1 - p.1)
def dotZ (p q r : Pt) : Int := (q.1 - p.1) * (r.1 - p.1) + (q.2 - p.2) * (r.2 - p.2)
def rayZ (p q r : Pt) : Bool := decide (crossZ p q r = 0) && decide (0 < dotZ p q r)
def onZ (p : Pt) (s : Sg) : Bool := decide (crossZ p s.1 s.2 = 0) && decide (dotZ p s.1 s.2 ≤ 0)
def spanXZ (s t : Sg) : Bool := decide (min t.1.1 t.2.1 ≤ max s.1.1 s.2.1) && decide (min s.1.1 s.2.1 ≤ max t.1.1 t.2.1)
def spanYZ (s t : Sg) : Bool := decide (min t.1.2 t.2.2 ≤ max s.1.2 s.2.2) && decide (min s.1.2 s.2.2 ≤ max t.1.2 t.2.2)
def acrossZ (s t : Sg) : Bool := if 0 < crossZ s.1 s.2 t.1 then decide (crossZ s.1 s.2 t.2 ≤ 0) else if crossZ s.1 s.2 t.1 < 0 then decide (0 ≤ crossZ s.1 s.2 t.2) else true
def meetZ (s t : Sg) : Bool := spanXZ s t && (spanYZ s t && (acrossZ s t && acrossZ t s))
def g3Z (f : Pt → Pt → Pt → PyData) (a b c y : PyData) : Prop := ∃ p q r, a = ptD p ∧ b = ptD q ∧ c = ptD r ∧ Near p ∧ Near q ∧ Near r ∧ y = f p q r
def g2S (f : Sg → Sg → PyData) (a b y : PyData) : Prop := ∃ s t, a = sgD s ∧ b = sgD t ∧ (Near s.1 ∧ Near s.2) ∧ (Near t.1 ∧ Near t.2) ∧ y = f s t
abbrev gCross := g3Z fun p q r => .int (crossZ p q r)
abbrev gDot := g3Z fun p q r => .int (dotZ p q r)
abbrev gRay := g3Z fun p q r => .bool (rayZ p q r)
def gOn (a b y : PyData) : Prop := ∃ p s, a = ptD p ∧ b = sgD s ∧ Near p ∧ (Near s.1 ∧ Near s.2) ∧ y = .bool (onZ p s)
def gSpan (a b c y : PyData) : Prop := ∃ s t, a = sgD s ∧ b = sgD t ∧ ((c = .int 0 ∧ y = .bool (spanXZ s t)) ∨ (c = .int 1 ∧ y = .bool (spanYZ s t)))
def gBoxes (a b y : PyData) : Prop := ∃ s t, a = sgD s ∧ b = sgD t ∧ y = .bool (spanXZ s t && spanYZ s t)
abbrev gAcross := g2S fun s t => .bool (acrossZ s t)
abbrev gMeet := g2S fun s t => .bool (meetZ s t)
end Pv

set_option Elab.async false
set_option linter.all false
set_option maxRecDepth 100000
/-! Maps of plain tuples, and what is looked for in them. -/
namespace Pv
open PySem L2 Pw
structure Nd where
  name : Str
  p : Pt
structure Ln where
  name : Str
  s : Str
  e : Str
  cs : List Pt
structure Mk where
  name : Str
  p : Pt
  wide : Int
  high : Int
structure Mp where
  nodes : List Nd
  lines : List Ln
  marks : List Mk
def ndD (n : Nd) : PyData := .tuple [.str n.name, .int n.p.1, .int n.p.2]
def lnD (l : Ln) : PyData := .tuple [.str l.name, .str l.s, .str l.e, .tuple (l.cs.map ptD)]
def mkD (m : Mk) : PyData := .tuple [.str m.name, .int m.p.1, .int m.p.2, .int m.wide, .int m.high]
def mpD (w : Mp) : PyData := .tuple [.tuple (w.nodes.map ndD), .tuple (w.lines.map lnD), .tuple (w.marks.map mkD)]
/-- a place of the document -/
def Far (p : Pt) : Prop := (-1000000000 ≤ p.1 ∧ p.1 ≤ 1000000000) ∧ -1000000000 ≤ p.2 ∧ p.2 ≤ 1000000000
theorem Far.near {p : Pt} (h : Far p) : Near p := ⟨by unfold Far at h; omega⟩
structure Mp.Ok (w : Mp) : Prop where
  nn : (w.nodes.map (·.name)).Nodup
  ln : (w.lines.map (·.name)).Nodup
  mn : (w.marks.map (·.name)).Nodup
  hs : ∀ l ∈ w.lines, l.s ∈ w.nodes.map (·.name)
  he : ∀ l ∈ w.lines, l.e ∈ w.nodes.map (·.name)
  hd : ∀ l ∈ w.lines, l.s ≠ l.e
  cn : w.nodes.length ≤ 16
  cl : w.lines.length ≤ 16
  cm : w.marks.length ≤ 10
  cc : ∀ l ∈ w.lines, l.cs.length ≤ 12
  fn : ∀ n ∈ w.nodes, Far n.p
  fc : ∀ l ∈ w.lines, ∀ c ∈ l.cs, Far c
  fm : ∀ m ∈ w.marks, Far m.p
  tn : ∀ n ∈ w.nodes, nameZ (.str n.name) = true
  tl : ∀ l ∈ w.lines, nameZ (.str l.name) = true
  tm : ∀ m ∈ w.marks, nameZ (.str m.name) = true
def nodeAt (ns : List Nd) (x : Str) : Pt := ((ns.find? fun n => decide (n.name = x)).map (·.p)).getD (0, 0)
def pathOf (w : Mp) (l : Ln) : List Pt := nodeAt w.nodes l.s :: (l.cs ++ [nodeAt w.nodes l.e])
theorem pathOf_len (w : Mp) (l : Ln) : (pathOf w l).length = l.cs.length + 2 := by simp [pathOf]
theorem nodeAt_far {w : Mp} (o : w.Ok) (x : Str) : Far (nodeAt w.nodes x) := by
  unfold nodeAt
  cases h : w.nodes.find? fun n => decide (n.name = x) with
  | none => exact ⟨by decide, by decide⟩
  | some n => exact o.fn n (List.mem_of_find?_eq_some h)
theorem path_far {w : Mp} (o : w.Ok) {l : Ln} (hl : l ∈ w.lines) : ∀ p ∈ pathOf w l, Far p := by
  intro p hp
  simp only [pathOf, List.mem_cons, List.mem_append, List.not_mem_nil, or_false] at hp
  rcases hp with rfl | hp | rfl
  · exact nodeAt_far o _
  · exact o.fc l hl p hp
  · exact nodeAt_far o _
/-! ### dicts of it -/
def placeKvs (w : Mp) : List (Key × PyData) := w.nodes.map fun n => (.inr n.name, ptD n.p)
def pathKvs (w : Mp) : List (Key × PyData) := w.lines.map fun l => (.inr l.name, .tuple ((pathOf w l).map ptD))
theorem getD_place {w : Mp} {x : Str} (h : x ∈ w.nodes.map (·.name)) : Pw.getD (placeKvs w) (.inr x) = some (ptD (nodeAt w.nodes x)) := by
  unfold placeKvs nodeAt
  generalize w.nodes = ns at h
  induction ns with
  | nil => simp at h
  | cons n ns ih =>
    unfold Pw.getD at ih ⊢
    rw [List.map_cons, List.find?_cons, List.find?_cons]
    by_cases e : n.name = x
    · simp [e]
    · have e2 : ¬ (Sum.inr n.name : Key) = .inr x := fun z => e (Sum.inr.inj z)
      simp only [e, e2, decide_false]
      refine ih ?_
      simp only [List.map_cons, List.mem_cons] at h
      exact h.resolve_left fun z => e z.symm
/-! ### segments, points -/
abbrev Sid := Str × Nat
def segsOf (w : Mp) : List (Sid × Sg) := w.lines.flatMap fun l => (List.range ((pathOf w l).length - 1)).map fun k => ((l.name, k), ((pathOf w l).getD k (0, 0), (pathOf w l).getD (k + 1) (0, 0)))
def sidD (i : Sid) : PyData := .tuple [.str i.1, .int (i.2 : Nat)]
def segD (s : Sid × Sg) : PyData := .tuple [sidD s.1, sgD s.2]
/-- a point of the map: what tells it -/
inductive Pid where
  | node (x : Str)
  | mark (x : Str)
  | corner (x : Str) (k : Nat)
def pidD : Pid → PyData
  | .node x => .tuple [.str "node", .str x]
  | .mark x => .tuple [.str "mark", .str x]
  | .corner x k => .tuple [.str "corner", .str x, .int (k : Nat)]
def pntD (p : Pid × Pt) : PyData := .tuple [pidD p.1, ptD p.2]
def standing (w : Mp) : List (Pid × Pt) := (w.nodes.map fun n => (.node n.name, n.p)) ++ w.marks.map fun m => (.mark m.name, m.p)
def corners (w : Mp) : List (Pid × Pt) := w.lines.flatMap fun l => (List.range l.cs.length).map fun k => (.corner l.name k, l.cs.getD k (0, 0))
theorem getD_mem {α : Type} {l : List α} {i : Nat} {d : α} (h : i < l.length) : l.getD i d ∈ l := by
  rw [List.getD_eq_getElem?_getD, List.getElem?_eq_getElem h]; exact List.getElem_mem h
theorem segs_far {w : Mp} (o : w.Ok) {s : Sid × Sg} (h : s ∈ segsOf w) : Far s.2.1 ∧ Far s.2.2 := by
  obtain ⟨l, hl, h⟩ := List.mem_flatMap.mp h
  obtain ⟨k, hk, rfl⟩ := List.mem_map.mp h
  have hk := List.mem_range.mp hk
  exact ⟨path_far o hl _ (getD_mem (by omega)), path_far o hl _ (getD_mem (by omega))⟩
theorem standing_far {w : Mp} (o : w.Ok) {p : Pid × Pt} (h : p ∈ standing w) : Far p.2 := by
  rcases List.mem_append.mp h with h | h
  · obtain ⟨n, hn, rfl⟩ := List.mem_map.mp h; exact o.fn n hn
  · obtain ⟨m, hm, rfl⟩ := List.mem_map.mp h; exact o.fm m hm
theorem flatMap_le {α β : Type} (f : α → List β) (b : Nat) : ∀ (l : List α), (∀ x ∈ l, (f x).length ≤ b) → (l.flatMap f).length ≤ l.length * b
  | [], _ => by simp
  | x :: l, h => by
    rw [List.flatMap_cons, List.length_append, List.length_cons, Nat.add_mul, Nat.one_mul]
    have := flatMap_le f b l fun y hy => h y (List.mem_cons_of_mem _ hy)
    have := h x List.mem_cons_self
    omega
theorem segs_len {w : Mp} (o : w.Ok) : (segsOf w).length ≤ 208 := by
  have := flatMap_le (fun l => (List.range ((pathOf w l).length - 1)).map fun k => ((l.name, k), ((pathOf w l).getD k (0, 0), (pathOf w l).getD (k + 1) (0, 0)))) 13 w.lines fun l hl => by
    rw [List.length_map, List.length_range, pathOf_len]
    have := o.cc l hl
    omega
  have h2 : w.lines.length * 13 ≤ 16 * 13 := Nat.mul_le_mul_right _ o.cl
  unfold segsOf
  omega
theorem corners_len {w : Mp} (o : w.Ok) : (corners w).length ≤ 192 := by
  have := flatMap_le (fun l => (List.range l.cs.length).map fun k => ((Pid.corner l.name k, l.cs.getD k (0, 0)) : Pid × Pt)) 12 w.lines fun l hl => by
    rw [List.length_map, List.length_range]
    exact o.cc l hl
  have h2 : w.lines.length * 12 ≤ 16 * 12 := Nat.mul_le_mul_right _ o.cl
  unfold corners
  omega
/-! ### what is looked for -/
def lt (a b : Str) : Prop := a.cps.toList < b.cps.toList
instance (a b : Str) : Decidable (lt a b) := inferInstanceAs (Decidable (a.cps.toList < b.cps.toList))
def endsOf (l : Ln) : List Key := [.inr (if lt l.e l.s then l.e else l.s), .inr (if lt l.s l.e then l.e else l.s)]
def twinsFrom (acc : List (List Key × PyData)) : List Ln → PyData
  | [] => .none
  | l :: ls => match Pw.getD acc (endsOf l) with
    | some d => .tuple [.str "twins", d, .str l.name]
    | none => twinsFrom (Pw.putD acc (endsOf l) (.str l.name)) ls
def twinsZ (w : Mp) : PyData := twinsFrom [] w.lines
def atOf (p : Pt) : List Key := [.inl p.1, .inl p.2]
def sameFrom (acc : List (List Key × PyData)) : List (Pid × Pt) → PyData
  | [] => .none
  | p :: ps => match Pw.getD acc (atOf p.2) with
    | some d => .tuple [.str "place", d, pidD p.1]
    | none => sameFrom (Pw.putD acc (atOf p.2) (pidD p.1)) ps
def sameZ (w : Mp) : PyData := sameFrom [] (standing w ++ corners w)
def inSg (p : Pt) (s : Sg) : Bool := decide (s.1 = p) || decide (s.2 = p)
/-- the other end, seen from a joint -/
def farOf (p : Pt) (s : Sg) : Pt := if p = s.1 then s.2 else s.1
def wrongZ (s t : Sg) : Bool := if inSg s.1 t = true then rayZ s.1 (farOf s.1 s) (farOf s.1 t) else if inSg s.2 t = true then rayZ s.2 (farOf s.2 s) (farOf s.2 t) else meetZ s t
def pairsOf (ss : List (Sid × Sg)) : List ((Sid × Sg) × (Sid × Sg)) := (PwC.prs ss.length).map fun q => (ss.getD q.1 (("", 0), ((0, 0), (0, 0))), ss.getD q.2 (("", 0), ((0, 0), (0, 0))))
def meetFirst : List ((Sid × Sg) × (Sid × Sg)) → PyData
  | [] => .none
  | q :: qs => if wrongZ q.1.2 q.2.2 = true then .tuple [.str "meet", sidD q.1.1, sidD q.2.1] else meetFirst qs
def meetingZ (w : Mp) : PyData := meetFirst (pairsOf (segsOf w))
def onOne (s : Sid × Sg) : List (Pid × Pt) → Option PyData
  | [] => none
  | p :: ps => if (!inSg p.2 s.2 && onZ p.2 s.2) = true then some (.tuple [.str "on", pidD p.1, sidD s.1]) else onOne s ps
def onFirst (ps : List (Pid × Pt)) : List (Sid × Sg) → PyData
  | [] => .none
  | s :: ss => match onOne s ps with
    | some d => d
    | none => onFirst ps ss
def onSegZ (w : Mp) : PyData := onFirst (standing w) (segsOf w)
def orZ (a b : PyData) : PyData := if isNone a = true then b else a
def faultZ (w : Mp) : PyData := orZ (twinsZ w) (orZ (sameZ w) (orZ (meetingZ w) (onSegZ w)))
def cornersOf (l : Ln) : List (Nat × Pt) := (List.range l.cs.length).map fun k => (k, l.cs.getD k (0, 0))
theorem enum_corners (l : Ln) : enumD (l.cs.map ptD) = (cornersOf l).map fun q => .tuple [.int (q.1 : Nat), ptD q.2] := by
  unfold enumD cornersOf
  rw [List.length_map, List.map_map]
  refine List.map_congr_left fun k hk => ?_
  have hk := List.mem_range.mp hk
  show PyData.tuple [_, (l.cs.map ptD).getD k .none] = PyData.tuple [_, ptD (l.cs.getD k (0, 0))]
  rw [List.getD_eq_getElem?_getD, List.getElem?_map, List.getD_eq_getElem?_getD, List.getElem?_eq_getElem hk]
  rfl
theorem drop_at {α : Type} {l : List α} {i : Nat} {x : α} (h : l[i]? = some x) : l.drop i = x :: l.drop (i + 1) := by
  obtain ⟨hi, e⟩ := List.getElem?_eq_some_iff.mp h
  rw [List.drop_eq_getElem_cons hi, e]
theorem at_map {α : Type} {l : List α} {f : α → Val} {i : Nat} {x : Val} (h : (l.map f)[i]? = some x) : ∃ a, l[i]? = some a ∧ x = f a := by
  rw [List.getElem?_map] at h
  cases z : l[i]? with
  | none => rw [z] at h; cases h
  | some a => rw [z] at h; cases h; exact ⟨a, rfl, rfl⟩
theorem eqv_pt (p q : Pt) : PyData.eqv (ptD p) (ptD q) = decide (p = q) := by
  obtain ⟨a, b⟩ := p
  obtain ⟨c, d⟩ := q
  simp only [ptD, PyData.eqv, PyData.eqvAll, Prod.mk.injEq]
  by_cases h1 : a = c <;> by_cases h2 : b = d <;> simp [h1, h2]
theorem shaped_pt (p : Pt) : SeqAt.shaped (ptD p) = true := rfl
theorem shaped_sg (s : Sg) : SeqAt.shaped (.tuple [ptD s.1, ptD s.2]) = true := rfl
theorem any_sg (p : Pt) (s : Sg) : ([ptD s.1, ptD s.2].any fun z => PyData.eqv z (ptD p)) = inSg p s := by
  simp [inSg, eqv_pt]
theorem farOf_near {p : Pt} {s : Sg} (h : Near s.1 ∧ Near s.2) : Near (farOf p s) := by
  unfold farOf
  split
  · exact h.2
  · exact h.1
def dummy : Sid × Sg := (("", 0), ((0, 0), (0, 0)))
theorem comb_segs (ss : List (Sid × Sg)) : combD (ss.map segD) = (pairsOf ss).map fun q => .tuple [segD q.1, segD q.2] := by
  unfold combD pairsOf
  rw [List.length_map, List.map_map]
  refine List.map_congr_left fun q hq => ?_
  have lt := PwC.prs_lt hq
  show PyData.tuple [(ss.map segD).getD q.1 .none, (ss.map segD).getD q.2 .none] = PyData.tuple [segD (ss.getD q.1 _), segD (ss.getD q.2 _)]
  simp only [List.getD_eq_getElem?_getD, List.getElem?_map]
  rw [List.getElem?_eq_getElem (by omega : q.1 < ss.length), List.getElem?_eq_getElem (by omega : q.2 < ss.length)]
  rfl
theorem pairs_mem {ss : List (Sid × Sg)} {q : (Sid × Sg) × (Sid × Sg)} (h : q ∈ pairsOf ss) : q.1 ∈ ss ∧ q.2 ∈ ss := by
  obtain ⟨r, hr, rfl⟩ := List.mem_map.mp h
  have lt := PwC.prs_lt hr
  exact ⟨getD_mem (by omega), getD_mem (by omega)⟩
theorem pid_true (p : Pid) : isNone (pidD p) = false := by cases p <;> rfl
/-! ### promises -/
theorem eo_c1 {g : List Pw.Arg → Ret → (Nat → Cont) → Prop} {E : XK} {ta : TE} {ρ ρ1 : List Slot} {a : PyData} {c : Cont} (h : EV ta ρ (.d a) ρ1) (hg : g [.d (.d a)] (.o c) (fun _ => .lst [])) : EO (tCall (spG g) [] E (tCons ta tNil)) ρ c ρ1 := by
  have z := eo_call (E := E) (g := g) (c := c) (outs := fun _ => .lst []) (ss := [a].map fun d => Src.d (.d d)) (ea_cons h ea_nil) srcOk_data hg
  rw [putOuts_data] at z
  exact z
def gPlaces (as : List Pw.Arg) (ret : Ret) (outs : Nat → Cont) : Prop := ∃ w : Mp, w.Ok ∧ as = [.d (.d (mpD w))] ∧ ret = .o (.dk (placeKvs w))
def gPaths (as : List Pw.Arg) (ret : Ret) (outs : Nat → Cont) : Prop := ∃ w : Mp, w.Ok ∧ as = [.d (.d (mpD w))] ∧ ret = .o (.dk (pathKvs w))
theorem lenPlaces {vs : List V} {H : Hp} {Q : VK} {E : XK} (s : spG gPlaces vs H Q E) : vs.length = 1 := len_of (fun _ _ _ ⟨_, _, e, _⟩ => by rw [e]; rfl) s
theorem lenPaths {vs : List V} {H : Hp} {Q : VK} {E : XK} (s : spG gPaths vs H Q E) : vs.length = 1 := len_of (fun _ _ _ ⟨_, _, e, _⟩ => by rw [e]; rfl) s
def gMp (f : Mp → PyData) (a y : PyData) : Prop := ∃ w : Mp, w.Ok ∧ a = mpD w ∧ y = f w
def gWrong (a b y : PyData) : Prop := ∃ s t : Sg, a = sgD s ∧ b = sgD t ∧ (Near s.1 ∧ Near s.2) ∧ (Near t.1 ∧ Near t.2) ∧ y = .bool (wrongZ s t)
end Pv

set_option Elab.async false
set_option linter.all false
set_option maxRecDepth 100000
/-! From what is_map accepts to maps of plain tuples. -/
namespace Pv
open PySem L2 Pw
theorem eqv_str {s : Str} {d : PyData} (h : PyData.eqv (.str s) d = true) : d = .str s := by
  cases d <;> simp [PyData.eqv] at h
  rw [h]
theorem bet_int {d : PyData} {lo hi : Int} (h : betZ d lo hi = true) : ∃ i, d = .int i ∧ lo ≤ i ∧ i ≤ hi := by
  cases d <;> first | (cases h; done) | skip
  simp only [betZ, Bool.and_eq_true, decide_eq_true_eq] at h
  exact ⟨_, rfl, h.1, h.2⟩
theorem place_pt {d : PyData} (h : placeZ d 1000000000 = true) : ∃ p : Pt, seqOf d = some [.int p.1, .int p.2] ∧ Far p := by
  simp only [placeZ, Bool.and_eq_true] at h
  obtain ⟨ds, hd, hl⟩ := row_seq h.1
  have h2 := h.2
  rw [hd] at h2
  have hl : ds.length = 2 := by omega
  match ds, hl with
  | [a, b], _ =>
  simp only [Option.getD_some, List.all_cons, List.all_nil, Bool.and_true, Bool.and_eq_true] at h2
  obtain ⟨x, rfl, x1, x2⟩ := bet_int h2.1
  obtain ⟨y, rfl, y1, y2⟩ := bet_int h2.2
  exact ⟨(x, y), hd, ⟨x1, x2⟩, y1, y2⟩
theorem tup_seq {d : PyData} {ds : List PyData} (h : seqOf d = some ds) : tupZ d = .tuple (ds.map tupZ) := (seq_tup h).1
theorem tup_int (i : Int) : tupZ (.int i) = .int i := by simp [tupZ]
theorem tup_str (s : Str) : tupZ (.str s) = .str s := by simp [tupZ]
theorem tup_place {d : PyData} (h : placeZ d 1000000000 = true) : ∃ p : Pt, tupZ d = ptD p ∧ Far p := by
  obtain ⟨p, e, f⟩ := place_pt h
  refine ⟨p, ?_, f⟩
  rw [tup_seq e]
  simp [tup_int, ptD]
theorem seq_with' {v : PyData} {ds es : List PyData} (h : seqOf v = some ds) : seqOf (withSeq v es) = some es := seq_with h
theorem node_nd {d : PyData} (h : nodeZ d 1000000000 = true) : ∃ n : Nd, tupZ d = ndD n ∧ nm d = n.name ∧ (Far n.p ∧ nameZ (.str n.name) = true) := by
  have h0 := h
  simp only [nodeZ, Bool.and_eq_true] at h
  obtain ⟨ds, hd, hl⟩ := row_seq h.1
  have hl : ds.length = 3 := by omega
  match ds, hl with
  | [a, b, c], _ =>
  have ea : at0 d = a := by simp [at0, hd]
  obtain ⟨z, hz⟩ := name_str h.2.1
  rw [ea] at hz
  subst hz
  obtain ⟨p, e, f⟩ := place_pt h.2.2
  rw [seq_with hd] at e
  have e2 : [b, c] = [PyData.int p.1, .int p.2] := by simpa [hd] using e
  cases e2
  refine ⟨⟨z, p⟩, ?_, ?_, f, by rw [ea] at h; exact h.2.1⟩
  · rw [tup_seq hd]; simp [tup_int, tup_str, ndD]
  · simp [nm, ea]
theorem mark_mk {d : PyData} (h : markZ d 1000000000 1000000 = true) : ∃ n : Mk, tupZ d = mkD n ∧ nm d = n.name ∧ (Far n.p ∧ nameZ (.str n.name) = true) := by
  simp only [markZ, Bool.and_eq_true] at h
  obtain ⟨ds, hd, hl⟩ := row_seq h.1
  have hl : ds.length = 5 := by omega
  match ds, hl with
  | [a, b, c, u, v], _ =>
  have ea : at0 d = a := by simp [at0, hd]
  have ep : partsD d = [a, b, c, u, v] := by simp [partsD, hd]
  obtain ⟨z, hz⟩ := name_str h.2.1
  rw [ea] at hz
  subst hz
  obtain ⟨p, e, f⟩ := place_pt h.2.2.1
  rw [seq_with hd] at e
  have e2 : [b, c] = [PyData.int p.1, .int p.2] := by simpa [ep] using e
  cases e2
  have h3 := h.2.2.2
  rw [ep] at h3
  simp only [List.drop_succ_cons, List.drop_zero, List.all_cons, List.all_nil, Bool.and_true, Bool.and_eq_true] at h3
  obtain ⟨x, rfl, _⟩ := bet_int h3.1
  obtain ⟨y, rfl, _⟩ := bet_int h3.2
  refine ⟨⟨z, p, x, y⟩, ?_, ?_, f, by rw [ea] at h; exact h.2.1⟩
  · rw [tup_seq hd]; simp [tup_int, tup_str, mkD]
  · simp [nm, ea]
theorem choose_list {α : Type} {f : α → PyData} {g : α → Str} {Q : α → Prop} : ∀ {ds : List PyData}, (∀ d ∈ ds, ∃ x, tupZ d = f x ∧ nm d = g x ∧ Q x) → ∃ xs : List α, ds.map tupZ = xs.map f ∧ ds.map nm = xs.map g ∧ (∀ x ∈ xs, Q x) ∧ xs.length = ds.length
  | [], _ => ⟨[], rfl, rfl, fun _ h => (by cases h), rfl⟩
  | d :: ds, h => by
    obtain ⟨x, h1, h2, h3⟩ := h d List.mem_cons_self
    obtain ⟨xs, g1, g2, g3, g4⟩ := choose_list fun y hy => h y (List.mem_cons_of_mem _ hy)
    refine ⟨x :: xs, by simp [h1, g1], by simp [h2, g2], fun y hy => ?_, by simp [g4]⟩
    rcases List.mem_cons.mp hy with rfl | hy
    · exact h3
    · exact g3 y hy
theorem choose_places : ∀ {ds : List PyData}, (∀ d ∈ ds, placeZ d 1000000000 = true) → ∃ ps : List Pt, ds.map tupZ = ps.map ptD ∧ (∀ p ∈ ps, Far p) ∧ ps.length = ds.length
  | [], _ => ⟨[], rfl, fun _ h => (by cases h), rfl⟩
  | d :: ds, h => by
    obtain ⟨x, h1, h3⟩ := tup_place (h d List.mem_cons_self)
    obtain ⟨xs, g1, g3, g4⟩ := choose_places fun y hy => h y (List.mem_cons_of_mem _ hy)
    refine ⟨x :: xs, by simp [h1, g1], fun y hy => ?_, by simp [g4]⟩
    rcases List.mem_cons.mp hy with rfl | hy
    · exact h3
    · exact g3 y hy
theorem mem_names {ns : List Str} {d : PyData} (h : memN ns d = true) : ∃ s, d = .str s ∧ s ∈ ns := by
  unfold memN at h
  rw [List.any_eq_true] at h
  obtain ⟨y, hy, e⟩ := h
  obtain ⟨s, hs, rfl⟩ := List.mem_map.mp hy
  exact ⟨s, eqv_str e, hs⟩
theorem line_ln {d : PyData} {ns : List Str} (h : lineZ d ns 1000000000 = true) : ∃ l : Ln, tupZ d = lnD l ∧ nm d = l.name ∧ (l.s ∈ ns ∧ l.e ∈ ns ∧ l.s ≠ l.e ∧ l.cs.length ≤ 12 ∧ (∀ c ∈ l.cs, Far c) ∧ nameZ (.str l.name) = true) := by
  simp only [lineZ, Bool.and_eq_true] at h
  obtain ⟨r4, hn, m1, m2, ne, c12, pl⟩ := h
  obtain ⟨ds, hd, hl⟩ := row_seq r4
  have hl : ds.length = 4 := by omega
  match ds, hl with
  | [a, b, c, e], _ =>
  have ea : at0 d = a := by simp [at0, hd]
  have e1 : partD d 1 = b := by simp [partD, partsD, hd]
  have e2 : partD d 2 = c := by simp [partD, partsD, hd]
  have e3 : partD d 3 = e := by simp [partD, partsD, hd]
  rw [e1] at m1 ne
  rw [e2] at m2 ne
  rw [e3] at c12 pl
  obtain ⟨z, hz⟩ := name_str hn
  rw [ea] at hz
  subst hz
  obtain ⟨s, rfl, hs⟩ := mem_names m1
  obtain ⟨t, rfl, ht⟩ := mem_names m2
  obtain ⟨cs, hc, lc⟩ := col_seq c12
  rw [show partsD e = cs by rw [partsD, hc]; rfl] at pl
  obtain ⟨ps, p1, p2, p3⟩ := choose_places (List.all_eq_true.mp pl)
  refine ⟨⟨z, s, t, ps⟩, ?_, ?_, hs, ht, fun q => ?_, by show ps.length ≤ 12; omega, p2, by rw [ea] at hn; exact hn⟩
  · rw [tup_seq hd]
    simp only [List.map_cons, List.map_nil, tup_str, lnD]
    rw [tup_seq hc, p1]
  · simp [nm, ea]
  · have q : s = t := q
    subst q
    simp [PyData.eqv] at ne
theorem dif_nodup {v : PyData} {α : Type} {xs : List α} {g : α → Str} (h : difZ v = true) (e : (partsD v).map nm = xs.map g) : (xs.map g).Nodup := by
  unfold difZ at h
  rw [e] at h
  exact of_decide_eq_true h
theorem map_mp {a : PyData} (h : mapZ a = true) : ∃ m : Mp, m.Ok ∧ tupZ a = mpD m := by
  simp only [mapZ, Bool.and_eq_true] at h
  obtain ⟨r3, ⟨cn, an⟩, ⟨cm, am⟩, ⟨cl, al⟩, cnt, dn, dl, dm⟩ := h
  obtain ⟨ds, hd, hl⟩ := row_seq r3
  have hl : ds.length = 3 := by omega
  match ds, hl with
  | [n, l, m], _ =>
  have e0 : partD a 0 = n := by simp [partD, partsD, hd]
  have e1 : partD a 1 = l := by simp [partD, partsD, hd]
  have e2 : partD a 2 = m := by simp [partD, partsD, hd]
  rw [e0] at cn an dn al
  rw [e1] at cl al dl
  rw [e2] at cm am dm
  obtain ⟨ns, hn, ln⟩ := col_seq cn
  obtain ⟨ls, hls, ll⟩ := col_seq cl
  obtain ⟨ms, hm, lm⟩ := col_seq cm
  have pn : partsD n = ns := by simp [partsD, hn]
  have pl : partsD l = ls := by simp [partsD, hls]
  have pm : partsD m = ms := by simp [partsD, hm]
  rw [pn] at an
  rw [pl] at al
  rw [pm] at am
  obtain ⟨Ns, n1, n2, n3, n4⟩ := choose_list (f := ndD) (g := (·.name)) (Q := fun x => Far x.p ∧ nameZ (.str x.name) = true) fun d hd => node_nd (List.all_eq_true.mp an d hd)
  obtain ⟨Ls, l1, l2, l3, l4⟩ := choose_list (f := lnD) (g := (·.name)) (Q := fun x => x.s ∈ namesZ n ∧ x.e ∈ namesZ n ∧ x.s ≠ x.e ∧ x.cs.length ≤ 12 ∧ (∀ c ∈ x.cs, Far c) ∧ nameZ (.str x.name) = true) fun d hd => line_ln (List.all_eq_true.mp al d hd)
  obtain ⟨Ms, m1, m2, m3, m4⟩ := choose_list (f := mkD) (g := (·.name)) (Q := fun x => Far x.p ∧ nameZ (.str x.name) = true) fun d hd => mark_mk (List.all_eq_true.mp am d hd)
  have en : namesZ n = Ns.map (·.name) := by rw [namesZ, pn, n2]
  refine ⟨⟨Ns, Ls, Ms⟩, ?_, ?_⟩
  · exact {
      nn := dif_nodup dn (by rw [pn, n2])
      ln := dif_nodup dl (by rw [pl, l2])
      mn := dif_nodup dm (by rw [pm, m2])
      hs := fun x hx => by have := (l3 x hx).1; rw [en] at this; exact this
      he := fun x hx => by have := (l3 x hx).2.1; rw [en] at this; exact this
      hd := fun x hx => (l3 x hx).2.2.1
      cn := by show Ns.length ≤ 16; omega
      cl := by show Ls.length ≤ 16; omega
      cm := by show Ms.length ≤ 10; omega
      cc := fun x hx => (l3 x hx).2.2.2.1
      fn := fun x hx => (n3 x hx).1
      fc := fun x hx => (l3 x hx).2.2.2.2.1
      fm := fun x hx => (m3 x hx).1
      tn := fun x hx => (n3 x hx).2
      tl := fun x hx => (l3 x hx).2.2.2.2.2
      tm := fun x hx => (m3 x hx).2 }
  · rw [tup_seq hd]
    simp only [List.map_cons, List.map_nil, mpD]
    rw [tup_seq hn, tup_seq hls, tup_seq hm, n1, l1, m1]
/-! ### faults are None or a triple -/
def IsFault (d : PyData) : Prop := d = .none ∨ ∃ a b c, d = .tuple [a, b, c]
theorem tru_fault {d : PyData} (h : IsFault d) : truD d = some (!isNone d) := by
  rcases h with rfl | ⟨a, b, c, rfl⟩ <;> rfl
theorem twinsFrom_is : ∀ (ls : List Ln) (acc : List (List Key × PyData)), IsFault (twinsFrom acc ls)
  | [], _ => .inl rfl
  | l :: ls, acc => by
    unfold twinsFrom
    split
    · exact .inr ⟨_, _, _, rfl⟩
    · exact twinsFrom_is ls _
theorem twins_is (m : Mp) : IsFault (twinsZ m) := twinsFrom_is _ _
theorem sameFrom_is : ∀ (ps : List (Pid × Pt)) (acc : List (List Key × PyData)), IsFault (sameFrom acc ps)
  | [], _ => .inl rfl
  | p :: ps, acc => by
    unfold sameFrom
    split
    · exact .inr ⟨_, _, _, rfl⟩
    · exact sameFrom_is ps _
theorem same_is (m : Mp) : IsFault (sameZ m) := sameFrom_is _ _
theorem meetFirst_is : ∀ qs : List ((Sid × Sg) × (Sid × Sg)), IsFault (meetFirst qs)
  | [] => .inl rfl
  | q :: qs => by
    unfold meetFirst
    split
    · exact .inr ⟨_, _, _, rfl⟩
    · exact meetFirst_is qs
theorem meeting_is (m : Mp) : IsFault (meetingZ m) := meetFirst_is _
theorem orZ_if (a b : PyData) : (if (!isNone a) = true then a else b) = orZ a b := by
  unfold orZ
  cases isNone a <;> rfl
def gLegal (a y : PyData) : Prop := Nice 9 a ∧ ((mapZ a = false ∧ y = .bool false) ∨ ∃ m : Mp, m.Ok ∧ tupZ a = mpD m ∧ mapZ a = true ∧ y = .bool (isNone (faultZ m)))
end Pv

set_option Elab.async false
set_option linter.all false
set_option maxRecDepth 100000
/-! The law's own look at maps. -/
namespace Pw
open PySem L2
variable {ρ ρ1 : List Slot} {ta tb : TE} {K : PySem.W.Frag}
/-- d in xs, d not in xs, xs a list of one's own -/
theorem ev_inO {i : Nat} {l : Bool} {d : PyData} {ds : List PyData} (h : EV ta ρ (.d d) ρ1) (h1 : ρ1[i]? = some (.own l (.lst ds))) (ha : SeqAt.shaped d = true) (hb : SeqAt.shaped (.list ds) = true) : EV (tOp (rInU K) ta (tVar i)) ρ (.d (.bool (ds.any fun z => PyData.eqv z d))) ρ1 := fun e F σ H Q S k =>
  h e F σ H _ S fun F' H' v f S' r => by
    obtain ⟨a, o, e1, e2, e3, ⟨xs, e4, rx⟩, _⟩ := S'.own i l _ h1
    subst e4
    have r : Rp F' v d := r
    exact ⟨.ref a, e1, .inr (.inl ⟨d, ds, r.dp S'.sub, .lst (SqL.of e3) (rx.dp S'.sub), ha, hb, k F' H' _ f S' (Rp.bl _)⟩)⟩
theorem ev_notInO {i : Nat} {l : Bool} {d : PyData} {ds : List PyData} (h : EV ta ρ (.d d) ρ1) (h1 : ρ1[i]? = some (.own l (.lst ds))) (ha : SeqAt.shaped d = true) (hb : SeqAt.shaped (.list ds) = true) : EV (tOp (rNotInU K) ta (tVar i)) ρ (.d (.bool (!ds.any fun z => PyData.eqv z d))) ρ1 := fun e F σ H Q S k =>
  h e F σ H _ S fun F' H' v f S' r => by
    obtain ⟨a, o, e1, e2, e3, ⟨xs, e4, rx⟩, _⟩ := S'.own i l _ h1
    subst e4
    have r : Rp F' v d := r
    exact ⟨.ref a, e1, .inr (.inl ⟨d, ds, r.dp S'.sub, .lst (SqL.of e3) (rx.dp S'.sub), ha, hb, k F' H' _ f S' (Rp.bl _)⟩)⟩
end Pw
namespace Pv
open PySem L2 Pw
/-! ### values of tuples alone -/
mutual
def noList : PyData → Bool
  | .list _ => false
  | .tuple xs => noLists xs
  | _ => true
def noLists : List PyData → Bool
  | [] => true
  | x :: xs => noList x && noLists xs
end
theorem noList_mem : ∀ {xs : List PyData} {x : PyData}, noLists xs = true → x ∈ xs → noList x = true
  | a :: xs, x, k, h => by
    simp only [noLists, Bool.and_eq_true] at k
    rcases List.mem_cons.mp h with rfl | h
    · exact k.1
    · exact noList_mem k.2 h
theorem noList_seq {v : PyData} {ds : List PyData} (h : noList v = true) (e : seqOf v = some ds) : v = .tuple ds ∧ noLists ds = true := by
  cases v <;> first | (cases e; done) | skip
  · simp [noList] at h
  · cases e; exact ⟨rfl, by simpa [noList] using h⟩
theorem noList_part {v : PyData} (h : noList v = true) (i : Nat) : noList (partD v i) = true := by
  cases e : seqOf v with
  | none => simp [partD, partsD, e, noList]
  | some ds =>
    obtain ⟨rfl, hl⟩ := noList_seq h e
    simp only [partD, partsD, seqOf, Option.getD_some]
    rw [List.getD_eq_getElem?_getD]
    cases z : ds[i]? with
    | none => simp [noList]
    | some d => exact noList_mem hl (List.mem_of_getElem? z)
theorem tup_of {v : PyData} (h : isTup v = true) : ∃ ds, v = .tuple ds := by
  cases v <;> first | (cases h; done) | exact ⟨_, rfl⟩
/-! ### rows -/
def rowOkB (d : PyData) (width : Int) : Bool := isTup d && (rowZ d width && nameZ (at0 d))
def rowB (v : PyData) (most width : Int) : Bool := match v with
  | .tuple ds => decide ((ds.length : Int) ≤ most) && (ds.all (fun d => rowOkB d width) && decide ((ds.map nm).Nodup))
  | _ => false
def gLRow (a b c y : PyData) : Prop := ∃ most width : Nat, Nice 9 a ∧ b = .int most ∧ c = .int (width + 1 : Nat) ∧ y = .bool (rowB a most (width + 1 : Nat))
/-! ### the parts -/
def numOk (d : PyData) : Bool := betZ (partD d 1) (-1000000000) 1000000000 && betZ (partD d 2) (-1000000000) 1000000000
def labOk (d : PyData) : Bool := betZ (partD d 3) 0 1000000 && betZ (partD d 4) 0 1000000
def plOk (c : PyData) : Bool := isTup c && (rowZ c 2 && (betZ (partD c 0) (-1000000000) 1000000000 && betZ (partD c 1) (-1000000000) 1000000000))
def linOk (ns : List Str) (d : PyData) : Bool := memN ns (partD d 1) && (memN ns (partD d 2) && (!PyData.eqv (partD d 1) (partD d 2) && (isTup (partD d 3) && (colZ (partD d 3) 12 && (partsD (partD d 3)).all plOk))))
def lawB (v : PyData) : Bool := isTup v && (rowZ v 3 && ((rowB (partD v 0) 16 3 && (rowB (partD v 1) 16 4 && rowB (partD v 2) 10 5)) && ((partsD (partD v 0) ++ partsD (partD v 2)).all numOk && ((partsD (partD v 2)).all labOk && ((partsD (partD v 1)).all (linOk (namesZ (partD v 0))) && decide (cntZ (partD v 1) ≤ 60))))))
theorem place_two {d : PyData} {f : Int} : placeZ d f = (rowZ d 2 && (betZ (partD d 0) (-f) f && betZ (partD d 1) (-f) f)) := by
  unfold placeZ
  cases h : rowZ d 2 with
  | false => rfl
  | true =>
    obtain ⟨ds, hd, hl⟩ := row_seq h
    have hl : ds.length = 2 := by omega
    match ds, hl with
    | [a, b], _ => simp [partD, partsD, hd]
theorem seq_withAll {v : PyData} {ds es : List PyData} (h : seqOf v = some ds) : partsD (withSeq v es) = es := by
  rw [partsD, seq_with h]; rfl
theorem row_with {v : PyData} {ds es : List PyData} {n : Int} (h : seqOf v = some ds) (hn : (es.length : Int) = n) : rowZ (withSeq v es) n = true := by
  cases v <;> first | (cases h; done) | exact decide_eq_true hn
theorem node_eq {d : PyData} : nodeZ d 1000000000 = (rowZ d 3 && (nameZ (at0 d) && numOk d)) := by
  unfold nodeZ
  cases h : rowZ d 3 with
  | false => rfl
  | true =>
    obtain ⟨ds, hd, hl⟩ := row_seq h
    have hl : ds.length = 3 := by omega
    match ds, hl with
    | [a, b, c], _ =>
      have ew : ∀ i, partD (withSeq d (((seqOf d).getD []).drop 1)) i = [b, c].getD i .none := fun i => by
        simp only [partD]
        rw [seq_withAll hd, hd]; rfl
      rw [place_two, row_with hd (by simp [hd]), ew 0, ew 1]
      simp [numOk, partD, partsD, hd]
theorem mark_eq {d : PyData} : markZ d 1000000000 1000000 = (rowZ d 5 && (nameZ (at0 d) && (numOk d && labOk d))) := by
  unfold markZ
  cases h : rowZ d 5 with
  | false => rfl
  | true =>
    obtain ⟨ds, hd, hl⟩ := row_seq h
    have hl : ds.length = 5 := by omega
    match ds, hl with
    | [a, b, c, e, f], _ =>
      have ep : partsD d = [a, b, c, e, f] := by simp [partsD, hd]
      rw [place_two, row_with hd (by simp [ep]), show partD (withSeq d (((partsD d).drop 1).take 2)) 0 = partD d 1 by simp [partD, seq_withAll hd, ep], show partD (withSeq d (((partsD d).drop 1).take 2)) 1 = partD d 2 by simp [partD, seq_withAll hd, ep]]
      simp [numOk, labOk, partD, ep]
theorem isTup_seq {v : PyData} {ds : List PyData} (h : noList v = true) (e : seqOf v = some ds) : isTup v = true := by
  obtain ⟨rfl, _⟩ := noList_seq h e; rfl
theorem row_isTup {v : PyData} {n : Int} (h : noList v = true) (e : rowZ v n = true) : isTup v = true := by
  obtain ⟨ds, hd, _⟩ := row_seq e
  exact isTup_seq h hd
theorem col_isTup {v : PyData} {n : Int} (h : noList v = true) (e : colZ v n = true) : isTup v = true := by
  obtain ⟨ds, hd, _⟩ := col_seq e
  exact isTup_seq h hd
theorem pl_eq {c : PyData} (h : noList c = true) : plOk c = placeZ c 1000000000 := by
  rw [place_two]
  unfold plOk
  cases e : rowZ c 2 with
  | false => cases isTup c <;> rfl
  | true => rw [row_isTup h e]; rfl
theorem parts_noList {v : PyData} (h : noList v = true) : ∀ d ∈ partsD v, noList d = true := by
  intro d hd
  cases e : seqOf v with
  | none => simp [partsD, e] at hd
  | some ds =>
    obtain ⟨rfl, hl⟩ := noList_seq h e
    exact noList_mem hl (by simpa [partsD, seqOf] using hd)
theorem lin_eq {d : PyData} {ns : List Str} (h : noList d = true) : lineZ d ns 1000000000 = (rowZ d 4 && (nameZ (at0 d) && linOk ns d)) := by
  unfold lineZ linOk
  have hp := noList_part h 3
  have all : (partsD (partD d 3)).all (fun c => placeZ c 1000000000) = (partsD (partD d 3)).all plOk := by
    rw [Bool.eq_iff_iff, List.all_eq_true, List.all_eq_true]
    exact ⟨fun q c hc => by rw [pl_eq (parts_noList hp c hc)]; exact q c hc, fun q c hc => by rw [← pl_eq (parts_noList hp c hc)]; exact q c hc⟩
  rw [all]
  cases e : colZ (partD d 3) 12 with
  | false => cases isTup (partD d 3) <;> rfl
  | true => rw [col_isTup hp e]; simp
theorem rowB_eq {v : PyData} {most : Int} {width : Int} (h : noList v = true) : rowB v most width = (colZ v most && ((partsD v).all (fun d => rowZ d width && nameZ (at0 d)) && difZ v)) := by
  unfold difZ
  cases v <;> first | rfl | skip
  · simp [noList] at h
  · rename_i ds
    have hl : noLists ds = true := by simpa [noList] using h
    have all : ds.all (fun d => rowOkB d width) = ds.all (fun d => rowZ d width && nameZ (at0 d)) := by
      rw [Bool.eq_iff_iff, List.all_eq_true, List.all_eq_true]
      refine ⟨fun q d hd => ?_, fun q d hd => ?_⟩
      · have := q d hd
        simp only [rowOkB, Bool.and_eq_true] at this
        simp [this.2]
      · have := q d hd
        simp only [Bool.and_eq_true] at this
        simp [rowOkB, this, row_isTup (noList_mem hl hd) this.1]
    show (decide ((ds.length : Int) ≤ most) && (ds.all (fun d => rowOkB d width) && decide ((ds.map nm).Nodup))) = (decide ((ds.length : Int) ≤ most) && (ds.all (fun d => rowZ d width && nameZ (at0 d)) && decide ((ds.map nm).Nodup)))
    rw [all]
theorem and_all {α : Type} {l : List α} {p q : α → Bool} : (l.all fun x => p x && q x) = (l.all p && l.all q) := by
  induction l with
  | nil => rfl
  | cons a l ih => simp only [List.all_cons, ih]; cases p a <;> cases q a <;> cases l.all p <;> cases l.all q <;> rfl
theorem lawB_eq {v : PyData} (h : noList v = true) : lawB v = mapZ v := by
  unfold lawB mapZ
  cases e : rowZ v 3 with
  | false => cases isTup v <;> rfl
  | true =>
    rw [row_isTup h e, rowB_eq (noList_part h 0), rowB_eq (noList_part h 1), rowB_eq (noList_part h 2)]
    have a0 : (partsD (partD v 0)).all (fun d => nodeZ d 1000000000) = ((partsD (partD v 0)).all (fun d => rowZ d 3 && nameZ (at0 d)) && (partsD (partD v 0)).all numOk) := by
      rw [← and_all]; congr 1; funext d; rw [node_eq]; cases rowZ d 3 <;> cases nameZ (at0 d) <;> rfl
    have a2 : (partsD (partD v 2)).all (fun d => markZ d 1000000000 1000000) = ((partsD (partD v 2)).all (fun d => rowZ d 5 && nameZ (at0 d)) && ((partsD (partD v 2)).all numOk && (partsD (partD v 2)).all labOk)) := by
      rw [← and_all, ← and_all]; congr 1; funext d; rw [mark_eq]; cases rowZ d 5 <;> cases nameZ (at0 d) <;> rfl
    have a1 : (partsD (partD v 1)).all (fun d => lineZ d (namesZ (partD v 0)) 1000000000) = ((partsD (partD v 1)).all (fun d => rowZ d 4 && nameZ (at0 d)) && (partsD (partD v 1)).all (linOk (namesZ (partD v 0)))) := by
      rw [← and_all, Bool.eq_iff_iff, List.all_eq_true, List.all_eq_true]
      have hp := parts_noList (noList_part h 1)
      refine ⟨fun q d hd => ?_, fun q d hd => ?_⟩
      · have := q d hd
        rw [lin_eq (hp d hd)] at this
        simp only [Bool.and_eq_true] at this ⊢
        exact ⟨⟨this.1, this.2.1⟩, this.2.2⟩
      · have := q d hd
        rw [lin_eq (hp d hd)]
        simp only [Bool.and_eq_true] at this ⊢
        exact ⟨this.1.1, this.1.2, this.2⟩
    rw [a0, a1, a2, List.all_append]
    generalize colZ (partD v 0) 16 = b1
    generalize colZ (partD v 1) 16 = b2
    generalize colZ (partD v 2) 10 = b3
    generalize difZ (partD v 0) = b4
    generalize difZ (partD v 1) = b5
    generalize difZ (partD v 2) = b6
    generalize (partsD (partD v 0)).all numOk = b7
    generalize (partsD (partD v 2)).all numOk = b8
    generalize (partsD (partD v 2)).all labOk = b9
    generalize ((partsD (partD v 0)).all fun d => rowZ d 3 && nameZ (at0 d)) = c1
    generalize ((partsD (partD v 1)).all fun d => rowZ d 4 && nameZ (at0 d)) = c2
    generalize ((partsD (partD v 2)).all fun d => rowZ d 5 && nameZ (at0 d)) = c3
    generalize (partsD (partD v 1)).all (linOk (namesZ (partD v 0))) = c4
    generalize decide (cntZ (partD v 1) ≤ 60) = c5
    simp only [Bool.true_and]
    rw [Bool.eq_iff_iff]
    simp only [Bool.and_eq_true]
    constructor <;> intro q <;> simp [q]
theorem all_false {α : Type} {l : List α} {p : α → Bool} {d : α} (h : d ∈ l) (e : p d = false) : l.all p = false := by
  cases z : l.all p with
  | false => rfl
  | true => rw [List.all_eq_true.mp z d h] at e; cases e
theorem ev_pow9 {ρ : List Slot} : EV (tOp (rI CPow fun i j => .int (i ^ j.toNat)) (tC (.int 10)) (tC (.int 9))) ρ (.d (.int 1000000000)) ρ := by
  have z := ev_op (ρ := ρ) (ev_int (i := 10)) (ev_int (i := 9)) (opd_I (C := CPow) (g := fun i j => i ^ j.toNat) ⟨by decide, by decide, by decide⟩)
  rw [show (10 : Int) ^ ((9 : Int).toNat) = 1000000000 by decide] at z
  exact z
theorem ev_pow6 {ρ : List Slot} : EV (tOp (rI CPow fun i j => .int (i ^ j.toNat)) (tC (.int 10)) (tC (.int 6))) ρ (.d (.int 1000000)) ρ := by
  have z := ev_op (ρ := ρ) (ev_int (i := 10)) (ev_int (i := 6)) (opd_I (C := CPow) (g := fun i j => i ^ j.toNat) ⟨by decide, by decide, by decide⟩)
  rw [show (10 : Int) ^ ((6 : Int).toNat) = 1000000 by decide] at z
  exact z
theorem row_parts {v : PyData} {most width : Int} (h : rowB v most width = true) : ∃ ds, v = .tuple ds ∧ (ds.length : Int) ≤ most ∧ ∀ d ∈ ds, ∃ es s, d = .tuple es ∧ (es.length : Int) = width ∧ at0 d = .str s := by
  cases v <;> first | (cases h; done) | skip
  rename_i ds
  have h : (decide ((ds.length : Int) ≤ most) && (ds.all (fun d => rowOkB d width) && decide ((ds.map nm).Nodup))) = true := h
  simp only [Bool.and_eq_true, decide_eq_true_eq, List.all_eq_true] at h
  refine ⟨ds, rfl, h.1, fun d hd => ?_⟩
  have := h.2.1 d hd
  simp only [rowOkB, Bool.and_eq_true] at this
  obtain ⟨es, rfl⟩ := tup_of this.1
  obtain ⟨s, hs⟩ := name_str this.2.2
  exact ⟨es, s, rfl, of_decide_eq_true this.2.1, hs⟩
theorem at_part {es : List PyData} {i : Nat} (h : i < es.length) : es[i]? = some (partD (.tuple es) i) := by
  simp [partD, partsD, seqOf, h]
theorem law_three (x y z : PyData) : lawB (.tuple [x, y, z]) = ((rowB x 16 3 && (rowB y 16 4 && rowB z 10 5)) && ((partsD x ++ partsD z).all numOk && ((partsD z).all labOk && ((partsD y).all (linOk (namesZ x)) && decide (cntZ y ≤ 60))))) := rfl
def negB : PyData → Bool
  | .int i => decide (i < 0)
  | _ => false
theorem bet_low {d : PyData} {n : Int} : betZ d 0 n = (betZ d (-n) n && !negB d) := by
  cases d <;> first | rfl | skip
  rename_i i
  show (decide (0 ≤ i) && decide (i ≤ n)) = ((decide (-n ≤ i) && decide (i ≤ n)) && !decide (i < 0))
  by_cases h1 : 0 ≤ i <;> by_cases h2 : i ≤ n <;> by_cases h3 : -n ≤ i <;> by_cases h4 : i < 0 <;> simp [h1, h2, h3, h4] <;> omega
theorem sum_snoc {ds : List PyData} {i : Nat} {d : PyData} (f : PyData → Int) (h : ds[i]? = some d) : ((ds.take (i + 1)).map f).sum = ((ds.take i).map f).sum + f d := by
  rw [List.take_add_one, h, List.map_append, List.sum_append]
  simp
def gLMap (a y : PyData) : Prop := Nice 9 a ∧ y = .bool (lawB a)
end Pv

set_option Elab.async false
set_option linter.all false
set_option maxRecDepth 100000
/-! The law's own drawing of names. -/
namespace Pv
open PySem L2 Pw
def tx (l : List Nat) : Str := ⟨l.toArray⟩
theorem tx_len (l : List Nat) : (tx l).length = l.length := by simp [tx, Str.length]
theorem tx_list (l : List Nat) : (tx l).cps.toList = l := by simp [tx]
theorem tx_app (a b : List Nat) : tx a ++ tx b = tx (a ++ b) := by
  show (⟨a.toArray ++ b.toArray⟩ : Str) = ⟨(a ++ b).toArray⟩
  simp
theorem tx_inj {a b : List Nat} (h : tx a = tx b) : a = b := by
  have := congrArg (fun s : Str => s.cps.toList) h
  simpa [tx] using this
theorem tx_cut7 (c : List Nat) : cutS (tx c) none (some 7) = tx (c.take 7) := by
  unfold cutS
  rw [tx_len, tx_list, HT.sIx_none, show (some (7 : Int)) = some ((7 : Nat) : Int) from rfl, HT.sIx_nat, List.drop_zero, Nat.sub_zero]
  unfold tx
  congr 2
  rw [List.take_eq_take_iff]
  omega
theorem tx_cut1 (c : List Nat) : cutS (tx c) (some 1) none = tx (c.drop 1) := by
  unfold cutS
  rw [tx_len, tx_list, HT.sIx_none, show (some (1 : Int)) = some ((1 : Nat) : Int) from rfl, HT.sIx_nat]
  unfold tx
  congr 2
  cases c with
  | nil => simp
  | cons a c => simp
def letC (k : Nat) : Nat := letters.getD k 0
theorem letters_len : letters.length = 26 := by decide +kernel
theorem at_letter {j : Int} (h0 : 0 ≤ j) (h1 : j < 26) : atI ("abcdefghijklmnopqrstuvwxyz" : Str).cps.toList j = some (letC j.toNat) := by
  obtain ⟨m, rfl⟩ := Int.eq_ofNat_of_zero_le h0
  have hm : m < letters.length := by rw [letters_len]; omega
  have e : letters[m]? = some (letC m) := by rw [letC, List.getD_eq_getElem?_getD, List.getElem?_eq_getElem hm]; rfl
  exact Pw.atI_nat e
theorem let_mem {k : Nat} (h : k < 26) : letC k ∈ letters := getD_mem (by rw [letters_len]; exact h)
theorem let_inj : ∀ i, i < 26 → ∀ j, j < 26 → letC i = letC j → i = j := by decide +kernel
theorem z_mem : 122 ∈ letters := by decide +kernel
def baseC (row : List Int) (n : Int) : Nat → List Nat
  | 0 => []
  | k + 1 => baseC row n k ++ [letC (drawZ row (n + (k : Int)) 26).toNat]
def stepC (k : Nat) (c : List Nat) : List Nat := if 26 < k then (c.take 7 ++ [letC (k % 26)]).drop 1 ++ [122] else c.take 7 ++ [letC (k % 26)]
def fixC (used : List Str) : Nat → Nat → List Nat → List Nat
  | 0, _, c => c
  | f + 1, k, c => if tx c ∈ used then fixC used f (k + 1) (stepC k c) else c
def nameLen (row : List Int) (n : Int) : Nat := (1 + drawZ row (n + 1) (if 0 < drawZ row n 9 then 3 else 8)).toNat
def nameC (row : List Int) (n : Int) (used : List Str) : List Nat := fixC used 60 0 (baseC row (n + 2) (nameLen row n))
def nameF (row : List Int) (n : Int) (used : List Str) : Str := tx (nameC row n used)
def nameEnd (row : List Int) (n : Int) : Int := n + 2 + nameLen row n
/-- the codes of a name -/
def NmC (c : List Nat) : Prop := 1 ≤ c.length ∧ c.length ≤ 8 ∧ ∀ x ∈ c, x ∈ letters
theorem draw26 (row : List Int) (n : Int) : (drawZ row n 26).toNat < 26 := by
  have h0 := drawZ_lo (row := row) (a := n) (lim := 26) (by decide)
  have h1 := drawZ_hi (row := row) (a := n) (lim := 26) (by decide)
  omega
theorem baseC_len (row : List Int) (n : Int) : ∀ k, (baseC row n k).length = k
  | 0 => rfl
  | k + 1 => by rw [baseC, List.length_append, baseC_len row n k]; rfl
theorem baseC_let (row : List Int) (n : Int) : ∀ k, ∀ x ∈ baseC row n k, x ∈ letters
  | 0, x, h => by cases h
  | k + 1, x, h => by
    rw [baseC] at h
    rcases List.mem_append.mp h with h | h
    · exact baseC_let row n k x h
    · rw [List.mem_singleton.mp h]; exact let_mem (draw26 _ _)
theorem nameLen_le (row : List Int) (n : Int) : 1 ≤ nameLen row n ∧ nameLen row n ≤ 8 := by
  unfold nameLen
  split
  · have h0 := drawZ_lo (row := row) (a := n + 1) (lim := 3) (by decide)
    have h1 := drawZ_hi (row := row) (a := n + 1) (lim := 3) (by decide)
    omega
  · have h0 := drawZ_lo (row := row) (a := n + 1) (lim := 8) (by decide)
    have h1 := drawZ_hi (row := row) (a := n + 1) (lim := 8) (by decide)
    omega
theorem base_nm (row : List Int) (n : Int) : NmC (baseC row (n + 2) (nameLen row n)) := by
  have := nameLen_le row n
  exact ⟨by rw [baseC_len]; exact this.1, by rw [baseC_len]; exact this.2, baseC_let _ _ _⟩
theorem step_nm {k : Nat} {c : List Nat} (h : NmC c) : NmC (stepC k c) := by
  obtain ⟨h1, h2, h3⟩ := h
  have h4 : ∀ x ∈ c.take 7 ++ [letC (k % 26)], x ∈ letters := fun x hx => by
    rcases List.mem_append.mp hx with hx | hx
    · exact h3 x (List.mem_of_mem_take hx)
    · rw [List.mem_singleton.mp hx]; exact let_mem (Nat.mod_lt _ (by decide))
  unfold stepC
  split
  · refine ⟨by simp, by simp; omega, fun x hx => ?_⟩
    rcases List.mem_append.mp hx with hx | hx
    · exact h4 x (List.mem_of_mem_drop hx)
    · rw [List.mem_singleton.mp hx]; exact z_mem
  · exact ⟨by simp, by simp; omega, h4⟩
theorem fix_nm {used : List Str} : ∀ (f k : Nat) (c : List Nat), NmC c → NmC (fixC used f k c)
  | 0, _, _, h => h
  | f + 1, k, c, h => by
    unfold fixC
    split
    · exact fix_nm f (k + 1) _ (step_nm h)
    · exact h
theorem nameC_nm (row : List Int) (n : Int) (used : List Str) : NmC (nameC row n used) := fix_nm _ _ _ (base_nm row n)
theorem nm_name {c : List Nat} (h : NmC c) : nameZ (.str (tx c)) = true := by
  obtain ⟨h1, h2, h3⟩ := h
  show (decide ((1 : Int) ≤ (tx c).length) && decide (((tx c).length : Int) ≤ 8) && (tx c).cps.toList.all fun x => decide (x ∈ letters)) = true
  rw [tx_len, tx_list]
  simp only [Bool.and_eq_true, decide_eq_true_eq, List.all_eq_true]
  exact ⟨⟨by omega, by omega⟩, h3⟩
theorem nodup_le {l m : List Nat} : l.Nodup → (∀ x ∈ l, x ∈ m) → l.length ≤ m.length := by
  induction l generalizing m with
  | nil => intro _ _; exact Nat.zero_le _
  | cons a l ih =>
    intro hn hs
    obtain ⟨h1, h2⟩ := List.nodup_cons.mp hn
    have ha := hs a List.mem_cons_self
    have := ih (m := m.erase a) h2 fun x hx => by
      have hxm := hs x (List.mem_cons_of_mem _ hx)
      have ne : x ≠ a := fun e => h1 (e ▸ hx)
      exact (List.mem_erase_of_ne ne).mpr hxm
    rw [List.length_erase_of_mem ha] at this
    have : 0 < m.length := List.length_pos_of_mem ha
    simp only [List.length_cons]
    omega
/-- as long as every name is used already, the last letters go through the alphabet -/
theorem fix_walk {used : List Str} : ∀ (f k : Nat) (c : List Nat), k + f ≤ 26 → tx (fixC used f k c) ∈ used → ∀ i, i < f → ∃ d, letC (k + i) = d.getLast?.getD 0 ∧ (i + 1 < f → tx d ∈ used)
  | 0, _, _, _, _, i, hi => by omega
  | f + 1, k, c, hk, h, i, hi => by
    unfold fixC at h
    by_cases m : tx c ∈ used
    · rw [if_pos m] at h
      cases i with
      | zero =>
        refine ⟨stepC k c, ?_, fun hf => ?_⟩
        · unfold stepC
          rw [if_neg (by omega), Nat.mod_eq_of_lt (by omega)]
          simp
        · cases f with
          | zero => omega
          | succ f =>
            unfold fixC at h
            by_cases m2 : tx (stepC k c) ∈ used
            · exact m2
            · rw [if_neg m2] at h; exact absurd h m2
      | succ i =>
        obtain ⟨d, h1, h2⟩ := fix_walk f (k + 1) (stepC k c) (by omega) h i (by omega)
        exact ⟨d, by rw [← h1]; congr 1; omega, fun z => h2 (by omega)⟩
    · rw [if_neg m] at h; exact absurd h m
theorem fix_split {used : List Str} : ∀ (f g k : Nat) (c : List Nat), tx (fixC used (f + g) k c) ∈ used → tx (fixC used f k c) ∈ used
  | 0, g, k, c, h => by
    cases g with
    | zero => exact h
    | succ g =>
      rw [Nat.zero_add] at h
      unfold fixC at h
      show tx c ∈ used
      by_cases m : tx c ∈ used
      · exact m
      · rw [if_neg m] at h; exact h
  | f + 1, g, k, c, h => by
    rw [Nat.add_right_comm] at h
    unfold fixC at h ⊢
    by_cases m : tx c ∈ used
    · rw [if_pos m] at h ⊢; exact fix_split f g _ _ h
    · rw [if_neg m] at h; exact absurd h m
theorem fresh {row : List Int} {n : Int} {used : List Str} (h : used.length ≤ 16) : nameF row n used ∉ used := by
  intro hm
  have h18 := fix_split 18 42 0 _ (show tx (fixC used (18 + 42) 0 (baseC row (n + 2) (nameLen row n))) ∈ used from hm)
  have w := fix_walk 18 0 _ (by decide) h18
  have sub : ∀ x ∈ (List.range 17).map letC, x ∈ used.map fun s => s.cps.toList.getLast?.getD 0 := by
    intro x hx
    obtain ⟨i, hi, rfl⟩ := List.mem_map.mp hx
    have hi := List.mem_range.mp hi
    obtain ⟨d, h1, h2⟩ := w i (by omega)
    rw [Nat.zero_add] at h1
    exact List.mem_map.mpr ⟨tx d, h2 (by omega), by rw [tx_list, h1]⟩
  have nd : ((List.range 17).map letC).Nodup := by decide +kernel
  have := nodup_le nd sub
  rw [List.length_map, List.length_map, List.length_range] at this
  omega
def usedKvs (used : List Str) : List (Key × PyData) := used.map fun s => (.inr s, .bool true)
theorem used_is (used : List Str) (x : Str) : (Pw.getD (usedKvs used) (.inr x)).isSome = decide (x ∈ used) := by
  unfold usedKvs Pw.getD
  induction used with
  | nil => rfl
  | cons s used ih =>
    rw [List.map_cons, List.find?_cons]
    by_cases e : s = x
    · subst e; simp
    · have e2 : ¬ (Sum.inr s : Key) = .inr x := fun z => e (Sum.inr.inj z)
      simp only [e2, decide_false]
      rw [ih]
      have e3 : ¬ x = s := fun z => e z.symm
      simp [e3]
theorem used_put {used : List Str} {x : Str} (h : x ∉ used) : Pw.putD (usedKvs used) (.inr x) (.bool true) = usedKvs (used ++ [x]) := by
  rw [putD_new]
  · simp [usedKvs]
  · unfold usedKvs
    rw [List.map_map]
    intro z
    obtain ⟨y, hy, e⟩ := List.mem_map.mp z
    exact h (Sum.inr.inj e ▸ hy)
def gName (as : List Pw.Arg) (ret : Ret) (outs : Nat → Cont) : Prop := ∃ row n used, as = [.d (.d (intsD row)), .r (.lst [.int n]), .r (.dk (usedKvs used))] ∧ RowOk row ∧ (0 ≤ n ∧ n < 2 ^ 58) ∧ used.length ≤ 16 ∧
  ret = .v (.d (.str (nameF row n used))) ∧ outs 1 = .lst [.int (nameEnd row n)] ∧ outs 2 = .dk (usedKvs (used ++ [nameF row n used]))
theorem lenName {vs : List V} {H : Hp} {Q : VK} {E : XK} (s : spG gName vs H Q E) : vs.length = 3 := len_of (fun _ _ _ ⟨_, _, _, e, _⟩ => by rw [e]; rfl) s
/-! ### numbers -/
def freeZ (row : List Int) (n : Int) : Int := ([drawZ row n 41 - 20, drawZ row n 41 - 20, wideZ row (n + 1) 991026973, -(wideZ row (n + 1) 991026973), 1000000000, -1000000000, 0] : List Int).getD (drawZ row (n + 4) 7).toNat 0
theorem free_at {a b c d e f g : Int} {i : Int} (h0 : 0 ≤ i) (h1 : i < 7) : atI [PyData.int a, .int b, .int c, .int d, .int e, .int f, .int g] i = some (.int (([a, b, c, d, e, f, g] : List Int).getD i.toNat 0)) := by
  have := atI_ints (row := [a, b, c, d, e, f, g]) h0 (by simpa using h1)
  exact this
theorem free_le (row : List Int) (n : Int) : -1000000000 ≤ freeZ row n ∧ freeZ row n ≤ 1000000000 := by
  unfold freeZ
  have a0 := drawZ_lo (row := row) (a := n) (lim := 41) (by decide)
  have a1 := drawZ_hi (row := row) (a := n) (lim := 41) (by decide)
  have w0 : 0 ≤ wideZ row (n + 1) 991026973 := Int.emod_nonneg _ (by decide)
  have w1 : wideZ row (n + 1) 991026973 < 991026973 := Int.emod_lt_of_pos _ (by decide)
  have d0 := drawZ_lo (row := row) (a := n + 4) (lim := 7) (by decide)
  have d1 := drawZ_hi (row := row) (a := n + 4) (lim := 7) (by decide)
  generalize drawZ row (n + 4) 7 = i at d0 d1
  obtain ⟨m, rfl⟩ := Int.eq_ofNat_of_zero_le d0
  have hm : m < 7 := by omega
  simp only [Int.toNat_natCast]
  match m, hm with
  | 0, _ => simp; omega
  | 1, _ => simp; omega
  | 2, _ => simp; omega
  | 3, _ => simp; omega
  | 4, _ => simp
  | 5, _ => simp
  | 6, _ => simp
def gFree (as : List Pw.Arg) (ret : Ret) (outs : Nat → Cont) : Prop := ∃ row n, as = [.d (.d (intsD row)), .r (.lst [.int n])] ∧ RowOk row ∧ (0 ≤ n ∧ n < 2 ^ 58) ∧ ret = .v (.d (.int (freeZ row n))) ∧ outs 1 = .lst [.int (n + 5)]
theorem lenFree {vs : List V} {H : Hp} {Q : VK} {E : XK} (s : spG gFree vs H Q E) : vs.length = 2 := len_of (fun _ _ _ ⟨_, _, e, _⟩ => by rw [e]; rfl) s
def gHanded (as : List Pw.Arg) (ret : Ret) (outs : Nat → Cont) : Prop := ∃ row n v, as = [.d (.d (intsD row)), .r (.lst [.int n]), .d (.d v)] ∧ RowOk row ∧ (0 ≤ n ∧ n < 2 ^ 58) ∧ Nice 9 v ∧ ret = .v (.d (if drawZ row n 2 = 0 then lisZ v else v)) ∧ outs 1 = .lst [.int (n + 1)]
theorem lenHanded {vs : List V} {H : Hp} {Q : VK} {E : XK} (s : spG gHanded vs H Q E) : vs.length = 3 := len_of (fun _ _ _ ⟨_, _, _, e, _⟩ => by rw [e]; rfl) s
end Pv

set_option Elab.async false
set_option linter.all false
set_option maxRecDepth 100000
/-! The law's own drawing of maps. -/
namespace Pv
open PySem L2 Pw
variable {ρ : List Pw.Slot} {ta : TE}
theorem ev_free {E : XK} {i : Nat} {l : Bool} {row : List Int} {n : Int} (h1 : EV ta ρ (.d (intsD row)) ρ) (h2 : ρ[i]? = some (.own l (.lst [.int n]))) (hr : RowOk row) (hn : 0 ≤ n ∧ n < 2 ^ 58) :
    EV (tCall (spG gFree) [] E (tCons ta (tCons (tVar i) tNil))) ρ (.d (.int (freeZ row n))) (ρ.set i (.own l (.lst [.int (n + 5)]))) := by
  have key : ∀ (k m : Nat), ([.d (.d (intsD row)), .s i] : List Src)[k]? = some (.s m) → k = 1 ∧ m = i := fun k m h => by
    match k, h with
    | 0, h => cases h
    | 1, h => cases h; exact ⟨rfl, rfl⟩
    | k + 2, h => simp at h
  have h := ev_call (E := E) (g := gFree) (x := .d (.int (freeZ row n))) (outs := fun _ => .lst [.int (n + 5)]) (ss := [.d (.d (intsD row)), .s i]) (ea_cons h1 (ea_ref h2 ea_nil))
    ⟨fun k j hk => ?_, fun j k m hj hk => ?_⟩ ⟨row, n, ?_, hr, hn, rfl, rfl⟩
  · have e : putOuts (fun _ => Cont.lst [.int (n + 5)]) 0 [Src.d (.d (intsD row)), .s i] ρ = ρ.set i (.own l (.lst [.int (n + 5)])) := by
      simp [putOuts, h2]
    rw [e] at h
    exact h
  · obtain ⟨_, rfl⟩ := key k j hk; exact ⟨_, _, h2⟩
  · rw [(key j m hj).1, (key k m hk).1]
  · simp [argOf, h2]
theorem ev_name {E : XK} {i j : Nat} {l l2 : Bool} {row : List Int} {n : Int} {used : List Str} (h1 : EV ta ρ (.d (intsD row)) ρ) (h2 : ρ[i]? = some (.own l (.lst [.int n]))) (h3 : ρ[j]? = some (.own l2 (.dk (usedKvs used)))) (hij : i ≠ j) (hr : RowOk row) (hn : 0 ≤ n ∧ n < 2 ^ 58) (hu : used.length ≤ 16) :
    EV (tCall (spG gName) [] E (tCons ta (tCons (tVar i) (tCons (tVar j) tNil)))) ρ (.d (.str (nameF row n used))) ((ρ.set i (.own l (.lst [.int (nameEnd row n)]))).set j (.own l2 (.dk (usedKvs (used ++ [nameF row n used]))))) := by
  have key : ∀ (k m : Nat), ([.d (.d (intsD row)), .s i, .s j] : List Src)[k]? = some (.s m) → (k = 1 ∧ m = i) ∨ (k = 2 ∧ m = j) := fun k m h => by
    match k, h with
    | 0, h => cases h
    | 1, h => cases h; exact .inl ⟨rfl, rfl⟩
    | 2, h => cases h; exact .inr ⟨rfl, rfl⟩
    | k + 3, h => simp at h
  have h := ev_call (E := E) (g := gName) (x := .d (.str (nameF row n used))) (outs := fun k => if k = 1 then .lst [.int (nameEnd row n)] else .dk (usedKvs (used ++ [nameF row n used]))) (ss := [.d (.d (intsD row)), .s i, .s j]) (ea_cons h1 (ea_ref h2 (ea_ref h3 ea_nil)))
    ⟨fun k m hk => ?_, fun a b m ha hb => ?_⟩ ⟨row, n, used, ?_, hr, hn, hu, rfl, rfl, rfl⟩
  · have e : putOuts (fun k => if k = 1 then Cont.lst [.int (nameEnd row n)] else .dk (usedKvs (used ++ [nameF row n used]))) 0 [Src.d (.d (intsD row)), .s i, .s j] ρ = (ρ.set i (.own l (.lst [.int (nameEnd row n)]))).set j (.own l2 (.dk (usedKvs (used ++ [nameF row n used])))) := by
      simp [putOuts, h2, List.getElem?_set, hij, h3]
    rw [e] at h
    exact h
  · rcases key k m hk with ⟨_, rfl⟩ | ⟨_, rfl⟩
    · exact ⟨_, _, h2⟩
    · exact ⟨_, _, h3⟩
  · rcases key a m ha with ⟨rfl, rfl⟩ | ⟨rfl, rfl⟩ <;> rcases key b m hb with ⟨rfl, e⟩ | ⟨rfl, e⟩
    · rfl
    · exact absurd e hij
    · exact absurd e.symm hij
    · rfl
  · simp [argOf, h2, h3]
theorem end_le (row : List Int) (n : Int) : n + 3 ≤ nameEnd row n ∧ nameEnd row n ≤ n + 10 := by
  have := nameLen_le row n
  unfold nameEnd
  omega
theorem draw_bd (row : List Int) (n lim : Int) (h : 0 < lim) : 0 ≤ drawZ row n lim ∧ drawZ row n lim < lim := ⟨drawZ_lo h, drawZ_hi h⟩
/-! ### nodes -/
def cnt2 (row : List Int) (n a b : Int) : Nat := (drawZ row (n + 1) (if drawZ row n 4 = 0 then a else b)).toNat
def nodesAt (row : List Int) (n : Int) : Nat → List Nd × Int
  | 0 => ([], n)
  | k + 1 => ((nodesAt row n k).1 ++ [⟨nameF row (nodesAt row n k).2 ((nodesAt row n k).1.map (·.name)), (freeZ row (nameEnd row (nodesAt row n k).2), freeZ row (nameEnd row (nodesAt row n k).2 + 5))⟩], nameEnd row (nodesAt row n k).2 + 5 + 5)
theorem nodesAt_len (row : List Int) (n : Int) : ∀ k, (nodesAt row n k).1.length = k
  | 0 => rfl
  | k + 1 => by rw [nodesAt, List.length_append, nodesAt_len row n k]; rfl
theorem nodesAt_n (row : List Int) (n : Int) : ∀ k : Nat, n ≤ (nodesAt row n k).2 ∧ (nodesAt row n k).2 ≤ n + 20 * k
  | 0 => by simp [nodesAt]
  | k + 1 => by
    have := nodesAt_n row n k
    have := end_le row (nodesAt row n k).2
    simp only [nodesAt]
    omega
theorem name_ok (row : List Int) (n : Int) (used : List Str) : nameZ (.str (nameF row n used)) = true := nm_name (nameC_nm row n used)
theorem nodup_snoc {l : List Str} {x : Str} (h : l.Nodup) (hx : x ∉ l) : (l ++ [x]).Nodup := by
  rw [List.nodup_append]
  exact ⟨h, by simp, fun a ha b hb e => by rw [List.mem_singleton.mp hb] at e; exact hx (e ▸ ha)⟩
theorem nodesAt_ok (row : List Int) (n : Int) : ∀ k, k ≤ 17 → ((nodesAt row n k).1.map (·.name)).Nodup ∧ ∀ x ∈ (nodesAt row n k).1, Far x.p ∧ nameZ (.str x.name) = true
  | 0, _ => ⟨by simp [nodesAt], fun x h => by simp [nodesAt] at h⟩
  | k + 1, hk => by
    obtain ⟨h1, h2⟩ := nodesAt_ok row n k (by omega)
    refine ⟨?_, fun x hx => ?_⟩
    · simp only [nodesAt, List.map_append, List.map_cons, List.map_nil]
      exact nodup_snoc h1 (fresh (by rw [List.length_map, nodesAt_len]; omega))
    · simp only [nodesAt] at hx
      rcases List.mem_append.mp hx with hx | hx
      · exact h2 x hx
      · rw [List.mem_singleton.mp hx]
        exact ⟨⟨free_le row _, free_le row _⟩, name_ok row _ _⟩
/-! ### lines -/
structure LnS where
  ls : List Ln
  c : Int
  n : Int
def manyOf (row : List Int) (n c : Int) : Int := min (60 - c) (drawZ row (n + 3) (if drawZ row (n + 2) 4 = 0 then 13 else 4))
def csOf (row : List Int) (n : Int) (k : Nat) : List Pt := (List.range k).map fun j : Nat => (freeZ row (n + 10 * (j : Int)), freeZ row (n + 10 * (j : Int) + 5))
def nthName (ns : List Nd) (i : Int) : Str := ((ns.map (·.name)).getD i.toNat ⟨#[]⟩)
def linesAt (row : List Int) (ns : List Nd) (n : Int) : Nat → LnS
  | 0 => ⟨[], 0, n⟩
  | k + 1 =>
    let s := linesAt row ns n k
    let m := manyOf row s.n s.c
    let n1 := s.n + 4 + 10 * m
    ⟨s.ls ++ [⟨nameF row n1 (s.ls.map (·.name)), nthName ns (drawZ row s.n ns.length), nthName ns ((drawZ row s.n ns.length + 1 + drawZ row (s.n + 1) (ns.length - 1)) % ns.length), csOf row (s.n + 4) m.toNat⟩], s.c + m, nameEnd row n1⟩
theorem many_le {row : List Int} {n c : Int} (h : 0 ≤ c ∧ c ≤ 60) : 0 ≤ manyOf row n c ∧ manyOf row n c ≤ 12 ∧ c + manyOf row n c ≤ 60 := by
  unfold manyOf
  have := draw_bd row (n + 3) (if drawZ row (n + 2) 4 = 0 then 13 else 4) (by split <;> decide)
  have : (if drawZ row (n + 2) 4 = 0 then (13 : Int) else 4) ≤ 13 := by split <;> decide
  omega
theorem linesAt_c (row : List Int) (ns : List Nd) (n : Int) : ∀ k, 0 ≤ (linesAt row ns n k).c ∧ (linesAt row ns n k).c ≤ 60
  | 0 => by simp [linesAt]
  | k + 1 => by
    have h := linesAt_c row ns n k
    have := many_le (row := row) (n := (linesAt row ns n k).n) h
    simp only [linesAt]
    omega
theorem linesAt_len (row : List Int) (ns : List Nd) (n : Int) : ∀ k, (linesAt row ns n k).ls.length = k
  | 0 => rfl
  | k + 1 => by simp only [linesAt]; rw [List.length_append, linesAt_len row ns n k]; rfl
theorem linesAt_n (row : List Int) (ns : List Nd) (n : Int) : ∀ k : Nat, n ≤ (linesAt row ns n k).n ∧ (linesAt row ns n k).n ≤ n + 140 * k
  | 0 => by simp [linesAt]
  | k + 1 => by
    have := linesAt_n row ns n k
    have h := many_le (row := row) (n := (linesAt row ns n k).n) (linesAt_c row ns n k)
    have := end_le row ((linesAt row ns n k).n + 4 + 10 * manyOf row (linesAt row ns n k).n (linesAt row ns n k).c)
    simp only [linesAt]
    omega
def totOf (ls : List Ln) : Int := (ls.map fun l => ((l.cs.length : Nat) : Int)).sum
theorem linesAt_tot (row : List Int) (ns : List Nd) (n : Int) : ∀ k, totOf (linesAt row ns n k).ls = (linesAt row ns n k).c
  | 0 => by simp [linesAt, totOf]
  | k + 1 => by
    have ih := linesAt_tot row ns n k
    have h := many_le (row := row) (n := (linesAt row ns n k).n) (linesAt_c row ns n k)
    simp only [linesAt, totOf, List.map_append, List.sum_append] at ih ⊢
    rw [ih]
    simp [csOf]
    omega
/-- two different numbers of nodes -/
theorem ends_differ {s t N : Int} (hs : 0 ≤ s ∧ s < N) (ht : 0 ≤ t ∧ t < N - 1) : (0 ≤ (s + 1 + t) % N ∧ (s + 1 + t) % N < N) ∧ (s + 1 + t) % N ≠ s := by
  have h0 : 0 ≤ (s + 1 + t) % N := Int.emod_nonneg _ (by omega)
  have h1 : (s + 1 + t) % N < N := Int.emod_lt_of_pos _ (by omega)
  refine ⟨⟨h0, h1⟩, fun e => ?_⟩
  by_cases c : s + 1 + t < N
  · rw [Int.emod_eq_of_lt (by omega) c] at e; omega
  · have : (s + 1 + t) % N = s + 1 + t - N := by
      rw [← Int.sub_emod_right, Int.emod_eq_of_lt (by omega) (by omega)]
    omega
theorem nth_mem {ns : List Nd} {i : Int} (h : 0 ≤ i ∧ i < ns.length) : nthName ns i ∈ ns.map (·.name) := getD_mem (by rw [List.length_map]; omega)
theorem nth_inj {ns : List Nd} {i j : Int} (nd : (ns.map (·.name)).Nodup) (hi : 0 ≤ i ∧ i < ns.length) (hj : 0 ≤ j ∧ j < ns.length) (e : nthName ns i = nthName ns j) : i = j := by
  unfold nthName at e
  have li : i.toNat < (ns.map (·.name)).length := by rw [List.length_map]; omega
  have lj : j.toNat < (ns.map (·.name)).length := by rw [List.length_map]; omega
  rw [List.getD_eq_getElem?_getD, List.getD_eq_getElem?_getD, List.getElem?_eq_getElem li, List.getElem?_eq_getElem lj] at e
  have e2 : (ns.map (·.name))[i.toNat]? = (ns.map (·.name))[j.toNat]? := by
    rw [List.getElem?_eq_getElem li, List.getElem?_eq_getElem lj]
    exact congrArg some e
  have := (List.getElem?_inj li nd).mp e2
  omega
theorem linesAt_ok (row : List Int) (ns : List Nd) (n : Int) (nd : (ns.map (·.name)).Nodup) (h2 : 2 ≤ ns.length) : ∀ k, k ≤ 17 → ((linesAt row ns n k).ls.map (·.name)).Nodup ∧ ∀ l ∈ (linesAt row ns n k).ls, l.s ∈ ns.map (·.name) ∧ l.e ∈ ns.map (·.name) ∧ l.s ≠ l.e ∧ l.cs.length ≤ 12 ∧ (∀ c ∈ l.cs, Far c) ∧ nameZ (.str l.name) = true
  | 0, _ => ⟨by simp [linesAt], fun x h => by simp [linesAt] at h⟩
  | k + 1, hk => by
    obtain ⟨g1, g2⟩ := linesAt_ok row ns n nd h2 k (by omega)
    refine ⟨?_, fun x hx => ?_⟩
    · simp only [linesAt, List.map_append, List.map_cons, List.map_nil]
      exact nodup_snoc g1 (fresh (by rw [List.length_map, linesAt_len]; omega))
    · simp only [linesAt] at hx
      rcases List.mem_append.mp hx with hx | hx
      · exact g2 x hx
      · rw [List.mem_singleton.mp hx]
        have d1 := draw_bd row (linesAt row ns n k).n ns.length (by omega)
        have d2 := draw_bd row ((linesAt row ns n k).n + 1) (ns.length - 1) (by omega)
        have df := ends_differ d1 d2
        have hm := many_le (row := row) (n := (linesAt row ns n k).n) (linesAt_c row ns n k)
        refine ⟨nth_mem d1, nth_mem df.1, fun e => df.2 (nth_inj nd d1 df.1 e).symm, by simp [csOf]; omega, fun c hc => ?_, name_ok row _ _⟩
        simp only [csOf] at hc
        obtain ⟨j, _, rfl⟩ := List.mem_map.mp hc
        exact ⟨free_le row _, free_le row _⟩
/-! ### marks -/
def highOf (row : List Int) (n : Int) : Int := ([0, 1000000, drawZ row n 9] : List Int).getD (drawZ row (n + 1) 3).toNat 0
def marksAt (row : List Int) (n : Int) : Nat → List Mk × Int
  | 0 => ([], n)
  | k + 1 =>
    let s := marksAt row n k
    let n1 := nameEnd row (s.2 + 5)
    (s.1 ++ [⟨nameF row (s.2 + 5) (s.1.map (·.name)), (freeZ row n1, freeZ row (n1 + 5)), wideZ row s.2 1000001, highOf row (s.2 + 3)⟩], n1 + 5 + 5)
theorem marksAt_len (row : List Int) (n : Int) : ∀ k, (marksAt row n k).1.length = k
  | 0 => rfl
  | k + 1 => by simp only [marksAt]; rw [List.length_append, marksAt_len row n k]; rfl
theorem marksAt_n (row : List Int) (n : Int) : ∀ k : Nat, n ≤ (marksAt row n k).2 ∧ (marksAt row n k).2 ≤ n + 25 * k
  | 0 => by simp [marksAt]
  | k + 1 => by
    have := marksAt_n row n k
    have := end_le row ((marksAt row n k).2 + 5)
    simp only [marksAt]
    omega
theorem high_le (row : List Int) (n : Int) : 0 ≤ highOf row n ∧ highOf row n ≤ 1000000 := by
  unfold highOf
  have a := draw_bd row n 9 (by decide)
  have b := draw_bd row (n + 1) 3 (by decide)
  generalize drawZ row (n + 1) 3 = i at b
  obtain ⟨m, rfl⟩ := Int.eq_ofNat_of_zero_le b.1
  have hm : m < 3 := by omega
  simp only [Int.toNat_natCast]
  match m, hm with
  | 0, _ => simp
  | 1, _ => simp
  | 2, _ => simp; omega
theorem marksAt_ok (row : List Int) (n : Int) : ∀ k, k ≤ 17 → ((marksAt row n k).1.map (·.name)).Nodup ∧ ∀ x ∈ (marksAt row n k).1, Far x.p ∧ nameZ (.str x.name) = true ∧ (0 ≤ x.wide ∧ x.wide ≤ 1000000) ∧ 0 ≤ x.high ∧ x.high ≤ 1000000
  | 0, _ => ⟨by simp [marksAt], fun x h => by simp [marksAt] at h⟩
  | k + 1, hk => by
    obtain ⟨h1, h2⟩ := marksAt_ok row n k (by omega)
    refine ⟨?_, fun x hx => ?_⟩
    · simp only [marksAt, List.map_append, List.map_cons, List.map_nil]
      exact nodup_snoc h1 (fresh (by rw [List.length_map, marksAt_len]; omega))
    · simp only [marksAt] at hx
      rcases List.mem_append.mp hx with hx | hx
      · exact h2 x hx
      · rw [List.mem_singleton.mp hx]
        have w0 : 0 ≤ wideZ row (marksAt row n k).2 1000001 := Int.emod_nonneg _ (by decide)
        have w1 : wideZ row (marksAt row n k).2 1000001 < 1000001 := Int.emod_lt_of_pos _ (by decide)
        exact ⟨⟨free_le row _, free_le row _⟩, name_ok row _ _, ⟨w0, by show wideZ row (marksAt row n k).2 1000001 ≤ 1000000; omega⟩, high_le row _⟩
/-! ### the map -/
def fNodes (row : List Int) (n : Int) : List Nd × Int := nodesAt row (n + 2) (cnt2 row n 17 5)
def lineCnt (row : List Int) (n : Int) : Nat := if drawZ row n 4 = 0 then (drawZ row (n + 1) 17).toNat else (drawZ row (n + 1) 4).toNat
def fLines (row : List Int) (n : Int) : LnS := if 1 < (fNodes row n).1.length then linesAt row (fNodes row n).1 ((fNodes row n).2 + 2) (lineCnt row (fNodes row n).2) else ⟨[], 0, (fNodes row n).2⟩
def fMarks (row : List Int) (n : Int) : List Mk × Int := marksAt row ((fLines row n).n + 2) (cnt2 row (fLines row n).n 11 3)
def freeMap (row : List Int) (n : Int) : Mp := ⟨(fNodes row n).1, (fLines row n).ls, (fMarks row n).1⟩
def freeEnd (row : List Int) (n : Int) : Int := (fMarks row n).2
theorem cnt2_le (row : List Int) (n : Int) {a b m : Nat} (h : 0 < a ∧ a ≤ m + 1 ∧ 0 < b ∧ b ≤ m + 1) : cnt2 row n a b ≤ m := by
  unfold cnt2
  have l0 : (0 : Int) < (if drawZ row n 4 = 0 then (a : Int) else b) := by split <;> omega
  have := draw_bd row (n + 1) _ l0
  have : (if drawZ row n 4 = 0 then (a : Int) else b) ≤ m + 1 := by split <;> omega
  omega
theorem lineCnt_le (row : List Int) (n : Int) : lineCnt row n ≤ 16 := by
  unfold lineCnt
  have a := draw_bd row (n + 1) 17 (by decide)
  have b := draw_bd row (n + 1) 4 (by decide)
  split <;> omega
theorem freeEnd_le (row : List Int) (n : Int) : n ≤ freeEnd row n ∧ freeEnd row n ≤ n + 4000 := by
  have a : cnt2 row n 17 5 ≤ 16 := cnt2_le row n (a := 17) (b := 5) (m := 16) (by omega)
  have b := nodesAt_n row (n + 2) (cnt2 row n 17 5)
  have b' : n + 2 ≤ (fNodes row n).2 ∧ (fNodes row n).2 ≤ n + 2 + 20 * (cnt2 row n 17 5 : Nat) := b
  have c : (fNodes row n).2 ≤ (fLines row n).n ∧ (fLines row n).n ≤ (fNodes row n).2 + 2 + 140 * 16 := by
    unfold fLines
    split
    · have := linesAt_n row (fNodes row n).1 ((fNodes row n).2 + 2) (lineCnt row (fNodes row n).2)
      have := lineCnt_le row (fNodes row n).2
      omega
    · dsimp only; omega
  have d : cnt2 row (fLines row n).n 11 3 ≤ 10 := cnt2_le row (fLines row n).n (a := 11) (b := 3) (m := 10) (by omega)
  have e := marksAt_n row ((fLines row n).n + 2) (cnt2 row (fLines row n).n 11 3)
  have e' : (fLines row n).n + 2 ≤ freeEnd row n ∧ freeEnd row n ≤ (fLines row n).n + 2 + 25 * (cnt2 row (fLines row n).n 11 3 : Nat) := e
  omega
/-! ### it is a map -/
theorem bet_i {i lo hi : Int} (h : lo ≤ i ∧ i ≤ hi) : betZ (.int i) lo hi = true := by
  show (decide (lo ≤ i) && decide (i ≤ hi)) = true
  rw [decide_eq_true h.1, decide_eq_true h.2]; rfl
theorem noList_pts (ps : List Pt) : noLists (ps.map ptD) = true := by
  induction ps with
  | nil => rfl
  | cons p ps ih => simp [noLists, ptD, noList, ih]
theorem noList_ln (l : Ln) : noList (lnD l) = true := by simp [lnD, noList, noLists, noList_pts]
theorem noList_nds (xs : List Nd) : noLists (xs.map ndD) = true := by
  induction xs with
  | nil => rfl
  | cons p ps ih => simp [noLists, ndD, noList, ih]
theorem noList_lns (xs : List Ln) : noLists (xs.map lnD) = true := by
  induction xs with
  | nil => rfl
  | cons p ps ih => rw [List.map_cons, noLists, noList_ln, ih]; rfl
theorem noList_mks (xs : List Mk) : noLists (xs.map mkD) = true := by
  induction xs with
  | nil => rfl
  | cons p ps ih => simp [noLists, mkD, noList, ih]
theorem noList_mp (m : Mp) : noList (mpD m) = true := by simp [mpD, noList, noLists, noList_nds, noList_lns, noList_mks]
theorem mem_nm {ns : List Str} {s : Str} (h : s ∈ ns) : memN ns (.str s) = true := by
  unfold memN
  rw [List.any_eq_true]
  exact ⟨_, List.mem_map.mpr ⟨s, h, rfl⟩, by simp [PyData.eqv]⟩
theorem mapZ_mpD {m : Mp} (o : m.Ok) (t : totOf m.lines ≤ 60) (lb : ∀ x ∈ m.marks, (0 ≤ x.wide ∧ x.wide ≤ 1000000) ∧ 0 ≤ x.high ∧ x.high ≤ 1000000) : mapZ (mpD m) = true := by
  have e0 : partD (mpD m) 0 = .tuple (m.nodes.map ndD) := rfl
  have e1 : partD (mpD m) 1 = .tuple (m.lines.map lnD) := rfl
  have e2 : partD (mpD m) 2 = .tuple (m.marks.map mkD) := rfl
  have p0 : partsD (.tuple (m.nodes.map ndD)) = m.nodes.map ndD := rfl
  have p1 : partsD (.tuple (m.lines.map lnD)) = m.lines.map lnD := rfl
  have p2 : partsD (.tuple (m.marks.map mkD)) = m.marks.map mkD := rfl
  have n0 : namesZ (.tuple (m.nodes.map ndD)) = m.nodes.map (·.name) := by
    rw [namesZ, p0, List.map_map]; rfl
  unfold mapZ
  rw [e0, e1, e2, p0, p1, p2, n0]
  have c0 : colZ (.tuple (m.nodes.map ndD)) 16 = true := by
    show decide (((m.nodes.map ndD).length : Int) ≤ 16) = true
    rw [List.length_map]; have := o.cn; exact decide_eq_true (by omega)
  have c1 : colZ (.tuple (m.lines.map lnD)) 16 = true := by
    show decide (((m.lines.map lnD).length : Int) ≤ 16) = true
    rw [List.length_map]; have := o.cl; exact decide_eq_true (by omega)
  have c2 : colZ (.tuple (m.marks.map mkD)) 10 = true := by
    show decide (((m.marks.map mkD).length : Int) ≤ 10) = true
    rw [List.length_map]; have := o.cm; exact decide_eq_true (by omega)
  have a0 : (m.nodes.map ndD).all (fun d => nodeZ d 1000000000) = true := by
    rw [List.all_eq_true]
    intro d hd
    obtain ⟨n, hn, rfl⟩ := List.mem_map.mp hd
    have f := o.fn n hn
    have nz : nameZ (at0 (ndD n)) = true := o.tn n hn
    have nk : numOk (ndD n) = true := by
      show (betZ (.int n.p.1) _ _ && betZ (.int n.p.2) _ _) = true
      rw [bet_i f.1, bet_i f.2]; rfl
    rw [node_eq, nz, nk]
    rfl
  have a2 : (m.marks.map mkD).all (fun d => markZ d 1000000000 1000000) = true := by
    rw [List.all_eq_true]
    intro d hd
    obtain ⟨n, hn, rfl⟩ := List.mem_map.mp hd
    have f := o.fm n hn
    have l := lb n hn
    have nz : nameZ (at0 (mkD n)) = true := o.tm n hn
    have nk : numOk (mkD n) = true := by
      show (betZ (.int n.p.1) _ _ && betZ (.int n.p.2) _ _) = true
      rw [bet_i f.1, bet_i f.2]; rfl
    have lk : labOk (mkD n) = true := by
      show (betZ (.int n.wide) _ _ && betZ (.int n.high) _ _) = true
      rw [bet_i l.1, bet_i l.2]; rfl
    rw [mark_eq, nz, nk, lk]
    rfl
  have a1 : (m.lines.map lnD).all (fun d => lineZ d (m.nodes.map (·.name)) 1000000000) = true := by
    rw [List.all_eq_true]
    intro d hd
    obtain ⟨n, hn, rfl⟩ := List.mem_map.mp hd
    have nz : nameZ (at0 (lnD n)) = true := o.tl n hn
    have lk : linOk (m.nodes.map (·.name)) (lnD n) = true := by
      show (memN _ (.str n.s) && (memN _ (.str n.e) && (!PyData.eqv (.str n.s) (.str n.e) && (true && (decide (((n.cs.map ptD).length : Int) ≤ 12) && (n.cs.map ptD).all plOk))))) = true
      rw [mem_nm (o.hs n hn), mem_nm (o.he n hn)]
      have ne : PyData.eqv (.str n.s) (.str n.e) = false := by
        have := o.hd n hn
        simp [PyData.eqv, this]
      have cl : decide (((n.cs.map ptD).length : Int) ≤ 12) = true := by
        rw [List.length_map]; have := o.cc n hn; exact decide_eq_true (by omega)
      have al : (n.cs.map ptD).all plOk = true := by
        rw [List.all_eq_true]
        intro c hc
        obtain ⟨p, hp, rfl⟩ := List.mem_map.mp hc
        have f := o.fc n hn p hp
        show (true && (true && (betZ (.int p.1) _ _ && betZ (.int p.2) _ _))) = true
        rw [bet_i f.1, bet_i f.2]; rfl
      rw [ne, cl, al]
      rfl
    rw [lin_eq (noList_ln n), nz, lk]
    rfl
  have d0 : difZ (.tuple (m.nodes.map ndD)) = true := by
    show decide (((m.nodes.map ndD).map nm).Nodup) = true
    rw [List.map_map]; exact decide_eq_true o.nn
  have d1 : difZ (.tuple (m.lines.map lnD)) = true := by
    show decide (((m.lines.map lnD).map nm).Nodup) = true
    rw [List.map_map]; exact decide_eq_true o.ln
  have d2 : difZ (.tuple (m.marks.map mkD)) = true := by
    show decide (((m.marks.map mkD).map nm).Nodup) = true
    rw [List.map_map]; exact decide_eq_true o.mn
  have ct : decide (cntZ (.tuple (m.lines.map lnD)) ≤ 60) = true := by
    refine decide_eq_true ?_
    have : cntZ (.tuple (m.lines.map lnD)) = totOf m.lines := by
      unfold cntZ totOf
      rw [p1, List.map_map]
      congr 1
      refine List.map_congr_left fun l _ => ?_
      show (((l.cs.map ptD).length : Nat) : Int) = _
      rw [List.length_map]
    rw [this]; exact t
  rw [c0, c1, c2, a0, a1, a2, d0, d1, d2, ct]
  rfl
theorem freeMap_ok (row : List Int) (n : Int) : (freeMap row n).Ok ∧ totOf (freeMap row n).lines ≤ 60 ∧ ∀ x ∈ (freeMap row n).marks, (0 ≤ x.wide ∧ x.wide ≤ 1000000) ∧ 0 ≤ x.high ∧ x.high ≤ 1000000 := by
  have ca : cnt2 row n 17 5 ≤ 16 := cnt2_le row n (a := 17) (b := 5) (m := 16) (by omega)
  have cd : cnt2 row (fLines row n).n 11 3 ≤ 10 := cnt2_le row (fLines row n).n (a := 11) (b := 3) (m := 10) (by omega)
  obtain ⟨n1, n2⟩ := nodesAt_ok row (n + 2) (cnt2 row n 17 5) (by omega)
  have nl := nodesAt_len row (n + 2) (cnt2 row n 17 5)
  obtain ⟨m1, m2⟩ := marksAt_ok row ((fLines row n).n + 2) (cnt2 row (fLines row n).n 11 3) (by omega)
  have ml := marksAt_len row ((fLines row n).n + 2) (cnt2 row (fLines row n).n 11 3)
  have lc := lineCnt_le row (fNodes row n).2
  have L : ((fLines row n).ls.map (·.name)).Nodup ∧ (∀ l ∈ (fLines row n).ls, l.s ∈ (fNodes row n).1.map (·.name) ∧ l.e ∈ (fNodes row n).1.map (·.name) ∧ l.s ≠ l.e ∧ l.cs.length ≤ 12 ∧ (∀ c ∈ l.cs, Far c) ∧ nameZ (.str l.name) = true) ∧ (fLines row n).ls.length ≤ 16 ∧ totOf (fLines row n).ls ≤ 60 := by
    unfold fLines
    split
    · rename_i h
      obtain ⟨g1, g2⟩ := linesAt_ok row (fNodes row n).1 ((fNodes row n).2 + 2) n1 h (lineCnt row (fNodes row n).2) (by omega)
      refine ⟨g1, g2, by rw [linesAt_len]; exact lc, ?_⟩
      rw [linesAt_tot]
      exact (linesAt_c row _ _ _).2
    · exact ⟨by simp, fun l h => by simp at h, by simp, by simp [totOf]⟩
  refine ⟨?_, L.2.2.2, fun x hx => (m2 x hx).2.2⟩
  exact {
    nn := n1
    ln := L.1
    mn := m1
    hs := fun l hl => (L.2.1 l hl).1
    he := fun l hl => (L.2.1 l hl).2.1
    hd := fun l hl => (L.2.1 l hl).2.2.1
    cn := by show (fNodes row n).1.length ≤ 16; rw [fNodes, nl]; exact ca
    cl := L.2.2.1
    cm := by show (fMarks row n).1.length ≤ 10; rw [fMarks, ml]; exact cd
    cc := fun l hl => (L.2.1 l hl).2.2.2.1
    fn := fun x hx => (n2 x hx).1
    fc := fun l hl => (L.2.1 l hl).2.2.2.2.1
    fm := fun x hx => (m2 x hx).1
    tn := fun x hx => (n2 x hx).2
    tl := fun l hl => (L.2.1 l hl).2.2.2.2.2
    tm := fun x hx => (m2 x hx).2.1 }
def gFreeMap (as : List Pw.Arg) (ret : Ret) (outs : Nat → Cont) : Prop := ∃ row n, as = [.d (.d (intsD row)), .r (.lst [.int n])] ∧ RowOk row ∧ (0 ≤ n ∧ n < 2 ^ 57) ∧ ret = .v (.d (mpD (freeMap row n))) ∧ outs 1 = .lst [.int (freeEnd row n)]
theorem lenFreeMap {vs : List V} {H : Hp} {Q : VK} {E : XK} (s : spG gFreeMap vs H Q E) : vs.length = 2 := len_of (fun _ _ _ ⟨_, _, e, _⟩ => by rw [e]; rfl) s
end Pv

set_option Elab.async false
set_option linter.all false
set_option maxRecDepth 100000
/-! Taking a number, with the next place named. -/
namespace Pv
open PySem L2 Pw
variable {ρ ρ0 ρ1 : List Pw.Slot} {ta tc : TE}
theorem ev_tk {E : XK} {i : Nat} {l : Bool} {row : List Int} {n lim : Int} (m : Int) (h1 : EV ta ρ (.d (intsD row)) ρ0) (h2 : ∃ l c, ρ0[i]? = some (.own l c)) (h3 : EV tc ρ0 (.d (.int lim)) ρ1) (h4 : ρ1[i]? = some (.own l (.lst [.int n]))) (hr : RowOk row) (hn : 0 ≤ n ∧ n < 2 ^ 60) (hl : 0 < lim) (hm : n + 1 = m) :
    EV (tCall (spG gTake) [] E (tCons ta (tCons (tVar i) (tCons tc tNil)))) ρ (.d (.int (drawZ row n lim))) (ρ1.set i (.own l (.lst [.int m]))) := by
  subst hm
  exact ev_take h1 h2 h3 h4 hr hn hl
/-- 'a if take(row, spot, 4) == 0 else b' -/
theorem ev_pick {i : Nat} {l : Bool} {row : List Int} {n a b : Int} {te' : TT} (m : Int)
    (ht : ET te' ρ (decide (drawZ row n 4 = 0)) (ρ.set i (.own l (.lst [.int m])))) :
    EV (tIf te' (tC (.int a)) (tC (.int b))) ρ (.d (.int (if drawZ row n 4 = 0 then a else b))) (ρ.set i (.own l (.lst [.int m]))) :=
  ev_if ht (fun q => by rw [if_pos (of_decide_eq_true q)]; exact ev_int) (fun q => by rw [if_neg (of_decide_eq_false q)]; exact ev_int)
theorem ev_wd {E : XK} {i : Nat} {l : Bool} {row : List Int} {n lim : Int} (m : Int) (h1 : EV ta ρ (.d (intsD row)) ρ0) (h2 : ∃ l c, ρ0[i]? = some (.own l c)) (h3 : EV tc ρ0 (.d (.int lim)) ρ1) (h4 : ρ1[i]? = some (.own l (.lst [.int n]))) (hr : RowOk row) (hn : 0 ≤ n ∧ n < 2 ^ 59) (hl : 0 < lim) (hm : n + 1 + 1 + 1 = m) :
    EV (tCall (spG gWide) [] E (tCons ta (tCons (tVar i) (tCons tc tNil)))) ρ (.d (.int (wideZ row n lim))) (ρ1.set i (.own l (.lst [.int m]))) := by
  subst hm
  exact ev_draws h1 h2 h3 h4 ⟨row, n, lim, rfl, hr, hn, hl, rfl, rfl⟩
theorem at_nd {ns : List Nd} {i : Int} (h : 0 ≤ i ∧ i < ns.length) : ∃ p1 p2, atI (ns.map ndD) i = some (.tuple [.str (nthName ns i), p1, p2]) := by
  obtain ⟨k, rfl⟩ := Int.eq_ofNat_of_zero_le h.1
  have hk : k < ns.length := by omega
  refine ⟨.int ns[k].p.1, .int ns[k].p.2, Pw.atI_nat ?_⟩
  rw [List.getElem?_map, List.getElem?_eq_getElem hk]
  unfold nthName
  rw [Int.toNat_natCast, List.getD_eq_getElem?_getD, List.getElem?_map, List.getElem?_eq_getElem hk]
  rfl
theorem high_at {row : List Int} {n m : Int} (e : n + 1 = m) : atI [PyData.int 0, .int 1000000, .int (drawZ row n 9)] (drawZ row m 3) = some (.int (highOf row n)) := by
  subst e
  unfold highOf
  have b := draw_bd row (n + 1) 3 (by decide)
  generalize drawZ row (n + 1) 3 = i at b
  obtain ⟨m, rfl⟩ := Int.eq_ofNat_of_zero_le b.1
  have hm : m < 3 := by omega
  simp only [Int.toNat_natCast]
  match m, hm with
  | 0, _ => exact Pw.atI_nat (i := 0) rfl
  | 1, _ => exact Pw.atI_nat (i := 1) rfl
  | 2, _ => exact Pw.atI_nat (i := 2) rfl
theorem csOf_snoc (row : List Int) (n : Int) (j : Nat) : (csOf row n (j + 1)).map ptD = (csOf row n j).map ptD ++ [.tuple [.int (freeZ row (n + 10 * (j : Int))), .int (freeZ row (n + 10 * (j : Int) + 5))]] := by
  unfold csOf
  rw [List.range_succ, List.map_append, List.map_append]
  rfl
theorem eo_lcN {wi : TI} {g : TG} {tt : TT} {te : TE} {vs : List Nat} {xs : List Val} (N : Nat) (hN : xs.length = N) (R : Nat → List Pw.Slot) (A : Nat → List PyData) (hi : EI wi ρ xs (R 0)) (hA : A 0 = [])
    (hv : ∀ i, ∀ j ∈ vs, ((R i)[j]? = (R 0)[j]? ∧ ∀ l c, (R i)[j]? ≠ some (.own l c))) (hl : ∀ i, (R i).length = (R 0).length) (hz : N < sizeLine) (hs : ∀ i x, xs[i]? = some x → Turn1 g tt te vs x (R i) (R (i + 1)) (A i) (A (i + 1))) : EO (tLc wi g tt te vs) ρ (.lst (A N)) (R N) := by
  subst hN
  exact eo_lc (ws := none) R A (EI.c hi) hA (fun i _ => hv i) (fun i _ => hl i) (fun _ _ _ _ h => by cases h) hz hs
end Pv

set_option Elab.async false
set_option linter.all false
set_option maxRecDepth 100000
/-! A map, and the same map of lists; the same thing is the same. -/
namespace Pv
open PySem L2 Pw
theorem t_seq (v : PyData) : seqOf (tupZ v) = (seqOf v).map (·.map tupZ) := by
  cases v <;> simp [tupZ, seqOf, tups_map]
theorem t_parts (v : PyData) : partsD (tupZ v) = (partsD v).map tupZ := by
  unfold partsD
  rw [t_seq]
  cases seqOf v <;> rfl
theorem t_part (v : PyData) (i : Nat) : partD (tupZ v) i = tupZ (partD v i) := by
  unfold partD
  rw [t_parts, List.getD_eq_getElem?_getD, List.getD_eq_getElem?_getD, List.getElem?_map]
  cases (partsD v)[i]? with
  | none => simp [tupZ]
  | some d => rfl
theorem t_at0 (v : PyData) : at0 (tupZ v) = tupZ (at0 v) := t_part v 0
theorem t_name (d : PyData) : nameZ (tupZ d) = nameZ d := by
  cases d <;> rw [tupZ] <;> rfl
theorem t_bet (d : PyData) (lo hi : Int) : betZ (tupZ d) lo hi = betZ d lo hi := by
  cases d <;> rw [tupZ] <;> rfl
theorem t_row (v : PyData) (n : Nat) : rowZ (tupZ v) n = rowZ v n := by
  cases v <;> simp [tupZ, rowZ, seqOf, tups_map]
theorem t_col (v : PyData) (n : Nat) : colZ (tupZ v) n = colZ v n := by
  cases v <;> simp [tupZ, colZ, seqOf, tups_map]
theorem t_nm (d : PyData) : nm (tupZ d) = nm d := by
  unfold nm
  rw [t_at0]
  cases at0 d <;> rw [tupZ]
theorem all_t {p : PyData → Bool} (h : ∀ d, p (tupZ d) = p d) (ds : List PyData) : (ds.map tupZ).all p = ds.all p := by
  rw [List.all_map]
  congr 1
  funext d
  exact h d
theorem numOk_t (d : PyData) : numOk (tupZ d) = numOk d := by
  unfold numOk
  rw [t_part, t_part, t_bet, t_bet]
theorem labOk_t (d : PyData) : labOk (tupZ d) = labOk d := by
  unfold labOk
  rw [t_part, t_part, t_bet, t_bet]
theorem t_node (d : PyData) : nodeZ (tupZ d) 1000000000 = nodeZ d 1000000000 := by
  rw [node_eq, node_eq, t_at0, t_name, numOk_t, show rowZ (tupZ d) 3 = rowZ d 3 from t_row d 3]
theorem t_mark (d : PyData) : markZ (tupZ d) 1000000000 1000000 = markZ d 1000000000 1000000 := by
  rw [mark_eq, mark_eq, t_at0, t_name, numOk_t, labOk_t, show rowZ (tupZ d) 5 = rowZ d 5 from t_row d 5]
theorem t_place (d : PyData) (f : Int) : placeZ (tupZ d) f = placeZ d f := by
  rw [place_two, place_two, t_part, t_part, t_bet, t_bet, show rowZ (tupZ d) 2 = rowZ d 2 from t_row d 2]
theorem eqv_strT (s : Str) (d : PyData) : PyData.eqv (.str s) (tupZ d) = PyData.eqv (.str s) d := by
  cases d <;> simp [tupZ, PyData.eqv]
theorem t_mem (ns : List Str) (d : PyData) : memN ns (tupZ d) = memN ns d := by
  unfold memN
  rw [List.any_map, List.any_map]
  congr 1
  funext s
  exact eqv_strT s d
theorem mem_str {ns : List Str} {d : PyData} (h : memN ns d = true) : ∃ s, d = .str s := by
  unfold memN at h
  rw [List.any_eq_true] at h
  obtain ⟨z, hz, e⟩ := h
  obtain ⟨s, _, rfl⟩ := List.mem_map.mp hz
  cases d <;> first | exact ⟨_, rfl⟩ | (simp [PyData.eqv] at e; done)
theorem t_line (d : PyData) (ns : List Str) : lineZ (tupZ d) ns 1000000000 = lineZ d ns 1000000000 := by
  unfold lineZ
  rw [t_at0, t_name, t_part, t_part, t_part, t_mem, t_mem, show rowZ (tupZ d) 4 = rowZ d 4 from t_row d 4, show colZ (tupZ (partD d 3)) 12 = colZ (partD d 3) 12 from t_col _ 12, t_parts, all_t (p := fun c => placeZ c 1000000000) (fun c => t_place c _)]
  cases h1 : memN ns (partD d 1) with
  | false => rfl
  | true =>
    cases h2 : memN ns (partD d 2) with
    | false => rfl
    | true =>
      obtain ⟨a, ea⟩ := mem_str h1
      obtain ⟨b, eb⟩ := mem_str h2
      rw [ea, eb]
      simp only [tupZ]
theorem t_names (v : PyData) : namesZ (tupZ v) = namesZ v := by
  unfold namesZ
  rw [t_parts, List.map_map]
  exact List.map_congr_left fun d _ => t_nm d
theorem t_dif (v : PyData) : difZ (tupZ v) = difZ v := by
  have := t_names v
  unfold namesZ at this
  unfold difZ
  rw [this]
theorem t_cnt (v : PyData) : cntZ (tupZ v) = cntZ v := by
  unfold cntZ
  rw [t_parts, List.map_map]
  congr 1
  refine List.map_congr_left fun d _ => ?_
  show ((partsD (partD (tupZ d) 3)).length : Int) = _
  rw [t_part, t_parts, List.length_map]
theorem map_tup (v : PyData) : mapZ (tupZ v) = mapZ v := by
  unfold mapZ
  rw [t_part, t_part, t_part, t_parts, t_parts, t_parts, all_t (p := fun d => nodeZ d 1000000000) t_node, all_t (p := fun d => markZ d 1000000000 1000000) t_mark, t_names, all_t (p := fun d => lineZ d (namesZ (partD v 0)) 1000000000) (fun d => t_line d _), t_dif, t_dif, t_dif, t_cnt, show rowZ (tupZ v) 3 = rowZ v 3 from t_row v 3,
    show colZ (tupZ (partD v 0)) 16 = colZ (partD v 0) 16 from t_col _ 16, show colZ (tupZ (partD v 1)) 16 = colZ (partD v 1) 16 from t_col _ 16, show colZ (tupZ (partD v 2)) 10 = colZ (partD v 2) 10 from t_col _ 10]
mutual
theorem tup_lis : ∀ v : PyData, noList v = true → tupZ (lisZ v) = v
  | .tuple ds, h => by rw [lisZ, tupZ, tups_liss ds (by simpa [noList] using h)]
  | .list ds, h => by simp [noList] at h
  | .none, _ => by rw [lisZ, tupZ]
  | .bool _, _ => by rw [lisZ, tupZ]
  | .int _, _ => by rw [lisZ, tupZ]
  | .str _, _ => by rw [lisZ, tupZ]
  | .dict _, _ => by rw [lisZ, tupZ]
theorem tups_liss : ∀ ds : List PyData, noLists ds = true → tupsZ (lissZ ds) = ds
  | [], _ => by simp [lissZ, tupsZ]
  | d :: ds, h => by
    simp only [noLists, Bool.and_eq_true] at h
    rw [lissZ, tupsZ, tup_lis d h.1, tups_liss ds h.2]
end
mutual
theorem tup_tup : ∀ v : PyData, noList v = true → tupZ v = v
  | .tuple ds, h => by rw [tupZ, tups_tups ds (by simpa [noList] using h)]
  | .list ds, h => by simp [noList] at h
  | .none, _ => by rw [tupZ]
  | .bool _, _ => by rw [tupZ]
  | .int _, _ => by rw [tupZ]
  | .str _, _ => by rw [tupZ]
  | .dict _, _ => by rw [tupZ]
theorem tups_tups : ∀ ds : List PyData, noLists ds = true → tupsZ ds = ds
  | [], _ => by simp [tupsZ]
  | d :: ds, h => by
    simp only [noLists, Bool.and_eq_true] at h
    rw [tupsZ, tup_tup d h.1, tups_tups ds h.2]
end
mutual
theorem lis_nice : ∀ v : PyData, tame v = true → tame (lisZ v) = true ∧ (lisZ v).depth = v.depth
  | .tuple ds, h => by
    simp only [tame, Bool.and_eq_true] at h
    have k := liss_nice ds h.2
    rw [lisZ]
    refine ⟨?_, by simp only [PyData.depth]; rw [k.2]⟩
    simp only [tame, Bool.and_eq_true]
    exact ⟨by rw [liss_map, List.length_map]; exact h.1, k.1⟩
  | .list ds, h => by rw [lisZ]; exact ⟨h, rfl⟩
  | .none, h => by rw [lisZ]; exact ⟨h, rfl⟩
  | .bool _, h => by rw [lisZ]; exact ⟨h, rfl⟩
  | .int _, h => by rw [lisZ]; exact ⟨h, rfl⟩
  | .str _, h => by rw [lisZ]; exact ⟨h, rfl⟩
  | .dict _, h => by rw [lisZ]; exact ⟨h, rfl⟩
theorem liss_nice : ∀ ds : List PyData, tames ds = true → tames (lissZ ds) = true ∧ PyData.depthAll (lissZ ds) = PyData.depthAll ds
  | [], _ => by simp [lissZ, tames]
  | d :: ds, h => by
    simp only [tames, Bool.and_eq_true] at h
    have a := lis_nice d h.1
    have b := liss_nice ds h.2
    rw [lissZ]
    exact ⟨by simp only [tames, Bool.and_eq_true]; exact ⟨a.1, b.1⟩, by simp only [PyData.depthAll]; rw [a.2, b.2]⟩
end
/-- a value handed in: as it is, or of lists -/
def handZ (row : List Int) (n : Int) (v : PyData) : PyData := if drawZ row n 2 = 0 then lisZ v else v
theorem hand_map {row : List Int} {n : Int} {v : PyData} (h : noList v = true) : mapZ (handZ row n v) = mapZ v := by
  unfold handZ
  split
  · rw [← map_tup (lisZ v), tup_lis v h]
  · rfl
theorem hand_tup {row : List Int} {n : Int} {v : PyData} (h : noList v = true) : tupZ (handZ row n v) = v := by
  unfold handZ
  split
  · exact tup_lis v h
  · exact tup_tup v h
theorem hand_nice {row : List Int} {n : Int} {v : PyData} {k : Nat} (h : Nice k v) : Nice k (handZ row n v) := by
  unfold handZ
  split
  · have := lis_nice v h.1
    exact ⟨this.1, by rw [this.2]; exact h.2⟩
  · exact h
mutual
theorem so_self : ∀ v : PyData, noList v = true → tame v = true → soZ v v = true
  | .tuple ds, h, k => by
    simp only [tame, Bool.and_eq_true] at k
    rw [soZ]
    exact so_selfs ds (by simpa [noList] using h) k.2
  | .list ds, h, _ => by simp [noList] at h
  | .none, _, _ => by rw [soZ]; rfl
  | .bool _, _, _ => by simp [soZ]
  | .int _, _, _ => by simp [soZ]
  | .str _, _, _ => by simp [soZ]
  | .dict _, _, k => by simp [tame] at k
theorem so_selfs : ∀ ds : List PyData, noLists ds = true → tames ds = true → soAll ds ds = true
  | [], _, _ => by simp [soAll]
  | d :: ds, h, k => by
    simp only [noLists, tames, Bool.and_eq_true] at h k
    simp [soAll, so_self d h.1 k.1, so_selfs ds h.2 k.2]
end
/-! ### of tuples, numbers and texts -/
def Snd (k : Nat) (v : PyData) : Prop := noList v = true ∧ Nice k v
theorem noLists_of {ds : List PyData} (h : ∀ d ∈ ds, noList d = true) : noLists ds = true := by
  induction ds with
  | nil => rfl
  | cons d ds ih => rw [noLists, h d (by simp), ih fun e he => h e (by simp [he])]; rfl
theorem tames_of {ds : List PyData} (h : ∀ d ∈ ds, tame d = true) : tames ds = true := by
  induction ds with
  | nil => rfl
  | cons d ds ih => rw [tames, h d (by simp), ih fun e he => h e (by simp [he])]; rfl
theorem depth_of {k : Nat} {ds : List PyData} (h : ∀ d ∈ ds, d.depth ≤ k) : PyData.depthAll ds ≤ k := by
  induction ds with
  | nil => simp [PyData.depthAll]
  | cons d ds ih =>
    rw [PyData.depthAll]
    exact Nat.max_le.mpr ⟨h d (by simp), ih fun e he => h e (by simp [he])⟩
theorem snd_tup {k : Nat} {ds : List PyData} (h : ∀ d ∈ ds, Snd k d) (l : ds.length < 100000) : Snd (k + 1) (.tuple ds) := by
  refine ⟨?_, ?_, ?_⟩
  · rw [noList]; exact noLists_of fun d hd => (h d hd).1
  · simp only [tame, Bool.and_eq_true]; exact ⟨decide_eq_true l, tames_of fun d hd => (h d hd).2.1⟩
  · have := depth_of fun d hd => (h d hd).2.2
    simp only [PyData.depth]; omega
theorem snd_int {k : Nat} {i : Int} : Snd k (.int i) := ⟨rfl, rfl, by simp [PyData.depth]⟩
theorem snd_bool {k : Nat} {i : Bool} : Snd k (.bool i) := ⟨rfl, rfl, by simp [PyData.depth]⟩
theorem snd_none {k : Nat} : Snd k .none := ⟨rfl, rfl, by simp [PyData.depth]⟩
theorem snd_str {k : Nat} {s : Str} (h : PyData.strOk s = true) (l : s.length ≤ 1000) : Snd k (.str s) := ⟨rfl, by rw [tame, h, decide_eq_true l]; rfl, by simp [PyData.depth]⟩
theorem Snd.mono {k m : Nat} {v : PyData} (h : Snd k v) (l : k ≤ m) : Snd m v := ⟨h.1, h.2.mono l⟩
theorem let_small : ∀ c ∈ letters, c < 1114112 := by decide +kernel
theorem snd_name {k : Nat} {s : Str} (h : nameZ (.str s) = true) : Snd k (.str s) := by
  simp only [nameZ, Bool.and_eq_true] at h
  have l := of_decide_eq_true h.1.2
  refine snd_str ?_ (by omega)
  have al := h.2
  show s.cps.all (· < 0x110000) = true
  rw [← Array.all_toList, List.all_eq_true]
  rw [List.all_eq_true] at al
  intro c hc
  exact decide_eq_true (let_small c (of_decide_eq_true (al c hc)))
theorem snd_pt {p : Pt} : Snd 1 (ptD p) := by
  refine snd_tup (k := 0) (fun d hd => ?_) (show 2 < 100000 by decide)
  simp only [List.mem_cons, List.not_mem_nil, or_false] at hd
  rcases hd with rfl | rfl
  · exact snd_int
  · exact snd_int
theorem snd_mp {m : Mp} (o : m.Ok) : Snd 5 (mpD m) := by
  refine snd_tup (k := 4) (fun d hd => ?_) (show 3 < 100000 by decide)
  simp only [List.mem_cons, List.not_mem_nil, or_false] at hd
  have cn := o.cn
  have cl := o.cl
  have cm := o.cm
  rcases hd with rfl | rfl | rfl
  · refine snd_tup (k := 3) (fun d hd => ?_) (by rw [List.length_map]; omega)
    obtain ⟨n, hn, rfl⟩ := List.mem_map.mp hd
    refine snd_tup (k := 2) (fun d hd => ?_) (show 3 < 100000 by decide)
    simp only [List.mem_cons, List.not_mem_nil, or_false] at hd
    rcases hd with rfl | rfl | rfl
    · exact snd_name (o.tn n hn)
    · exact snd_int
    · exact snd_int
  · refine snd_tup (k := 3) (fun d hd => ?_) (by rw [List.length_map]; omega)
    obtain ⟨n, hn, rfl⟩ := List.mem_map.mp hd
    have ns : ∀ s ∈ m.nodes.map (·.name), Snd 2 (.str s) := fun s hs => by
      obtain ⟨x, hx, rfl⟩ := List.mem_map.mp hs
      exact snd_name (o.tn x hx)
    have cc := o.cc n hn
    refine snd_tup (k := 2) (fun d hd => ?_) (show 4 < 100000 by decide)
    simp only [List.mem_cons, List.not_mem_nil, or_false] at hd
    rcases hd with rfl | rfl | rfl | rfl
    · exact snd_name (o.tl n hn)
    · exact ns _ (o.hs n hn)
    · exact ns _ (o.he n hn)
    · refine snd_tup (k := 1) (fun d hd => ?_) (by rw [List.length_map]; omega)
      obtain ⟨p, _, rfl⟩ := List.mem_map.mp hd
      exact snd_pt
  · refine snd_tup (k := 3) (fun d hd => ?_) (by rw [List.length_map]; omega)
    obtain ⟨n, hn, rfl⟩ := List.mem_map.mp hd
    refine snd_tup (k := 2) (fun d hd => ?_) (show 5 < 100000 by decide)
    simp only [List.mem_cons, List.not_mem_nil, or_false] at hd
    rcases hd with rfl | rfl | rfl | rfl | rfl
    · exact snd_name (o.tm n hn)
    · exact snd_int
    · exact snd_int
    · exact snd_int
    · exact snd_int
end Pv

set_option Elab.async false
set_option linter.all false
set_option maxRecDepth 100000
/-! The law's maps at the limits. -/
namespace Pv
open PySem L2 Pw
def nmI (names : List Str) (i : Int) : PyData := .str (names.getD i.toNat ⟨#[]⟩)
def namesAt (row : List Int) (n : Int) : Nat → List Str × Int
  | 0 => ([], n)
  | k + 1 => ((namesAt row n k).1 ++ [nameF row (namesAt row n k).2 (namesAt row n k).1], nameEnd row (namesAt row n k).2)
theorem namesAt_len (row : List Int) (n : Int) : ∀ k, (namesAt row n k).1.length = k
  | 0 => rfl
  | k + 1 => by rw [namesAt, List.length_append, namesAt_len row n k]; rfl
theorem namesAt_n (row : List Int) (n : Int) : ∀ k : Nat, n ≤ (namesAt row n k).2 ∧ (namesAt row n k).2 ≤ n + 10 * k
  | 0 => by simp [namesAt]
  | k + 1 => by
    have := namesAt_n row n k
    have := end_le row (namesAt row n k).2
    simp only [namesAt]
    omega
theorem namesAt_ok (row : List Int) (n : Int) : ∀ k, ∀ s ∈ (namesAt row n k).1, nameZ (.str s) = true
  | 0, s, h => by simp [namesAt] at h
  | k + 1, s, h => by
    simp only [namesAt] at h
    rcases List.mem_append.mp h with h | h
    · exact namesAt_ok row n k s h
    · rw [List.mem_singleton.mp h]; exact name_ok row _ _
theorem at_nmI {names : List Str} {i : Int} (h : 0 ≤ i ∧ i < names.length) : atI (names.map PyData.str) i = some (nmI names i) := by
  obtain ⟨k, rfl⟩ := Int.eq_ofNat_of_zero_le h.1
  have hk : k < names.length := by omega
  refine Pw.atI_nat ?_
  unfold nmI
  rw [List.getElem?_map, List.getElem?_eq_getElem hk, Int.toNat_natCast, List.getD_eq_getElem?_getD, List.getElem?_eq_getElem hk]
  rfl
theorem snd_nmI {k : Nat} {names : List Str} {i : Int} (h : 0 ≤ i ∧ i < names.length) (ok : ∀ s ∈ names, nameZ (.str s) = true) : Snd k (nmI names i) := snd_name (ok _ (getD_mem (by omega)))
def rgD {α : Type} (f : Nat → α) (k : Nat) : List α := (List.range k).map f
theorem rgD_snoc {α : Type} (f : Nat → α) (k : Nat) : rgD f (k + 1) = rgD f k ++ [f k] := by
  unfold rgD
  rw [List.range_succ, List.map_append]
  rfl
theorem rgD_len {α : Type} (f : Nat → α) (k : Nat) : (rgD f k).length = k := by simp [rgD]
theorem rgD_mem {α : Type} {f : Nat → α} {k : Nat} {d : α} (h : d ∈ rgD f k) : ∃ i, i < k ∧ d = f i := by
  obtain ⟨i, hi, e⟩ := List.mem_map.mp h
  exact ⟨i, List.mem_range.mp hi, e.symm⟩
def ndF (row : List Int) (names : List Str) (n : Int) (k : Nat) : PyData := .tuple [nmI names (0 + (k : Int)), .int (0 + (k : Int)), .int (drawZ row (n + (k : Int)) 99)]
def mkF (row : List Int) (names : List Str) (n : Int) (k : Nat) : PyData := .tuple [nmI names (0 + (k : Int)), .int (0 + (k : Int)), .int (drawZ row (n + (k : Int)) 99), .int 1, .int 2]
def lnF (names : List Str) (k : Nat) : PyData := .tuple [nmI names (0 + (k : Int)), nmI names (0 + (k : Int)), nmI names (15 - (0 + (k : Int))), .tuple []]
def lgF (row : List Int) (n : Int) (k : Nat) : PyData := .tuple [.int (0 + (k : Int)), .int (drawZ row (n + (k : Int)) 99)]
def flF (names : List Str) (lg : List PyData) (k : Nat) : PyData := .tuple [nmI names (0 + (k : Int)), nmI names (0 + (k : Int)), nmI names (15 - (0 + (k : Int))), .tuple (cutD lg none (some 12))]
def exF (e : Int) (d : PyData) : List PyData := if e = 1 then [d] else []
def rowF (names : List Str) (nd mk ln lg : List PyData) (e d : Int) : List PyData := [
  .tuple [.tuple (nd ++ exF e (.tuple [nmI names 16, .int 5, .int 5])), .tuple [], .tuple []],
  .tuple [.tuple nd, .tuple (ln ++ exF e (.tuple [nmI names 16, nmI names 0, nmI names 1, .tuple []])), .tuple []],
  .tuple [.tuple nd, .tuple [], .tuple (mk ++ exF e (.tuple [nmI names 10, .int 3, .int 3, .int 0, .int 0]))],
  .tuple [.tuple nd, .tuple [.tuple [nmI names 0, nmI names 1, nmI names 2, .tuple (cutD lg none (some (12 + e)))]], .tuple []],
  .tuple [.tuple nd, .tuple (rgD (flF names lg) 5 ++ [.tuple [nmI names 6, nmI names 1, nmI names 2, .tuple (cutD lg none (some e))]]), .tuple []],
  .tuple [.tuple nd, .tuple [.tuple [nmI names 0, nmI names 1, nmI names (1 + d * e), .tuple []]], .tuple []]]
def madeAt (row : List Int) (names : List Str) (nd mk ln lg : List PyData) (n : Int) : Nat → List PyData
  | 0 => []
  | i + 1 => madeAt row names nd mk ln lg n i ++ rowF names nd mk ln lg (0 + (i : Int)) (drawZ row (n + (i : Int)) 2)
def fullNames (row : List Int) (n : Int) : List Str := (namesAt row n 17).1
def fullFrom (row : List Int) (n : Int) : Int := (namesAt row n 17).2
def fullMaps (row : List Int) (n : Int) : List PyData := madeAt row (fullNames row n) (rgD (ndF row (fullNames row n) (fullFrom row n)) 16) (rgD (mkF row (fullNames row n) (fullFrom row n + 16)) 10) (rgD (lnF (fullNames row n)) 16) (rgD (lgF row (fullFrom row n + 26)) 13) (fullFrom row n + 39) 2
def fullEnd (row : List Int) (n : Int) : Int := fullFrom row n + 41
theorem fullFrom_le (row : List Int) (n : Int) : n ≤ fullFrom row n ∧ fullFrom row n ≤ n + 170 := by
  have := namesAt_n row n 17
  unfold fullFrom
  omega
theorem madeAt_len {row : List Int} {names : List Str} {nd mk ln lg : List PyData} {n : Int} : ∀ i, (madeAt row names nd mk ln lg n i).length = 6 * i
  | 0 => rfl
  | i + 1 => by rw [madeAt, List.length_append, madeAt_len i]; show 6 * i + 6 = _; omega
theorem cut_mem {ds : List PyData} {lo hi : Option Int} {d : PyData} (h : d ∈ cutD ds lo hi) : d ∈ ds := by
  unfold cutD at h
  exact List.mem_of_mem_drop (List.mem_of_mem_take h)
theorem cut_len (ds : List PyData) (lo hi : Option Int) : (cutD ds lo hi).length ≤ ds.length := by
  unfold cutD
  rw [List.length_take, List.length_drop]
  omega
theorem snds {k : Nat} {ds : List PyData} (h : ∀ d ∈ ds, Snd k d) (l : ds.length < 100000) : Snd (k + 1) (.tuple ds) := snd_tup h l
theorem snd_list {k : Nat} {a : PyData} {ds : List PyData} (h : Snd k a) (t : ∀ d ∈ ds, Snd k d) : ∀ d ∈ a :: ds, Snd k d := fun d hd => by
  rcases List.mem_cons.mp hd with rfl | hd
  · exact h
  · exact t d hd
theorem snd_nil {k : Nat} : ∀ d ∈ ([] : List PyData), Snd k d := fun d h => by cases h
theorem snd_app {k : Nat} {a b : List PyData} (h : ∀ d ∈ a, Snd k d) (t : ∀ d ∈ b, Snd k d) : ∀ d ∈ a ++ b, Snd k d := fun d hd => by
  rcases List.mem_append.mp hd with hd | hd
  · exact h d hd
  · exact t d hd
theorem ex_snd {k : Nat} {e : Int} {d : PyData} (h : Snd k d) : ∀ x ∈ exF e d, Snd k x := by
  unfold exF
  split
  · exact snd_list h snd_nil
  · exact snd_nil
theorem ex_len {e : Int} {d : PyData} : (exF e d).length ≤ 1 := by unfold exF; split <;> simp
theorem rowF_snd {names : List Str} {nd mk ln lg : List PyData} {e d : Int} (ok : ∀ s ∈ names, nameZ (.str s) = true) (l : names.length = 17) (hd : 0 ≤ d ∧ d < 2) (he : e = 0 ∨ e = 1)
    (h1 : ∀ d ∈ nd, Snd 3 d) (l1 : nd.length = 16) (h2 : ∀ d ∈ mk, Snd 3 d) (l2 : mk.length = 10) (h3 : ∀ d ∈ ln, Snd 3 d) (l3 : ln.length = 16) (h4 : ∀ d ∈ lg, Snd 1 d) (l4 : lg.length = 13) : ∀ x ∈ rowF names nd mk ln lg e d, Snd 5 x := by
  have nm : ∀ {k : Nat} {i : Int}, 0 ≤ i ∧ i < 17 → Snd k (nmI names i) := fun h => snd_nmI (by omega) ok
  have cut : ∀ {k : Nat} {lo hi}, 1 ≤ k → ∀ x ∈ cutD lg lo hi, Snd k x := fun hk x hx => (h4 x (cut_mem hx)).mono hk
  have cl : ∀ {lo hi}, (cutD lg lo hi).length < 100000 := fun {lo hi} => by have := cut_len lg lo hi; omega
  have em : ∀ {k : Nat}, Snd (k + 1) (.tuple []) := fun {k} => snd_tup snd_nil (by simp)
  have nds : Snd 4 (.tuple nd) := snd_tup h1 (by omega)
  have wrap : ∀ {a b c : PyData}, Snd 4 a → Snd 4 b → Snd 4 c → Snd 5 (.tuple [a, b, c]) := fun x y z => snd_tup (snd_list x (snd_list y (snd_list z snd_nil))) (by simp)
  have four : ∀ {a b c d : PyData}, Snd 2 a → Snd 2 b → Snd 2 c → Snd 2 d → Snd 3 (.tuple [a, b, c, d]) := fun x y z w => snd_tup (snd_list x (snd_list y (snd_list z (snd_list w snd_nil)))) (by simp)
  have de : 0 ≤ 1 + d * e ∧ 1 + d * e < 17 := by rcases he with rfl | rfl <;> omega
  refine snd_list (wrap ?_ em em) (snd_list (wrap nds ?_ em) (snd_list (wrap nds em ?_) (snd_list (wrap nds ?_ em) (snd_list (wrap nds ?_ em) (snd_list (wrap nds ?_ em) snd_nil)))))
  · have := ex_len (e := e) (d := .tuple [nmI names 16, .int 5, .int 5])
    exact snd_tup (snd_app h1 (ex_snd (snd_tup (k := 2) (snd_list (nm (by omega)) (snd_list snd_int (snd_list snd_int snd_nil))) (by simp)))) (by rw [List.length_append]; omega)
  · have := ex_len (e := e) (d := .tuple [nmI names 16, nmI names 0, nmI names 1, .tuple []])
    exact snd_tup (snd_app h3 (ex_snd (four (nm (by omega)) (nm (by omega)) (nm (by omega)) em))) (by rw [List.length_append]; omega)
  · have := ex_len (e := e) (d := .tuple [nmI names 10, .int 3, .int 3, .int 0, .int 0])
    exact snd_tup (snd_app h2 (ex_snd (snd_tup (k := 2) (snd_list (nm (by omega)) (snd_list snd_int (snd_list snd_int (snd_list snd_int (snd_list snd_int snd_nil))))) (by simp)))) (by rw [List.length_append]; omega)
  · exact snd_tup (snd_list (four (nm (by omega)) (nm (by omega)) (nm (by omega)) (snd_tup (cut (by omega)) cl)) snd_nil) (by simp)
  · refine snd_tup (snd_app (fun x hx => ?_) (snd_list (four (nm (by omega)) (nm (by omega)) (nm (by omega)) (snd_tup (cut (by omega)) cl)) snd_nil)) (by rw [List.length_append, rgD_len]; simp)
    obtain ⟨i, hi, rfl⟩ := rgD_mem hx
    exact four (nm (by omega)) (nm (by omega)) (nm (by omega)) (snd_tup (cut (by omega)) cl)
  · exact snd_tup (snd_list (four (nm (by omega)) (nm (by omega)) (nm de) em) snd_nil) (by simp)
theorem fullMaps_snd (row : List Int) (n : Int) : ∀ x ∈ fullMaps row n, Snd 5 x := by
  have ok : ∀ s ∈ fullNames row n, nameZ (.str s) = true := namesAt_ok row n 17
  have ll : (fullNames row n).length = 17 := namesAt_len row n 17
  have nm : ∀ {k : Nat} {i : Int}, 0 ≤ i ∧ i < 17 → Snd k (nmI (fullNames row n) i) := fun h => snd_nmI (by omega) ok
  have rw2 : ∀ (e : Int) (m : Int), (e = 0 ∨ e = 1) → ∀ x ∈ rowF (fullNames row n) (rgD (ndF row (fullNames row n) (fullFrom row n)) 16) (rgD (mkF row (fullNames row n) (fullFrom row n + 16)) 10) (rgD (lnF (fullNames row n)) 16) (rgD (lgF row (fullFrom row n + 26)) 13) e (drawZ row m 2), Snd 5 x := by
    intro e m he
    refine rowF_snd ok ll (draw_bd row m 2 (by decide)) he (fun x hx => ?_) (rgD_len _ _) (fun x hx => ?_) (rgD_len _ _) (fun x hx => ?_) (rgD_len _ _) (fun x hx => ?_) (rgD_len _ _)
    · obtain ⟨i, hi, rfl⟩ := rgD_mem hx
      exact snd_tup (k := 2) (snd_list (nm (by omega)) (snd_list snd_int (snd_list snd_int snd_nil))) (by simp)
    · obtain ⟨i, hi, rfl⟩ := rgD_mem hx
      exact snd_tup (k := 2) (snd_list (nm (by omega)) (snd_list snd_int (snd_list snd_int (snd_list snd_int (snd_list snd_int snd_nil))))) (by simp)
    · obtain ⟨i, hi, rfl⟩ := rgD_mem hx
      exact snd_tup (k := 2) (snd_list (nm (by omega)) (snd_list (nm (by omega)) (snd_list (nm (by omega)) (snd_list (snd_tup snd_nil (by simp)) snd_nil)))) (by simp)
    · obtain ⟨i, hi, rfl⟩ := rgD_mem hx
      exact snd_tup (k := 0) (snd_list snd_int (snd_list snd_int snd_nil)) (by simp)
  intro x hx
  unfold fullMaps at hx
  simp only [madeAt, List.nil_append] at hx
  rcases List.mem_append.mp hx with hx | hx
  · exact rw2 _ _ (.inl rfl) x hx
  · exact rw2 _ _ (.inr rfl) x hx
def gFull (as : List Pw.Arg) (ret : Ret) (outs : Nat → Cont) : Prop := ∃ row n, as = [.d (.d (intsD row)), .r (.lst [.int n])] ∧ RowOk row ∧ (0 ≤ n ∧ n < 2 ^ 57) ∧ ret = .v (.d (.list (fullMaps row n))) ∧ outs 1 = .lst [.int (fullEnd row n)]
theorem lenFull {vs : List V} {H : Hp} {Q : VK} {E : XK} (s : spG gFull vs H Q E) : vs.length = 2 := len_of (fun _ _ _ ⟨_, _, e, _⟩ => by rw [e]; rfl) s
end Pv

set_option Elab.async false
set_option linter.all false
set_option maxRecDepth 100000
/-! The law's changed part of a map. -/
namespace Pv
open PySem L2 Pw
variable {ρ ρ0 ρ1 ρ2 : List Pw.Slot} {ta tc : TE}
theorem noG {g : List Pw.Arg → Ret → (Nat → Cont) → Prop} (z : ∀ as ret outs, ¬ g as ret outs) {vs : List V} {H : Hp} {Q : VK} {E : XK} (s : spG g vs H Q E) : False := by
  obtain ⟨F, as, ret, outs, _, _, _, h, _⟩ := s
  exact z _ _ _ h
theorem ev_g3 {g : List Pw.Arg → Ret → (Nat → Cont) → Prop} {E : XK} {i : Nat} {l : Bool} {row : List Int} {n n' : Int} {d : PyData} {y : Val} (h1 : EV ta ρ (.d (intsD row)) ρ0) (h2 : ∃ l c, ρ0[i]? = some (.own l c)) (h3 : EV tc ρ0 (.d d) ρ1) (h4 : ρ1[i]? = some (.own l (.lst [.int n])))
    (hg : g [.d (.d (intsD row)), .r (.lst [.int n]), .d (.d d)] (.v y) (fun _ => .lst [.int n'])) : EV (tCall (spG g) [] E (tCons ta (tCons (tVar i) (tCons tc tNil)))) ρ y (ρ1.set i (.own l (.lst [.int n']))) := by
  obtain ⟨l0, c0, h2⟩ := h2
  have h := ev_call (E := E) (g := g) (x := y) (outs := fun _ => .lst [.int n']) (ss := [.d (.d (intsD row)), .s i, .d (.d d)]) (ea_cons h1 (ea_ref h2 (ea_cons h3 ea_nil)))
    ⟨fun k j hk => ?_, fun j k m hj hk => ?_⟩ ?_
  · have e : putOuts (fun _ => Cont.lst [.int n']) 0 [Src.d (.d (intsD row)), .s i, .d (.d d)] ρ1 = ρ1.set i (.own l (.lst [.int n'])) := by
      simp [putOuts, h4]
    rw [e] at h
    exact h
  · obtain ⟨_, rfl⟩ := only1 hk; exact ⟨_, _, h4⟩
  · rw [(only1 hj).1, (only1 hk).1]
  · simpa [argOf, h4] using hg
theorem et_and1 {t u : TT} {b : Bool} (h1 : ET t ρ true ρ1) (h2 : ET u ρ1 b ρ2) : ET (tAnd t u) ρ b ρ2 := by
  have := et_and h1 (fun _ => h2); exact this
theorem et_andF {t u : TT} (h1 : ET t ρ false ρ1) : ET (tAnd t u) ρ false ρ1 := by
  have := et_and (u := u) (b := true) (ρ2 := ρ1) h1 (fun z => by cases z); exact this
theorem ev_upper {z : Str} (h : EV ta ρ (.d (.str z)) ρ1) (l : z.length ≤ 5592405) : EV (tM0 (fun x xs H Q => ∃ a, x = .str a ∧ xs = [] ∧ a.length ≤ 5592405 ∧ Q (.str (Txt.upper a)) H) ta) ρ (.d (.str (Txt.upper z))) ρ1 := fun e F σ H Q S k => h e F σ H _ S fun F' H' v f S' r => by
  cases r
  exact ⟨⟨z, rfl⟩, z, rfl, rfl, l, k F' H' _ f S' (Rp.str _)⟩
theorem at_draw {ds : List PyData} {row : List Int} {n k : Int} (hk : (ds.length : Int) = k) (h0 : 0 < k) : atI ds (drawZ row n k) = some (ds.getD (drawZ row n k).toNat .none) := by
  have b := draw_bd row n k h0
  generalize drawZ row n k = i at b ⊢
  obtain ⟨m, rfl⟩ := Int.eq_ofNat_of_zero_le b.1
  have hm : m < ds.length := by omega
  refine Pw.atI_nat ?_
  rw [Int.toNat_natCast, List.getD_eq_getElem?_getD, List.getElem?_eq_getElem hm]
  rfl
/-! ### numbers, names and tuples of them -/
mutual
def wdZ : PyData → Bool
  | .tuple ds => decide (ds.length < 1000) && wdsZ ds
  | .int _ => true
  | .str s => nameZ (.str s)
  | _ => false
def wdsZ : List PyData → Bool
  | [] => true
  | d :: ds => wdZ d && wdsZ ds
end
theorem wd_mem : ∀ {ds : List PyData} {d : PyData}, wdsZ ds = true → d ∈ ds → wdZ d = true
  | a :: ds, d, k, h => by
    simp only [wdsZ, Bool.and_eq_true] at k
    rcases List.mem_cons.mp h with rfl | h
    · exact k.1
    · exact wd_mem k.2 h
theorem wds_of {ds : List PyData} (h : ∀ d ∈ ds, wdZ d = true) : wdsZ ds = true := by
  induction ds with
  | nil => rfl
  | cons d ds ih => rw [wdsZ, h d (by simp), ih fun e he => h e (by simp [he])]; rfl
theorem wd_tup {ds : List PyData} (h : ∀ d ∈ ds, wdZ d = true) (l : ds.length < 1000) : wdZ (.tuple ds) = true := by
  rw [wdZ, decide_eq_true l, wds_of h]; rfl
theorem wd_snd : ∀ (k : Nat) (v : PyData), wdZ v = true → v.depth ≤ k → Snd k v
  | k, .tuple ds, h, d => by
    simp only [wdZ, Bool.and_eq_true] at h
    have l := of_decide_eq_true h.1
    simp only [PyData.depth] at d
    match k, d with
    | k + 1, d =>
      exact snd_tup (fun x hx => wd_snd k x (wd_mem h.2 hx) (by have := depth_mem hx; omega)) (by omega)
  | _, .int _, _, _ => snd_int
  | _, .str _, h, _ => snd_name (by simpa [wdZ] using h)
  | _, .none, h, _ => by simp [wdZ] at h
  | _, .bool _, h, _ => by simp [wdZ] at h
  | _, .list _, h, _ => by simp [wdZ] at h
  | _, .dict _, h, _ => by simp [wdZ] at h
theorem wd_pt {p : Pt} : wdZ (ptD p) = true := rfl
theorem wd_mp {m : Mp} (o : m.Ok) : wdZ (mpD m) = true := by
  have cn := o.cn
  have cl := o.cl
  have cm := o.cm
  refine wd_tup (fun d hd => ?_) (show 3 < 1000 by decide)
  simp only [List.mem_cons, List.not_mem_nil, or_false] at hd
  rcases hd with rfl | rfl | rfl
  · refine wd_tup (fun d hd => ?_) (by rw [List.length_map]; omega)
    obtain ⟨n, hn, rfl⟩ := List.mem_map.mp hd
    refine wd_tup (fun d hd => ?_) (show 3 < 1000 by decide)
    simp only [List.mem_cons, List.not_mem_nil, or_false] at hd
    rcases hd with rfl | rfl | rfl
    · rw [wdZ]; exact o.tn n hn
    · rw [wdZ]
    · rw [wdZ]
  · refine wd_tup (fun d hd => ?_) (by rw [List.length_map]; omega)
    obtain ⟨n, hn, rfl⟩ := List.mem_map.mp hd
    have ns : ∀ s ∈ m.nodes.map (·.name), wdZ (.str s) = true := fun s hs => by
      obtain ⟨x, hx, rfl⟩ := List.mem_map.mp hs
      rw [wdZ]; exact o.tn x hx
    have cc := o.cc n hn
    refine wd_tup (fun d hd => ?_) (show 4 < 1000 by decide)
    simp only [List.mem_cons, List.not_mem_nil, or_false] at hd
    rcases hd with rfl | rfl | rfl | rfl
    · rw [wdZ]; exact o.tl n hn
    · exact ns _ (o.hs n hn)
    · exact ns _ (o.he n hn)
    · refine wd_tup (fun d hd => ?_) (by rw [List.length_map]; omega)
      obtain ⟨p, _, rfl⟩ := List.mem_map.mp hd
      exact wd_pt
  · refine wd_tup (fun d hd => ?_) (by rw [List.length_map]; omega)
    obtain ⟨n, hn, rfl⟩ := List.mem_map.mp hd
    refine wd_tup (fun d hd => ?_) (show 5 < 1000 by decide)
    simp only [List.mem_cons, List.not_mem_nil, or_false] at hd
    rcases hd with rfl | rfl | rfl | rfl | rfl
    · rw [wdZ]; exact o.tm n hn
    · rw [wdZ]
    · rw [wdZ]
    · rw [wdZ]
    · rw [wdZ]
/-! ### the change -/
def otherL : List PyData := [.none, .int 7, .bool true, .str "", .str "line", .tuple [], .tuple [.tuple []], .tuple [.int 1, .int 2]]
def strL (s : Str) : List PyData := [.str (Txt.upper s), .str (s ++ "q"), .str (cutS s (some 1) none), .str (s ++ "abcdefgh"), .str "a1", .str "zz"]
def intL (i : Int) : List PyData := [.int (i + 1), .int (1000000000 + 1), .int (-1000000000 - 1), .none, .bool true, .int 1000001, .int (-1)]
def otherZ (row : List Int) (n : Int) : PyData := otherL.getD (drawZ row n 8).toNat .none
def flatZ (row : List Int) (n : Int) : PyData → PyData × Int
  | .tuple ds => if drawZ row n 4 = 0 ∧ 0 < ds.length then (.tuple (ds ++ cutD ds none (some 1)), n + 1) else if drawZ row n 4 = 1 ∧ 0 < ds.length then (.tuple (cutD ds (some 1) none), n + 1) else (otherZ row (n + 1), n + 2)
  | .str s => if drawZ row n 4 < 2 then ((strL s).getD (drawZ row (n + 1) 6).toNat .none, n + 2) else (otherZ row (n + 1), n + 2)
  | .int i => if drawZ row n 4 < 3 then ((intL i).getD (drawZ row (n + 1) 7).toNat .none, n + 2) else (otherZ row (n + 1), n + 2)
  | _ => (otherZ row (n + 1), n + 2)
def neT : PyData → Bool
  | .tuple ds => decide (0 < ds.length)
  | _ => false
def chgZ (row : List Int) : Nat → Int → PyData → PyData × Int
  | 0, n, v => (v, n)
  | f + 1, n, v => if neT v = true ∧ 0 < drawZ row n 5 then
      (.tuple (cutD (partsD v) none (some (drawZ row (n + 1) (partsD v).length)) ++ [(chgZ row f (n + 2) ((partsD v).getD (drawZ row (n + 1) (partsD v).length).toNat .none)).1] ++ cutD (partsD v) (some (drawZ row (n + 1) (partsD v).length + 1)) none),
        (chgZ row f (n + 2) ((partsD v).getD (drawZ row (n + 1) (partsD v).length).toNat .none)).2)
    else flatZ row (if neT v = true then n + 1 else n) v
theorem flat_n (row : List Int) (n : Int) (v : PyData) : n ≤ (flatZ row n v).2 ∧ (flatZ row n v).2 ≤ n + 2 := by
  cases v <;> simp only [flatZ] <;> repeat' split
  all_goals omega
theorem chg_n (row : List Int) : ∀ (f : Nat) (n : Int) (v : PyData), n ≤ (chgZ row f n v).2 ∧ (chgZ row f n v).2 ≤ n + 2 * (f : Int) + 3
  | 0, n, v => by simp only [chgZ]; omega
  | f + 1, n, v => by
    unfold chgZ
    split
    · have := chg_n row f (n + 2) ((partsD v).getD (drawZ row (n + 1) (partsD v).length).toNat .none)
      dsimp only
      omega
    · have := flat_n row (if neT v = true then n + 1 else n) v
      have : n ≤ (if neT v = true then n + 1 else n) ∧ (if neT v = true then n + 1 else n) ≤ n + 1 := by split <;> omega
      omega
theorem other_snd (row : List Int) (n : Int) : ∀ {k : Nat}, Snd (k + 2) (otherZ row n) := by
  intro k
  have b := draw_bd row n 8 (by decide)
  unfold otherZ
  have m : otherL.getD (drawZ row n 8).toNat .none ∈ otherL := getD_mem (show (drawZ row n 8).toNat < 8 by omega)
  generalize otherL.getD (drawZ row n 8).toNat .none = x at m
  have all : ∀ x ∈ otherL, Snd (k + 2) x := snd_list snd_none (snd_list snd_int (snd_list snd_bool (snd_list (snd_str (by decide +kernel) (by decide +kernel)) (snd_list (snd_str (by decide +kernel) (by decide +kernel)) (snd_list (snd_tup snd_nil (by simp)) (snd_list (snd_tup (snd_list (snd_tup snd_nil (by simp)) snd_nil) (by simp)) (snd_list (snd_tup (snd_list snd_int (snd_list snd_int snd_nil)) (by simp)) snd_nil)))))))
  exact all x m
theorem upper_small : ∀ c ∈ letters, ∀ d ∈ Unicode.upperOf c, d < 1114112 := by decide +kernel
theorem strOk_of {s : Str} (h : ∀ c ∈ s.cps.toList, c < 1114112) : PyData.strOk s = true := by
  show s.cps.all (· < 0x110000) = true
  rw [← Array.all_toList, List.all_eq_true]
  exact fun c hc => decide_eq_true (h c hc)
theorem strOk_mem {s : Str} (h : PyData.strOk s = true) : ∀ c ∈ s.cps.toList, c < 1114112 := by
  have h : s.cps.all (· < 0x110000) = true := h
  rw [← Array.all_toList, List.all_eq_true] at h
  exact fun c hc => of_decide_eq_true (h c hc)
theorem strOk_app {a b : Str} (ha : PyData.strOk a = true) (hb : PyData.strOk b = true) : PyData.strOk (a ++ b) = true := strOk_of fun c hc => by
  have hc : c ∈ (a.cps ++ b.cps).toList := hc
  rw [Array.toList_append] at hc
  rcases List.mem_append.mp hc with hc | hc
  · exact strOk_mem ha c hc
  · exact strOk_mem hb c hc
theorem len_app (a b : Str) : (a ++ b).length = a.length + b.length := by
  show (a.cps ++ b.cps).size = _
  rw [Array.size_append]; rfl
theorem str_snd {k : Nat} {s : Str} (h : nameZ (.str s) = true) : ∀ x ∈ strL s, Snd k x := by
  have hs := snd_name (k := k) h
  simp only [nameZ, Bool.and_eq_true] at h
  have l := of_decide_eq_true h.1.2
  have al := h.2
  rw [List.all_eq_true] at al
  have ok : PyData.strOk s = true := strOk_of fun c hc => let_small c (of_decide_eq_true (al c hc))
  refine snd_list (snd_str ?_ ?_) (snd_list (snd_str (strOk_app ok (by decide +kernel)) ?_) (snd_list (snd_str ?_ ?_) (snd_list (snd_str (strOk_app ok (by decide +kernel)) ?_) (snd_list (snd_str (by decide +kernel) (by decide +kernel)) (snd_list (snd_str (by decide +kernel) (by decide +kernel)) snd_nil)))))
  · refine strOk_of fun d hd => ?_
    have hd : d ∈ ((s.cps.mapIdx fun _ c => (Unicode.upperOf c).toArray).flatten).toList := hd
    rw [Array.mem_toList_iff, Array.mem_flatten] at hd
    obtain ⟨a, ha, hda⟩ := hd
    obtain ⟨i, hi, rfl⟩ := Array.mem_mapIdx.mp ha
    exact upper_small s.cps[i] (of_decide_eq_true (al _ (by simp))) d (by simpa using hda)
  · have := PyProof.Rows.len_upper s; omega
  · rw [len_app]; show s.length + 1 ≤ 1000; omega
  · refine strOk_of fun c hc => strOk_mem ok c ?_
    unfold cutS at hc
    exact List.mem_of_mem_drop (List.mem_of_mem_take (by simpa using hc))
  · show (cutS s (some 1) none).cps.size ≤ 1000
    unfold cutS
    have e : s.cps.toList.length = s.length := by simp [Str.length]
    simp only [List.size_toArray, List.length_take, List.length_drop]
    omega
  · rw [len_app]; show s.length + 8 ≤ 1000; omega
theorem int_snd {k : Nat} {i : Int} : ∀ x ∈ intL i, Snd k x := snd_list snd_int (snd_list snd_int (snd_list snd_int (snd_list snd_none (snd_list snd_bool (snd_list snd_int (snd_list snd_int snd_nil))))))
theorem flat_snd {k : Nat} {row : List Int} {n : Int} {v : PyData} (h : wdZ v = true) (d : v.depth ≤ k) : Snd (k + 2) (flatZ row n v).1 := by
  cases v with
  | tuple ds =>
    have hs := wd_snd k _ h d
    simp only [wdZ, Bool.and_eq_true] at h
    have l := of_decide_eq_true h.1
    simp only [PyData.depth] at d
    have el : ∀ x ∈ ds, Snd (k + 1) x := fun x hx => wd_snd _ x (wd_mem h.2 hx) (by have := depth_mem hx; omega)
    have c1 := cut_len ds none (some 1)
    have c2 := cut_len ds (some 1) none
    simp only [flatZ]
    split
    · exact snd_tup (snd_app el fun x hx => el x (cut_mem hx)) (by rw [List.length_append]; omega)
    · split
      · exact snd_tup (fun x hx => el x (cut_mem hx)) (by omega)
      · exact other_snd _ _
  | str s =>
    have h : nameZ (.str s) = true := by simpa [wdZ] using h
    simp only [flatZ]
    split
    · have b := draw_bd row (n + 1) 6 (by decide)
      exact str_snd h _ (getD_mem (show (drawZ row (n + 1) 6).toNat < 6 by omega))
    · exact other_snd _ _
  | int i =>
    simp only [flatZ]
    split
    · have b := draw_bd row (n + 1) 7 (by decide)
      exact int_snd _ (getD_mem (show (drawZ row (n + 1) 7).toNat < 7 by omega))
    · exact other_snd _ _
  | none => simp [wdZ] at h
  | bool _ => simp [wdZ] at h
  | list _ => simp [wdZ] at h
  | dict _ => simp [wdZ] at h
theorem neT_of {v : PyData} (h : neT v = true) : ∃ ds, v = .tuple ds ∧ 0 < ds.length := by
  cases v <;> first | (cases h; done) | skip
  exact ⟨_, rfl, of_decide_eq_true h⟩
theorem chg_snd (row : List Int) : ∀ (f : Nat) (k : Nat) (n : Int) (v : PyData), wdZ v = true → v.depth ≤ k → Snd (k + 2) (chgZ row f n v).1
  | 0, k, n, v, h, d => (wd_snd k v h d).mono (by omega)
  | f + 1, k, n, v, h, d => by
    unfold chgZ
    split
    · rename_i c
      obtain ⟨ds, rfl, l0⟩ := neT_of c.1
      have e : partsD (.tuple ds) = ds := rfl
      rw [e]
      simp only [wdZ, Bool.and_eq_true] at h
      have l := of_decide_eq_true h.1
      simp only [PyData.depth] at d
      have b := draw_bd row (n + 1) ds.length (by omega)
      have hm : ds.getD (drawZ row (n + 1) ds.length).toNat .none ∈ ds := getD_mem (by omega)
      match k, d with
      | k + 1, d =>
        have dm := depth_mem hm
        have ih := chg_snd row f k (n + 2) _ (wd_mem h.2 hm) (by omega)
        have el : ∀ x ∈ ds, Snd (k + 2) x := fun x hx => (wd_snd k x (wd_mem h.2 hx) (by have := depth_mem hx; omega)).mono (by omega)
        have c1 := cut_len ds none (some (drawZ row (n + 1) ds.length))
        have c2 := cut_len ds (some (drawZ row (n + 1) ds.length + 1)) none
        exact snd_tup (k := k + 2) (snd_app (snd_app (fun x hx => el x (cut_mem hx)) (snd_list ih snd_nil)) (fun x hx => el x (cut_mem hx))) (by simp only [List.length_append, List.length_cons, List.length_nil]; omega)
    · exact flat_snd h d
def gChg (N : Nat) (as : List Pw.Arg) (ret : Ret) (outs : Nat → Cont) : Prop := ∃ row n v, as = [.d (.d (intsD row)), .r (.lst [.int n]), .d (.d v)] ∧ RowOk row ∧ (0 ≤ n ∧ n + 2 * (N : Int) < 2 ^ 57) ∧ wdZ v = true ∧ v.depth < N ∧ ret = .v (.d (chgZ row N n v).1) ∧ outs 1 = .lst [.int (chgZ row N n v).2]
theorem lenChg {N : Nat} {vs : List V} {H : Hp} {Q : VK} {E : XK} (s : spG (gChg N) vs H Q E) : vs.length = 3 := len_of (fun _ _ _ ⟨_, _, _, e, _⟩ => by rw [e]; rfl) s
end Pv

set_option Elab.async false
set_option linter.all false
set_option maxRecDepth 100000
/-! The law's last defs. -/
namespace Pv
open PySem L2 Pw
variable {ρ ρ0 ρ1 ρ2 : List Pw.Slot} {ta tc : TE}
theorem ev_g2 {g : List Pw.Arg → Ret → (Nat → Cont) → Prop} {E : XK} {i : Nat} {l : Bool} {row : List Int} {n n' : Int} {y : Val} (h1 : EV ta ρ (.d (intsD row)) ρ) (h2 : ρ[i]? = some (.own l (.lst [.int n])))
    (hg : g [.d (.d (intsD row)), .r (.lst [.int n])] (.v y) (fun _ => .lst [.int n'])) : EV (tCall (spG g) [] E (tCons ta (tCons (tVar i) tNil))) ρ y (ρ.set i (.own l (.lst [.int n']))) := by
  have key : ∀ (k m : Nat), ([.d (.d (intsD row)), .s i] : List Src)[k]? = some (.s m) → k = 1 ∧ m = i := fun k m h => by
    match k, h with
    | 0, h => cases h
    | 1, h => cases h; exact ⟨rfl, rfl⟩
    | k + 2, h => simp at h
  have h := ev_call (E := E) (g := g) (x := y) (outs := fun _ => .lst [.int n']) (ss := [.d (.d (intsD row)), .s i]) (ea_cons h1 (ea_ref h2 ea_nil))
    ⟨fun k j hk => ?_, fun j k m hj hk => ?_⟩ ?_
  · have e : putOuts (fun _ => Cont.lst [.int n']) 0 [Src.d (.d (intsD row)), .s i] ρ = ρ.set i (.own l (.lst [.int n'])) := by
      simp [putOuts, h2]
    rw [e] at h
    exact h
  · obtain ⟨_, rfl⟩ := key k j hk; exact ⟨_, _, h2⟩
  · rw [(key j m hj).1, (key k m hk).1]
  · simpa [argOf, h2] using hg
def toldZ (a : PyData) : PyData := if mapZ a = true then .none else .int 0
def gTold (a y : PyData) : Prop := Nice 9 a ∧ y = toldZ a
theorem told_so {a b : PyData} (h : mapZ a = mapZ b) : soZ (toldZ a) (if mapZ b = true then .none else .int 0) = true := by
  unfold toldZ
  rw [h]
  split <;> simp [soZ, isNone]
theorem so_bl {b : Bool} : soZ (.bool b) (.bool b) = true := by simp [soZ]
theorem dep_sm {k : Nat} {v : PyData} (h : Snd k v) : depD v ≤ k ∧ smD v = true := ⟨by have := depD_le v; have := h.2.2; omega, tame_smD h.2.1⟩
theorem no_refs1 {x : Val} {i : Nat} {c : Cont} (h : ([Pw.Arg.d x] : List Pw.Arg)[i]? = some (.r c)) : False := by
  match i, h with
  | 0, h => cases h
  | i + 1, h => simp at h
end Pv

set_option Elab.async false
set_option linter.all false
set_option maxRecDepth 100000
/-! PwTxt: str(x), int(text), join, split, removeprefix, a text again and again; a tuple of texts that the program's own module holds. -/
namespace Pw
open PySem L2 TL PyProof.Rows
theorem fold_app : ∀ (L : List (Array Nat)) (a : Array Nat), (L.foldl (· ++ ·) a).toList = a.toList ++ (L.map Array.toList).flatten
  | [], a => by simp
  | x :: L, a => by
    rw [List.foldl_cons, fold_app L (a ++ x)]
    simp
section
variable {X : Cx}
def rStrA : List V → Hp → VK → Prop := fun xs H Q => (∃ i, xs = [.int i] ∧ i.natAbs.log2 < 1920 ∧ Q (.str (toString i)) H) ∨ (∃ a, xs = [.str a] ∧ Q (.str a) H)
theorem call_strA : CallR X (.type "str") rStrA := by
  intro pins s σ H xs us Q I r h
  rcases h with h | h
  · exact call_str_int pins s σ H xs us Q I r h
  · exact SkE.call_str_str pins s σ H xs us Q I r h
def rIntS : List V → Hp → VK → Prop := fun xs H Q => ∃ a n, xs = [.str a] ∧ PySem.intText? a = some n ∧ a.length ≤ 640 ∧ Q (.int n) H
theorem call_intS : CallR X (.type "int") rIntS := call_int_str
def rJoin (K : PySem.W.Frag) : V → List V → Hp → VK → Prop := fun x xs H Q => ∃ a p, ∃ ys : List Str, x = .str a ∧ xs = [.ref p] ∧ (SqL K H p (ys.map V.str) ∨ SqT K H p (ys.map V.str)) ∧
    (ys.map (·.length)).sum + ys.length * a.length ≤ 16777216 ∧ Q (.str (Txt.join a ys)) H
theorem mt_joinK (K : PySem.W.Frag) (h : X.K = K := by rfl) : MtR X "str.join" (rJoin K) := h ▸ mt_join
def rSplit : V → List V → Hp → VK → Prop := fun x xs H Q => ∃ a b, x = .str a ∧ xs = [.str b] ∧ (b.length == 0) = false ∧ a.length + 2 ≤ sizeLine ∧ rNewStrs (Txt.split a b) H Q
theorem mt_splitK : MtR X "str.split" rSplit := mt_split
def rPre : V → List V → Hp → VK → Prop := fun x xs H Q => ∃ a b, x = .str a ∧ xs = [.str b] ∧ a.length ≤ sizeLine ∧ Q (.str (Txt.removeprefix a b)) H
theorem mt_preK : MtR X "str.removeprefix" rPre := mt_removeprefix
def repS (x : Str) (n : Int) : Str := if n < 1 then Str.empty else if (n == 1 || x.length == 0) = true then x else ⟨(List.replicate n.toNat x.cps).foldl (· ++ ·) #[]⟩
def rRepS : R2 := fun x y H Q => ∃ a k, x = .str a ∧ y = .int k ∧ 0 ≤ k ∧ k ≤ 1000 ∧ a.length ≤ 1000 ∧ Q (.str (repS a k)) H
theorem op_repS : OpR X (binaryOp .Mult) rRepS := by
  intro pins s σ H x y v u Q I rx ry h
  obtain ⟨a, k, rfl, rfl, h0, h1, hz, q⟩ := h
  obtain ⟨t, rfl⟩ := rx
  obtain ⟨t', rfl⟩ := ry
  refine P.mul_str (by rw [decide_eq_false (show ¬ k < -(2 ^ 63 : Int) by omega), decide_eq_false (show ¬ k ≥ 2 ^ 63 by omega)]; rfl) (fun h2 _ => ?_) (fun h2 _ => ?_) ?_
  · intro z
    have e : (9223372036854775 : Int) ≤ (2 ^ 63 - 1) / k := Int.le_ediv_of_mul_le (by omega) (by omega)
    omega
  · have e : a.length * k.toNat ≤ 1000 * 1000 := Nat.mul_le_mul hz (by omega)
    unfold Builtin.Str.tooLong
    simp only [decide_eq_false_iff_not]
    try rw [PySem.sizeLine_eq]
    omega
  · unfold repS at q
    by_cases g : k < 1
    · rw [if_pos g]
      rw [if_pos g] at q
      exact ⟨Nat.zero_le _, ⟨.str _, H, I.tok _, ⟨_, rfl⟩, q⟩⟩
    · rw [if_neg g]
      rw [if_neg g] at q
      by_cases g2 : (k == 1 || a.length == 0) = true
      · rw [if_pos g2]
        rw [if_pos g2] at q
        exact ⟨.str _, H, I, ⟨t, rfl⟩, q⟩
      · rw [if_neg g2]
        rw [if_neg g2] at q
        refine ⟨?_, ⟨.str _, H, I.tok _, ⟨_, rfl⟩, q⟩⟩
        have e : a.length * k.toNat ≤ 1000 * 1000 := Nat.mul_le_mul hz (by omega)
        rw [len_tl]
        show ((List.replicate k.toNat a.cps).foldl (· ++ ·) #[]).toList.length ≤ _
        rw [fold_app, PySem.sizeLine_eq]
        have e2 : a.cps.toList.length = a.length := Array.length_toList
        simp only [List.map_replicate, List.nil_append, Array.toList_empty, List.length_flatten, List.sum_replicate_nat, e2]
        rw [Nat.mul_comm] at e
        omega
end
section
variable {K : PySem.W.Frag} {ρ ρ1 ρ2 : List Slot} {ta tb : TE}
theorem cd_strI {i : Int} (h : i.natAbs.log2 < 1920) : CallD rStrA [.int i] (.str (numS i)) := fun F H Q vs S r k => by
  cases r with
  | cons r1 r =>
    cases r
    cases r1
    exact .inl ⟨i, rfl, h, k F H _ (.rfl S) (.str _)⟩
theorem cd_strS {z : Str} : CallD rStrA [.str z] (.str z) := fun F H Q vs S r k => by
  cases r with
  | cons r1 r =>
    cases r
    cases r1
    exact .inr ⟨z, rfl, k F H _ (.rfl S) (.str _)⟩
theorem cd_intS {z : Str} {n : Int} (h : PySem.intText? z = some n) (l : z.length ≤ 640) : CallD rIntS [.str z] (.int n) := fun F H Q vs S r k => by
  cases r with
  | cons r1 r =>
    cases r
    cases r1
    exact ⟨z, n, rfl, h, l, k F H _ (.rfl S) (.int _)⟩
theorem ev_join {a : Str} {ys : List Str} (h : EV ta ρ (.d (.str a)) ρ1) (h2 : EV tb ρ1 (.d (.list (ys.map PyData.str))) ρ2) (hl : (ys.map (·.length)).sum + ys.length * a.length ≤ 16777216) :
    EV (tM1 (rJoin K) ta tb) ρ (.d (.str (Str.join a ys))) ρ2 := fun e F σ H Q S k => h e F σ H _ S fun F1 H1 v f1 S1 r1 => by
  cases r1
  refine ⟨⟨a, rfl⟩, h2 e F1 σ H1 _ S1 fun F2 H2 w f2 S2 r2 => ?_⟩
  cases r2 with
  | lst e1 r =>
    rename_i p vs
    have ev := r.strs
    refine ⟨a, p, ys, rfl, rfl, .inl ?_, hl, ?_⟩
    · rw [← (show vs = ys.map V.str from ev)]; exact SqL.of (S2.sub.lst e1)
    · rw [join_eq]; exact k F2 H2 _ (f1.trans f2) S2 (Rp.str _)
theorem rp_strs {F : Hp} : ∀ ys : List Str, RpAll F (ys.map V.str) (ys.map PyData.str)
  | [] => .nil
  | y :: ys => .cons (.str y) (rp_strs ys)
theorem eo_split {a b : Str} {c : Nat} (h : EV ta ρ (.d (.str a)) ρ1) (h2 : EV tb ρ1 (.d (.str b)) ρ2) (hb : tl b = [c]) (hc : c < 256) (hl : a.length + 2 ≤ sizeLine) :
    EO (tM1 rSplit ta tb) ρ (.lst ((splitS c a).map PyData.str)) ρ2 := fun e F σ H Q S k => h e F σ H _ S fun F1 H1 v f1 S1 r1 => by
  cases r1
  refine ⟨⟨a, rfl⟩, h2 e F1 σ H1 _ S1 fun F2 H2 w f2 S2 r2 => ?_⟩
  cases r2
  refine ⟨a, b, rfl, rfl, ?_, hl, fun p hp => ?_⟩
  · rw [len_tl, hb]; rfl
  · rw [split_eq a b hb hc]
    exact k F2 _ p _ (f1.trans f2) (S2.alloc hp) (S2.sub.none hp) upd_same ⟨_, rfl, rp_strs _⟩ (S2.h0 hp) (S2.fresh hp)
theorem ev_pre {a b : Str} (h : EV ta ρ (.d (.str a)) ρ1) (h2 : EV tb ρ1 (.d (.str b)) ρ2) (hl : a.length ≤ sizeLine) : EV (tM1 rPre ta tb) ρ (.d (.str (Txt.removeprefix a b))) ρ2 :=
  fun e F σ H Q S k => h e F σ H _ S fun F1 H1 v f1 S1 r1 => by
    cases r1
    refine ⟨⟨a, rfl⟩, h2 e F1 σ H1 _ S1 fun F2 H2 w f2 S2 r2 => ?_⟩
    cases r2
    exact ⟨a, b, rfl, rfl, hl, k F2 H2 _ (f1.trans f2) S2 (Rp.str _)⟩
theorem opd_repS {a : Str} {n : Int} (h0 : 0 ≤ n) (h1 : n ≤ 1000) (hz : a.length ≤ 1000) : OpD rRepS (.str a) (.int n) (.str (repS a n)) := fun F H Q v w S r1 r2 k => by
  cases r1
  cases r2
  exact ⟨a, n, rfl, rfl, h0, h1, hz, k F H _ (.rfl S) (.str _)⟩
end
theorem tl_rep (x : Str) (n : Int) : tl (repS x n) = (List.replicate n.toNat (tl x)).flatten := by
  unfold repS
  by_cases g : n < 1
  · rw [if_pos g, show n.toNat = 0 by omega]; rfl
  · rw [if_neg g]
    by_cases g2 : (n == 1 || x.length == 0) = true
    · rw [if_pos g2]
      rcases Bool.or_eq_true _ _ ▸ g2 with q | q
      · have e : n = 1 := by simpa using q
        subst e
        simp
      · have e : tl x = [] := List.eq_nil_of_length_eq_zero (by rw [← len_tl]; simpa using q)
        rw [e]
        simp
    · rw [if_neg g2]
      show ((List.replicate n.toNat x.cps).foldl (· ++ ·) #[]).toList = _
      rw [fold_app]
      simp
theorem tl_blanks (x : Str) (h : tl x = [32]) (n : Int) : tl (repS x n) = List.replicate n.toNat 32 := by
  rw [tl_rep, h]
  generalize n.toNat = k
  induction k with
  | zero => rfl
  | succ k ih => rw [List.replicate_succ, List.flatten_cons, ih]; rfl
theorem tl_pre (w b : Str) (hb : tl b = [45]) : tl (Txt.removeprefix w b) = bare (tl w) := by
  have hb1 : b.length = 1 := by rw [len_tl, hb]; rfl
  have e : Builtin.Str.subAt w b 0 = ((tl w).take 1 == [45]) := by
    rw [StrLaws.subAt_eq, hb1, List.drop_zero]
    show (_ == tl b) = _
    rw [hb]
  unfold Txt.removeprefix
  rw [e]
  cases h : tl w with
  | nil => exact h
  | cons c r =>
    have hl : w.length = r.length + 1 := by rw [len_tl, h]; rfl
    by_cases hc : c = 45
    · subst hc
      show tl (Txt.affix w (some (b.length, w.length))) = r
      unfold Txt.affix
      dsimp only
      rw [if_neg (by rw [hl, hb1]; simp), tl_strSub, h, hb1, hl]
      simp
    · have e2 : ((c :: r).take 1 == [45]) = false := by simp [hc]
      rw [e2]
      show tl w = _
      rw [h]
      unfold bare; split
      · rename_i q; injection q with q1 _; exact absurd q1 hc
      · rfl
end Pw

set_option Elab.async false
set_option linter.all false
set_option maxRecDepth 100000
/-! PwTxt2: the truth of a text or a list; a tuple of texts that the module holds: in, index, zip; ranges with a step. -/
namespace Pw
open PySem L2 TL PyProof.Rows RZ
def tTru (K : PySem.W.Frag) (ta : TE) : TT := fun σ H Q => ta σ H fun x H' => ∃ k, TruV K x H' k ∧ Q k H'
theorem pt_truK {X : Cx} {a : Expr} {ta : TE} (K : PySem.W.Frag) (ha : PE X a ta) (h : X.K = K := by rfl)
    (he : ∀ whole, isTrue a X.env whole = (do let v ← whole; standAt a.pos; holding [v] (truthy v)) := by intro whole; rfl) : PT X a (tTru K ta) := by
  subst h; exact pt_truth ha he
def truT : PyData → Option Bool
  | .none => some false
  | .bool b => some b
  | .str z => if z.length ≤ sizeLine then some (decide (tl z ≠ [])) else none
  | .list ds => some (!ds.isEmpty)
  | .tuple ds => some (!ds.isEmpty)
  | _ => none
theorem rpAll_empty {F : Hp} {vs : List V} {ds : List PyData} (r : RpAll F vs ds) : vs.isEmpty = ds.isEmpty := by cases r <;> rfl
theorem trt_rp {K : PySem.W.Frag} {F H : Hp} {v : V} {d : PyData} {b : Bool} (S : Sub F H) (r : Rp F v d) (h : truT d = some b) : TruV K v H b := by
  cases r with
  | non => cases h; exact rfl
  | bl c => cases h; exact rfl
  | int i => cases h
  | str s =>
    have h : (if s.length ≤ sizeLine then some (decide (tl s ≠ [])) else none) = some b := h
    by_cases g : s.length ≤ sizeLine
    · rw [if_pos g] at h
      cases h
      refine ⟨g, ?_⟩
      have e := len_tl s
      cases q : tl s with
      | nil => rw [q] at e; simp [e]
      | cons a l => rw [q] at e; simp [e]; omega
    · rw [if_neg g] at h; cases h
  | lst q r => cases h; exact .inl ⟨_, SqL.of (S.lst q), by rw [rpAll_empty r]⟩
  | tup q r => cases h; exact .inr (.inl ⟨_, SqT.of (S.tup q), by rw [rpAll_empty r]⟩)
theorem et_tru {K : PySem.W.Frag} {ρ ρ1 : List Slot} {ta : TE} {d : PyData} {b : Bool} (h : EV ta ρ (.d d) ρ1) (hb : truT d = some b) : ET (tTru K ta) ρ b ρ1 := fun e F σ H Q S k =>
  h e F σ H _ S fun F1 H1 v f1 S1 r1 => ⟨b, trt_rp S1.sub r1 hb, k F1 H1 f1 S1⟩
def textsB : List Value → List Str → Bool
  | [], [] => true
  | .str y _ :: vs, z :: zs => decide (y = z) && textsB vs zs
  | _, _ => false
theorem texts_vals : ∀ {vs : List Value} {zs : List Str}, textsB vs zs = true → Vals (zs.map V.str) vs
  | [], [], _ => .nil
  | .str y t :: vs, z :: zs, h => by
    simp only [textsB, Bool.and_eq_true, decide_eq_true_eq] at h
    obtain ⟨rfl, h2⟩ := h
    exact .cons ⟨t, rfl⟩ (texts_vals h2)
def tupB (K : PySem.W.Frag) (x : Str) (ys : List Str) : Bool := match K.lookup (He.ga K x) with
  | some ⟨cls, dict, .seq its _, _⟩ => decide (cls = .type "tuple") && (dict.isNone && (decide (its.size ≤ 1000) && textsB its.toList ys))
  | _ => false
structure TupK (K : PySem.W.Frag) (mg : Str → Option Value) (x : Str) (ys : List Str) : Prop where
  m : mg x = some (.ref (He.ga K x))
  t : ∃ (o : Obj) (its : Array Value) (n : Nat), K.lookup (He.ga K x) = some o ∧ o.cls = .type "tuple" ∧ o.data = .seq its n ∧ its.size ≤ sizeLine ∧ Vals (ys.map V.str) its.toList
  d : ∃ o, K.lookup (He.ga K x) = some o ∧ o.cls = .type "tuple" ∧ o.dict = none
theorem TupK.of {K : PySem.W.Frag} {mg : Str → Option Value} {x : Str} {ys : List Str} (m : mg x = some (.ref (He.ga K x))) (h : tupB K x ys = true) : TupK K mg x ys := by
  unfold tupB at h
  split at h
  · rename_i cls dict its n sl e
    simp only [Bool.and_eq_true, decide_eq_true_eq, Option.isNone_iff_eq_none] at h
    obtain ⟨h1, h2, h3, h4⟩ := h
    exact ⟨m, ⟨_, its, n, e, h1, rfl, by rw [PySem.sizeLine_eq]; omega, texts_vals h4⟩, ⟨_, e, h1, h2⟩⟩
  · cases h
theorem TupK.sq {K : PySem.W.Frag} {mg : Str → Option Value} {x : Str} {ys : List Str} (t : TupK K mg x ys) (H : Hp) : SqT K H (He.ga K x) (ys.map V.str) := .inr t.t
section
variable {K : PySem.W.Frag} {ρ ρ1 ρ2 : List Slot} {ta tb : TE} {mg : Str → Option Value} {x : Str} {ys : List Str}
theorem inV_strs (z : Str) : ∀ ys : List Str, inV (.str z) (ys.map V.str) = decide (z ∈ ys)
  | [] => by simp [inV]
  | y :: ys => by
    have ih := inV_strs z ys
    unfold inV at ih ⊢
    rw [List.map_cons, List.any_cons, ih]
    by_cases h : z = y
    · subst h
      simp [eqV]
    · have h2 : ¬ y = z := fun e => h e.symm
      simp [eqV, h, h2]
theorem ev_notInKT (t : TupK K mg x ys) {z : Str} (h : EV ta ρ (.d (.str z)) ρ1) : EV (tOp (rNotInU K) ta (tC (.ref (He.ga K x)))) ρ (.d (.bool (!decide (z ∈ ys)))) ρ1 := fun e F σ H Q S k => h e F σ H _ S fun F1 H1 v f1 S1 r1 => by
  cases r1
  refine .inl ⟨_, _, rfl, .inr (t.sq H1), rfl, flat_strs ys, ?_⟩
  rw [if_pos rfl, inV_strs]
  exact k F1 H1 _ f1 S1 (Rp.bl _)
def rTupIx (K : PySem.W.Frag) : V → List V → Hp → VK → Prop := fun x xs H Q => ∃ p, ∃ ys : List Str, ∃ z j, x = .ref p ∧ xs = [.str z] ∧ SqT K H p (ys.map V.str) ∧ ys[j]? = some z ∧ (∀ m, m < j → ys[m]? ≠ some z) ∧ Q (.int (j : Nat)) H
theorem mt_tupIxK {X : Cx} (K : PySem.W.Frag) (h : X.K = K := by rfl) : MtR X "tuple.index" (rTupIx K) := h ▸ mt_tup_index
theorem ev_indexKT (t : TupK K mg x ys) {z : Str} {j : Nat} (h : EV ta ρ (.d (.str z)) ρ1) (hj : ys[j]? = some z) (hn : ∀ m, m < j → ys[m]? ≠ some z) :
    EV (tBM K "tuple" (rTupIx K) (tC (.ref (He.ga K x))) (tCons ta tNil)) ρ (.d (.int (j : Nat))) ρ1 := fun e F σ H Q S k =>
  ⟨.inr (.inl ⟨rfl, t.d⟩), h e F σ H _ S fun F1 H1 v f1 S1 r1 => by
    cases r1
    exact ⟨_, ys, z, j, rfl, rfl, t.sq H1, hj, hn, k F1 H1 _ f1 S1 (Rp.int _)⟩⟩
def zipD : List Str → List PyData → List PyData
  | y :: ys, d :: ds => .tuple [.str y, d] :: zipD ys ds
  | _, _ => []
theorem zip_at : ∀ {ys : List Str} {ds : List PyData} {i : Nat} {y : Str} {d : PyData}, ys[i]? = some y → ds[i]? = some d → (zipD ys ds)[i]? = some (.tuple [.str y, d])
  | y :: ys, d :: ds, 0, _, _, h1, h2 => by
    simp at h1 h2; subst h1 h2; rfl
  | y :: ys, d :: ds, i + 1, _, _, h1, h2 => by
    simp only [List.getElem?_cons_succ] at h1 h2
    show (zipD ys ds)[i]? = _
    exact zip_at h1 h2
  | [], _, _, _, _, h1, _ => by simp at h1
  | _ :: _, [], _, _, _, _, h2 => by simp at h2
theorem zip_len : ∀ {ys : List Str} {ds : List PyData}, ys.length = ds.length → (zipD ys ds).length = ys.length
  | [], [], _ => rfl
  | y :: ys, d :: ds, h => by
    show (zipD ys ds).length + 1 = _
    rw [zip_len (by simpa using h)]; rfl
theorem si_zipKT (t : TupK K mg x ys) {F : Hp} {b : Addr} {vs : List V} {ds : List PyData} (e : F b = some (.tup vs)) (r : RpAll F vs ds) (hl : ys.length = ds.length) :
    SI (ItzT K (He.ga K x) b) F C0 ((zipD ys ds).map .d) where
  go := fun F' H i f S c h => by
    rw [List.length_map, zip_len hl] at h
    have h2 : i < vs.length := by rw [r.length]; omega
    exact ⟨ys.map V.str, vs, .str ys[i], vs[i], t.sq H, SqT.of (S.tup (f _ _ e)), by simp [h], by simp [h2]⟩
  stop := fun F' H i f S c h => by
    rw [List.length_map, zip_len hl] at h
    exact ⟨ys.map V.str, vs, t.sq H, SqT.of (S.tup (f _ _ e)), .inl (by simpa using h)⟩
  yld := fun F' H i v H' f S c y h => by
    rw [List.length_map, zip_len hl] at h
    obtain ⟨T, p, q, rfl, hT, rfl, y1, y2⟩ := y
    have hx := y1 _ (t.sq H)
    have hy := y2 vs (SqT.of (S.tup (f _ _ e)))
    obtain ⟨d, hd, rd⟩ := (r.mono f).get hy
    have ep : p = .str ys[i] := by
      rw [List.getElem?_map, List.getElem?_eq_getElem h] at hx
      exact (Option.some.inj hx).symm
    subst ep
    have A := Al.one (o := .tup [.str ys[i], q]) S hT
    refine ⟨_, .d (.tuple [.str ys[i], d]), A, ?_, Rp.tup upd_same (.cons (.str _) (.cons (rd.mono A.f) .nil))⟩
    rw [List.getElem?_map, zip_at (List.getElem?_eq_getElem h) hd]; rfl
theorem ei_zipKT (t : TupK K mg x ys) {ds : List PyData} (h : EV tb ρ (.d (.tuple ds)) ρ1) (hl : ys.length = ds.length) : EI (iZipA K (tCons (tC (.ref (He.ga K x))) (tCons tb tNil))) ρ ((zipD ys ds).map .d) ρ1 :=
  fun e F σ H R S k => h e F σ H _ S fun F' H' v f S' r => by
    cases r with
    | tup q r => exact ⟨_, _, _, _, rfl, .inr ⟨t.sq H', SqT.of (S'.sub.tup q), k F' H' _ f S' (si_zipKT t q r hl)⟩⟩
theorem pi_zipAK {X : Cx} {e e2 : Expr} {ta : TA} {p pos tpos : Pos} {elts : List Expr} {kk : Nat} (K : PySem.W.Frag) (hg : Gl X "zip") (hm : X.mg "zip" = none) (ha : PA X [e, e2] ta) (h : X.K = K := by rfl)
    (hs : starEach [e, e2] X.env = (false, eval e X.env) :: starEach [e2] X.env := by rfl) (hpl : (backTo pos (starEach [e2] X.env)).any (·.1) = false := by rfl) :
    PI X (.Tuple elts kk tpos) (.Call (.Name "zip" p) [e, e2] [] pos) (iZipA K ta) := by
  subst h; exact pi_zipA hg hm ha hs hpl
/-! ### ranges by steps of two -/
def rangeC (lo c : Int) (n : Nat) : List Val := (List.range n).map fun k : Nat => .d (.int (lo + k * c))
theorem si_rangeC {lo c : Int} {n : Nat} {F : Hp} : SI (Itc lo c n) F C0 (rangeC lo c n) where
  go := fun F' H i f S c h => show i < n by simpa [rangeC] using h
  stop := fun F' H i f S c h => show n ≤ i by simpa [rangeC] using h
  yld := fun F' H i v H' f S _ y h => by
    obtain ⟨rfl, rfl⟩ := y
    have h : i < n := by simpa [rangeC] using h
    exact ⟨F', .d (.int (lo + i * c)), .rfl S, by unfold rangeC; rw [List.getElem?_map, List.getElem?_range h]; rfl, Rp.int _⟩
theorem rg2 {j : Int} (h0 : 0 ≤ j) (h1 : j ≤ 100000) : RgC 0 j 2 ((j + 1) / 2).toNat := by
  refine ⟨by decide, by decide, ?_, ?_⟩
  · have e : Builtin.Range.rangeSize 0 j 2 = if 0 < j then (j - 0 - 1) / 2 + 1 else 0 := by unfold Builtin.Range.rangeSize; rw [if_pos (by decide)]
    unfold Builtin.Range.small
    rw [e]
    simp only [Builtin.Range.rangeFitsLong, Bool.and_eq_true, Bool.or_eq_true, decide_eq_true_eq, beq_iff_eq, show ((2 : Int) > 0) by decide, if_true]
    split <;> omega
  · unfold Builtin.Range.rangeSize
    rw [if_pos (by decide)]
    split <;> omega
theorem ei_range3 {t : TA} {j : Int} (h : EA t ρ [.d (.d (.int 0)), .d (.d (.int j)), .d (.d (.int 2))] ρ1) (h0 : 0 ≤ j) (h1 : j ≤ 100000) : EI (iRng3 t) ρ (rangeC 0 2 ((j + 1) / 2).toNat) ρ1 := fun e F σ H R S k => h e F σ H _ S fun F' H' vs f S' r => by
  cases r with
  | cons r t => cases r; cases t with
    | cons r t => cases r; cases t with
      | cons r t => cases r; cases t; exact ⟨0, j, 2, _, rfl, rg2 h0 h1, k F' H' _ f S' si_rangeC⟩
end
end Pw

set_option Elab.async false
set_option linter.all false
set_option maxRecDepth 100000
set_option maxHeartbeats 0
namespace Hd
open PySem PySem.Spec PyProof.Rows L2
def top (i : Nat) : Stmt := PySem.Challenge.pw_cornerfade_k34_maps_printed_and_parsed.main.body.getD i (.Pass ⟨0, 0, 0, 0⟩)
abbrev s_is_integer : Stmt := top 14
abbrev s_is_between : Stmt := top 15
abbrev s_is_sequence : Stmt := top 16
abbrev s_is_row : Stmt := top 17
abbrev s_is_column : Stmt := top 18
abbrev s_is_name : Stmt := top 19
abbrev s_is_place : Stmt := top 20
abbrev s_is_label_size : Stmt := top 21
abbrev s_is_node : Stmt := top 22
abbrev s_is_mark : Stmt := top 23
abbrev s_is_line : Stmt := top 24
abbrev s_have_different_names : Stmt := top 25
abbrev s_is_map : Stmt := top 26
abbrev s_words_of : Stmt := top 31
abbrev s_printed : Stmt := top 32
abbrev s_number_told : Stmt := top 33
abbrev s_row_told : Stmt := top 34
abbrev s_with_words : Stmt := top 35
abbrev s_parse : Stmt := top 36
abbrev s__law_so : Stmt := top 38
abbrev s__law_numbers : Stmt := top 39
abbrev s__law_draw : Stmt := top 40
abbrev s__law_take : Stmt := top 41
abbrev s__law_wide : Stmt := top 42
abbrev s__law_whole : Stmt := top 43
abbrev s__law_listed : Stmt := top 44
abbrev s__law_handed : Stmt := top 45
abbrev s__law_name : Stmt := top 46
abbrev s__law_is_name : Stmt := top 47
abbrev s__law_is_number : Stmt := top 48
abbrev s__law_is_row : Stmt := top 49
abbrev s__law_is_map : Stmt := top 50
abbrev s__law_free_number : Stmt := top 51
abbrev s__law_free_map : Stmt := top 52
abbrev s__law_map_text : Stmt := top 53
abbrev s__law_integer_of : Stmt := top 54
abbrev s__law_read_line : Stmt := top 55
abbrev s__law_parsed : Stmt := top 56
abbrev s_law : Stmt := top 57
def dd (x : Str) (s : Stmt) : He.DefD := ⟨(x, none), x, x, defArgs s, defBody s, defScope s, [], []⟩
def six : List Str := [("BadValue" : Str), ("BadText" : Str)]
def BB (K : PySem.W.Frag) : Bool := Pw.exiB K "BadValue" "at" && (Pw.exiB K "BadText" "at" && (Pw.noListB K && ((six.all fun x => six.all fun y => decide (PySem.W.exmOne K (.ref (He.ga K x)) (.ref (He.ga K y)) = some (decide (x = y)))) && (Pw.tupB K "KINDS" [("node" : Str), ("line" : Str), ("mark" : Str)]))))
abbrev m_BadValue : Stmt := Pw.clsM (top 2) 0
abbrev m_BadText : Stmt := Pw.clsM (top 3) 0
def fn : List He.DefD := [dd "is_integer" s_is_integer, dd "is_between" s_is_between, dd "is_sequence" s_is_sequence, dd "is_row" s_is_row, dd "is_column" s_is_column, dd "is_name" s_is_name, dd "is_place" s_is_place, dd "is_label_size" s_is_label_size, dd "is_node" s_is_node, dd "is_mark" s_is_mark, dd "is_line" s_is_line, dd "have_different_names" s_have_different_names, dd "is_map" s_is_map, dd "words_of" s_words_of, dd "printed" s_printed, dd "number_told" s_number_told, dd "row_told" s_row_told, dd "with_words" s_with_words, dd "parse" s_parse, dd "_law_so" s__law_so, dd "_law_numbers" s__law_numbers, dd "_law_draw" s__law_draw, dd "_law_take" s__law_take, dd "_law_wide" s__law_wide, dd "_law_whole" s__law_whole, dd "_law_listed" s__law_listed, dd "_law_handed" s__law_handed, dd "_law_name" s__law_name, dd "_law_is_name" s__law_is_name, dd "_law_is_number" s__law_is_number, dd "_law_is_row" s__law_is_row, dd "_law_is_map" s__law_is_map, dd "_law_free_number" s__law_free_number, dd "_law_free_map" s__law_free_map, dd "_law_map_text" s__law_map_text, dd "_law_integer_of" s__law_integer_of, dd "_law_read_line" s__law_read_line, dd "_law_parsed" s__law_parsed, dd "law" s_law, ⟨("BadValue", some "__init__"), "__init__", "BadValue.__init__", defArgs m_BadValue, defBody m_BadValue, defScope m_BadValue, [], []⟩, ⟨("BadText", some "__init__"), "__init__", "BadText.__init__", defArgs m_BadText, defBody m_BadText, defScope m_BadText, [], []⟩]
def fa : List He.Fa := [.glo "is_integer", .glo "is_between", .glo "is_sequence", .glo "is_row", .glo "is_column", .glo "is_name", .glo "is_place", .glo "is_label_size", .glo "is_node", .glo "is_mark", .glo "is_line", .glo "have_different_names", .glo "is_map", .glo "words_of", .glo "printed", .glo "number_told", .glo "row_told", .glo "with_words", .glo "parse", .glo "_law_so", .glo "_law_numbers", .glo "_law_draw", .glo "_law_take", .glo "_law_wide", .glo "_law_whole", .glo "_law_listed", .glo "_law_handed", .glo "_law_name", .glo "_law_is_name", .glo "_law_is_number", .glo "_law_is_row", .glo "_law_is_map", .glo "_law_free_number", .glo "_law_free_map", .glo "_law_map_text", .glo "_law_integer_of", .glo "_law_read_line", .glo "_law_parsed", .glo "law", .free "Exception", .free "all", .free "any", .free "bool", .free "enumerate", .free "int", .free "isinstance", .free "len", .free "list", .free "min", .free "range", .free "str", .free "sum", .free "tuple", .free "zip", .str "LETTERS" "abcdefghijklmnopqrstuvwxyz", .int "LONGEST_NAME" 8, .int "FARTHEST" 1000000000, .int "LARGEST_LABEL" 1000000, .int "MOST_NODES" 16, .int "MOST_LINES" 16, .int "MOST_MARKS" 10, .int "MOST_CORNERS_OF_LINE" 12, .int "MOST_CORNERS" 60, .str "DIGITS" "0123456789", .int "MOST_DIGITS" 10, .glo "MapError", .glo "BadValue", .glo "BadText", .meth "BadValue" "__init__", .meth "BadText" "__init__", .glo "KINDS"]
def loose0 : List Str := [("MapError" : Str), ("BadValue" : Str), ("BadText" : Str), ("LETTERS" : Str), ("LONGEST_NAME" : Str), ("FARTHEST" : Str), ("LARGEST_LABEL" : Str), ("MOST_NODES" : Str), ("MOST_LINES" : Str), ("MOST_MARKS" : Str), ("MOST_CORNERS_OF_LINE" : Str), ("MOST_CORNERS" : Str), ("is_integer" : Str), ("is_between" : Str), ("is_sequence" : Str), ("is_row" : Str), ("is_column" : Str), ("is_name" : Str), ("is_place" : Str), ("is_label_size" : Str), ("is_node" : Str), ("is_mark" : Str), ("is_line" : Str), ("have_different_names" : Str), ("is_map" : Str), ("KINDS" : Str), ("DIGITS" : Str), ("MOST_DIGITS" : Str), ("words_of" : Str), ("printed" : Str), ("number_told" : Str), ("row_told" : Str), ("with_words" : Str), ("parse" : Str), ("_law_so" : Str), ("_law_numbers" : Str), ("_law_draw" : Str), ("_law_take" : Str), ("_law_wide" : Str), ("_law_whole" : Str)]
def loose1 : List Str := [("_law_listed" : Str), ("_law_handed" : Str), ("_law_name" : Str), ("_law_is_name" : Str), ("_law_is_number" : Str), ("_law_is_row" : Str), ("_law_is_map" : Str), ("_law_free_number" : Str), ("_law_free_map" : Str), ("_law_map_text" : Str), ("_law_integer_of" : Str), ("_law_read_line" : Str), ("_law_parsed" : Str)]
def loose : List Str := loose0 ++ loose1
abbrev R : PySem.W.OpenRow := PySem.W.OpenLaw.row PySem.Challenge.rw_cornerfade_k34_maps_printed_and_parsed
abbrev hk : PySem.W.Hook := Pw.hookB 4 fa fn BB
def ob (s : PySem.W.SharedT) : He.AlD := Pw.obsBG 4 fa fn BB (HandSHeadRun.getT s)
theorem ob_eq (s : PySem.W.SharedT) : ob s = hk.obs s.abs := Pw.obsBG_eq (HandSHeadRun.getT_eq s)
theorem run (w : World) : HandSHeadRun.RunEq R (PySem.W.view R.prog [57]) hk ob 60000 loose w := by
  intro os
  kernel_rfl
end Hd
set_option Elab.async false
set_option linter.all false
set_option maxRecDepth 100000
/-! Sizes of labels. -/
namespace Pw
open PySem L2
def labZ (v : PyData) (m : Int) : Bool := rowZ v 2 && ((seqOf v).getD []).all fun d => betZ d 0 m
def gLab (a y : PyData) : Prop := y = .bool (labZ a 1000000)
theorem row_with {v : PyData} {ds es : List PyData} {n : Int} (h : seqOf v = some ds) (hl : (es.length : Int) = n) : rowZ (withSeq v es) n = true := by
  cases v <;> first | (cases h; done) | exact decide_eq_true hl
theorem lab_with {v : PyData} {ds es : List PyData} {m : Int} (h : seqOf v = some ds) (hl : es.length = 2) : labZ (withSeq v es) m = es.all fun d => betZ d 0 m := by
  rw [labZ, row_with h (by omega), seq_with h]; rfl
end Pw

set_option Elab.async false
set_option linter.all false
set_option maxRecDepth 100000
set_option maxHeartbeats 4000000
open PySem L2 Pw Hd
local macro_rules | `(tactic| walk_at "side") => `(tactic| first | rfl | assumption | decide | omega | skip)
local macro_rules | `(tactic| walk_at "opd") => `(tactic| first
  | ((with_reducible show OpD (rIx _) _ _ _); first | exact opd_ix0T | exact opd_ix1T | exact opd_ix2T | exact opd_ix3T | exact opd_ix4T | exact opd_ix0L | exact opd_ix1L | exact opd_ix2L | exact opd_ix3L | exact opd_ix4L | skip)
  | ((with_reducible show OpD (rI0 _) _ _ _); first | exact opd_sub | exact opd_lt | exact opd_le | exact opd_gt | exact opd_ge | skip)
  | ((with_reducible show OpD (rI CMul _) _ _ _); (refine' opd_mul ?_ <;> walk_at "side"))
  | ((with_reducible show OpD (rI CDiv _) _ _ _); (refine' opd_fdiv ?_ <;> walk_at "side"))
  | ((with_reducible show OpD (rI _ _) _ _ _); first | (refine' opd_mod ?_ <;> walk_at "side") | (refine' opd_I ?_ <;> walk_at "side"))
  | ((with_reducible show OpD (rEqU _) _ _ _); first | exact opd_eq_int | exact opd_eq_str | exact opd_eq_bl | skip)
  | ((with_reducible show OpD (rNeU _) _ _ _); first | exact opd_ne_int | exact opd_ne_str | skip)
  | ((with_reducible show OpD (rPlus _) _ _ _); first | exact opd_add | (refine' opd_cat_tup ?_ <;> walk_at "side") | (refine' opd_cat_str ?_ <;> walk_at "side") | (refine' opd_cat_lst ?_ <;> walk_at "side"))
  | skip)
local macro_rules | `(tactic| walk_at "evcb") => `(tactic| first
  | ((with_reducible refine' ev_cb2 ?_ ?_ cd_max2) <;> walk_at "ev")
  | ((with_reducible refine' ev_cb2 ?_ ?_ cd_min2) <;> walk_at "ev")
  | ((with_reducible refine' ev_isi ?_ ?_) <;> walk_at "ev")
  | ((with_reducible refine' ev_cb1 ?_ cd_int) <;> walk_at "ev")
  | ((with_reducible refine' ev_cb1 ?_ cd_abs) <;> walk_at "ev")
  | skip)
local macro_rules | `(tactic| walk_at "ev") => `(tactic| first
  | with_reducible exact ev_int | with_reducible exact ev_str | with_reducible exact ev_bl | with_reducible exact ev_non
  | ((with_reducible refine' ev_var ?_); rfl)
  | with_reducible exact et_yes
  | with_reducible exact ea_nil
  | with_reducible exact eo_none
  | ((with_reducible refine' eo_some ?_) <;> walk_at "ev")
  | ((with_reducible refine' ev_op ?_ ?_ ?_) <;> walk_at "ev")
  | ((with_reducible refine' ev_un ?_ ?_) <;> walk_at "ev")
  | ((with_reducible refine' ev_and0 ?_ (fun _ => ?_)) <;> walk_at "ev")
  | ((with_reducible refine' ev_or0 ?_ (fun _ => ?_)) <;> walk_at "ev")
  | ((with_reducible refine' ev_not ?_) <;> walk_at "ev")
  | ((with_reducible refine' et_test ?_) <;> walk_at "ev")
  | ((with_reducible refine' et_b ?_) <;> walk_at "ev")
  | ((with_reducible refine' et_not ?_) <;> walk_at "ev")
  | ((with_reducible refine' et_and0 ?_ (fun _ => ?_)) <;> walk_at "ev")
  | ((with_reducible refine' et_or0 ?_ (fun _ => ?_)) <;> walk_at "ev")
  | ((with_reducible refine' ev_isN ?_) <;> walk_at "ev")
  | ((with_reducible refine' ev_notN ?_) <;> walk_at "ev")
  | ((with_reducible refine' ev_c1 ?_ ?_) <;> walk_at "ev")
  | ((with_reducible refine' ev_c2 ?_ ?_ ?_) <;> walk_at "ev")
  | ((with_reducible refine' ev_c3 ?_ ?_ ?_ ?_) <;> walk_at "ev")
  | ((with_reducible refine' ev_c4 ?_ ?_ ?_ ?_ ?_) <;> walk_at "ev")
  | ((with_reducible show EV (tCB _ _) _ _ _); walk_at "evcb")
  | ((with_reducible show EV (tTup _) _ _ _); first
      | (refine' ev_tup (ds := [_, _]) (ea_cons ?_ (ea_cons ?_ ea_nil)) (show 2 ≤ sizeLine by decide) <;> walk_at "ev")
      | (refine' ev_tup (ds := [_, _, _]) (ea_cons ?_ (ea_cons ?_ (ea_cons ?_ ea_nil))) (show 3 ≤ sizeLine by decide) <;> walk_at "ev")
      | (refine' ev_tup (ds := [_, _, _, _]) (ea_cons ?_ (ea_cons ?_ (ea_cons ?_ (ea_cons ?_ ea_nil)))) (show 4 ≤ sizeLine by decide) <;> walk_at "ev")
      | (refine' ev_tup (ds := [_]) (ea_cons ?_ ea_nil) (show 1 ≤ sizeLine by decide) <;> walk_at "ev"))
  | ((with_reducible show OpD _ _ _ _); walk_at "opd")
  | ((with_reducible show UnD _ _ _); exact und_neg)
  | ((with_reducible show EV _ _ _ _); skip)
  | ((with_reducible show ET _ _ _ _); skip)
  | assumption
  | skip)
namespace Pv
structure Bt (mg : Str → Option Value) : Prop where
  b_Exception : mg "Exception" = none
  b_all : mg "all" = none
  b_any : mg "any" = none
  b_bool : mg "bool" = none
  b_enumerate : mg "enumerate" = none
  b_int : mg "int" = none
  b_isinstance : mg "isinstance" = none
  b_len : mg "len" = none
  b_list : mg "list" = none
  b_min : mg "min" = none
  b_range : mg "range" = none
  b_str : mg "str" = none
  b_sum : mg "sum" = none
  b_tuple : mg "tuple" = none
  b_zip : mg "zip" = none
  g_LETTERS : ∃ t, mg "LETTERS" = some (.str "abcdefghijklmnopqrstuvwxyz" t)
  g_LONGEST_NAME : ∃ t, mg "LONGEST_NAME" = some (.int 8 t)
  g_FARTHEST : ∃ t, mg "FARTHEST" = some (.int 1000000000 t)
  g_LARGEST_LABEL : ∃ t, mg "LARGEST_LABEL" = some (.int 1000000 t)
  g_MOST_NODES : ∃ t, mg "MOST_NODES" = some (.int 16 t)
  g_MOST_LINES : ∃ t, mg "MOST_LINES" = some (.int 16 t)
  g_MOST_MARKS : ∃ t, mg "MOST_MARKS" = some (.int 10 t)
  g_MOST_CORNERS_OF_LINE : ∃ t, mg "MOST_CORNERS_OF_LINE" = some (.int 12 t)
  g_MOST_CORNERS : ∃ t, mg "MOST_CORNERS" = some (.int 60 t)
  g_DIGITS : ∃ t, mg "DIGITS" = some (.str "0123456789" t)
  g_MOST_DIGITS : ∃ t, mg "MOST_DIGITS" = some (.int 10 t)

section
variable {P : Program} {w : World} {K : PySem.W.Frag} {mg : Str → Option Value} {base : Heap}
theorem sc_is_integer : FnScope [("value" : Str)] [("value" : Str)] (defScope s_is_integer) := ⟨rfl, rfl, rfl, by decide +kernel, rfl, by decide +kernel, by decide +kernel⟩
theorem c_is_integer  (D : Df K mg "is_integer" s_is_integer) (T : Bt mg)   : Cal P w K mg base 1 "is_integer" ["value"] (sp1 gInt) := by
  have sc := sc_is_integer
  refine cal_mk (k := 0) D sc (fun vs H Q E s => len1 s) (fun _ _ _ _ _ _ us hl => match us, hl with | [_], _ => rfl) (fun f cdv A outer st H vs Q E hr h => ⟨_, (pss_one (ps_ret (pe_and (pe_callB (call_isiK' K) (by rfl) T.b_isinstance (by decide +kernel) (pa_cons (pv 0) (pa_cons (pe_bltn (v := .ty "int") (by rfl) T.b_int (by decide +kernel) rfl) pa_nil))) (pe_one (pe_not (pe_callB (call_isiK' K) (by rfl) T.b_isinstance (by decide +kernel) (pa_cons (pv 0) (pa_cons (pe_bltn (v := .ty "bool") (by rfl) T.b_bool (by decide +kernel) rfl) pa_nil)))))))), wp1 h ?_⟩)
  rintro a _ rfl
  refine' wp_ret (ev_and0 (ev_isi (ev_var rfl) (kit_int a)) (fun _ => ev_not (ev_isi (ev_var rfl) (kit_bl a)))) ?_
  show _ = _
  cases a <;> rfl
theorem sc_is_between : FnScope [("value" : Str), ("low" : Str), ("high" : Str)] [("value" : Str), ("low" : Str), ("high" : Str)] (defScope s_is_between) := ⟨rfl, rfl, rfl, by decide +kernel, rfl, by decide +kernel, by decide +kernel⟩
theorem c_is_between  (D : Df K mg "is_between" s_is_between) (T : Bt mg)  (c_is_integer : Cal P w K mg base 1 "is_integer" ["value"] (sp1 gInt)) : Cal P w K mg base 2 "is_between" ["value", "low", "high"] (sp3 gBet) := by
  have sc := sc_is_between
  refine cal_mk (k := 1) D sc (fun vs H Q E s => len3 s) (fun _ _ _ _ _ _ us hl => match us, hl with | [_, _, _], _ => rfl) (fun f cdv A outer st H vs Q E hr h => ⟨_, (pss_one (ps_ret (pe_and (pe_cal c_is_integer hr (by decide) (by rfl) (pa_cons (pv 0) pa_nil)) (pe_one (pe_chain op_le op_le (pv 1) (pv 0) (pv 2)))))), wp3 h ?_⟩)
  rintro a _ _ _ ⟨lo, hi, rfl, rfl, rfl⟩
  by_cases h : isI a = true
  · cases a <;> first | (cases h; done) | skip
    rename_i i
    refine' wp_ret (ev_and0 (a := true) (b := decide (lo ≤ i) && decide (i ≤ hi)) (ev_c1 (ev_var rfl) rfl) (fun _ => ev_chain (ev_var rfl) (ev_var rfl) (fun _ => ev_var rfl) opd_le (fun _ => opd_le))) ?_
    rfl
  · have h : isI a = false := by simpa using h
    refine' wp_ret (ev_and0 (a := false) (b := false) (ev_c1 (ev_var rfl) (by rw [← h]; rfl)) (fun z => by cases z)) ?_
    show _ = _
    cases a <;> first | (cases h; done) | rfl
theorem sc_is_sequence : FnScope [("value" : Str)] [("value" : Str)] (defScope s_is_sequence) := ⟨rfl, rfl, rfl, by decide +kernel, rfl, by decide +kernel, by decide +kernel⟩
theorem c_is_sequence  (D : Df K mg "is_sequence" s_is_sequence) (T : Bt mg)   : Cal P w K mg base 1 "is_sequence" ["value"] (sp1 gSeq) := by
  have sc := sc_is_sequence
  refine cal_mk (k := 0) D sc (fun vs H Q E s => len1 s) (fun _ _ _ _ _ _ us hl => match us, hl with | [_], _ => rfl) (fun f cdv A outer st H vs Q E hr h => ⟨_, (pss_one (ps_ret (pe_callB (call_isiTK K) (by rfl) T.b_isinstance (by decide +kernel) (pa_cons (pv 0) (pa_cons (pe_tup (pa_cons (pe_bltn (v := .ty "list") (by rfl) T.b_list (by decide +kernel) rfl) (pa_cons (pe_bltn (v := .ty "tuple") (by rfl) T.b_tuple (by decide +kernel) rfl) pa_nil))) pa_nil))))), wp1 h ?_⟩)
  rintro a _ rfl
  refine' wp_ret (ev_isiT2 (ev_var rfl) (kit_lst a) (kit_tup a)) ?_
  rfl
theorem sc_is_row : FnScope [("value" : Str), ("many" : Str)] [("value" : Str), ("many" : Str)] (defScope s_is_row) := ⟨rfl, rfl, rfl, by decide +kernel, rfl, by decide +kernel, by decide +kernel⟩
theorem c_is_row  (D : Df K mg "is_row" s_is_row) (T : Bt mg)  (c_is_sequence : Cal P w K mg base 1 "is_sequence" ["value"] (sp1 gSeq)) : Cal P w K mg base 2 "is_row" ["value", "many"] (sp2 gRow) := by
  have sc := sc_is_row
  refine cal_mk (k := 1) D sc (fun vs H Q E s => len2 s) (fun _ _ _ _ _ _ us hl => match us, hl with | [_, _], _ => rfl) (fun f cdv A outer st H vs Q E hr h => ⟨_, (pss_one (ps_ret (pe_and (pe_cal c_is_sequence hr (by decide) (by rfl) (pa_cons (pv 0) pa_nil)) (pe_one (pe_cmpR (op_eqK K hr.units) (pe_callB (call_lenK K) (by rfl) T.b_len (by decide +kernel) (pa_cons (pv 0) pa_nil)) (pv 1) (nomark _)))))), wp2 h ?_⟩)
  rintro a _ _ ⟨n, rfl, rfl⟩
  have no : ∀ a, isSeqD a = false → rowZ a n = false := fun a h => by cases a <;> first | (cases h; done) | rfl
  by_cases h : isSeqD a = true
  · cases a <;> first | (cases h; done) | skip
    · refine' wp_ret (ev_and0 (a := true) (ev_c1 (ev_var rfl) rfl) (fun _ => ev_op (ev_cb1 (ev_var rfl) cd_lenL) (ev_var rfl) opd_eq_int)) ?_
      rfl
    · refine' wp_ret (ev_and0 (a := true) (ev_c1 (ev_var rfl) rfl) (fun _ => ev_op (ev_cb1 (ev_var rfl) cd_lenT) (ev_var rfl) opd_eq_int)) ?_
      rfl
  · have h : isSeqD a = false := by simpa using h
    refine' wp_ret (ev_and0 (a := false) (b := false) (ev_c1 (ev_var rfl) (by rw [← h]; rfl)) (fun z => by cases z)) ?_
    show _ = _
    rw [no a h]
    rfl
theorem sc_is_column : FnScope [("value" : Str), ("most" : Str)] [("value" : Str), ("most" : Str)] (defScope s_is_column) := ⟨rfl, rfl, rfl, by decide +kernel, rfl, by decide +kernel, by decide +kernel⟩
theorem c_is_column  (D : Df K mg "is_column" s_is_column) (T : Bt mg)  (c_is_sequence : Cal P w K mg base 1 "is_sequence" ["value"] (sp1 gSeq)) : Cal P w K mg base 2 "is_column" ["value", "most"] (sp2 gCol) := by
  have sc := sc_is_column
  refine cal_mk (k := 1) D sc (fun vs H Q E s => len2 s) (fun _ _ _ _ _ _ us hl => match us, hl with | [_, _], _ => rfl) (fun f cdv A outer st H vs Q E hr h => ⟨_, (pss_one (ps_ret (pe_and (pe_cal c_is_sequence hr (by decide) (by rfl) (pa_cons (pv 0) pa_nil)) (pe_one (pe_cmpR op_le (pe_callB (call_lenK K) (by rfl) T.b_len (by decide +kernel) (pa_cons (pv 0) pa_nil)) (pv 1) (nomark _)))))), wp2 h ?_⟩)
  rintro a _ _ ⟨n, rfl, rfl⟩
  have no : ∀ a, isSeqD a = false → colZ a n = false := fun a h => by cases a <;> first | (cases h; done) | rfl
  by_cases h : isSeqD a = true
  · cases a <;> first | (cases h; done) | skip
    · refine' wp_ret (ev_and0 (a := true) (ev_c1 (ev_var rfl) rfl) (fun _ => ev_op (ev_cb1 (ev_var rfl) cd_lenL) (ev_var rfl) opd_le)) ?_
      rfl
    · refine' wp_ret (ev_and0 (a := true) (ev_c1 (ev_var rfl) rfl) (fun _ => ev_op (ev_cb1 (ev_var rfl) cd_lenT) (ev_var rfl) opd_le)) ?_
      rfl
  · have h : isSeqD a = false := by simpa using h
    refine' wp_ret (ev_and0 (a := false) (b := false) (ev_c1 (ev_var rfl) (by rw [← h]; rfl)) (fun z => by cases z)) ?_
    show _ = _
    rw [no a h]
    rfl
theorem sc_is_place : FnScope [("value" : Str), ("farthest" : Str), ("part" : Str)] [("value" : Str), ("farthest" : Str)] (defScope s_is_place) := ⟨rfl, rfl, rfl, by decide +kernel, rfl, by decide +kernel, by decide +kernel⟩
theorem c_is_place  (D : Df K mg "is_place" s_is_place) (T : Bt mg)  (c_is_between : Cal P w K mg base 2 "is_between" ["value", "low", "high"] (sp3 gBet)) (c_is_row : Cal P w K mg base 2 "is_row" ["value", "many"] (sp2 gRow)) : Cal P w K mg base 3 "is_place" ["value", "farthest"] (sp2 gPlace) := by
  have sc := sc_is_place
  refine cal_mk (k := 2) D sc (fun vs H Q E s => len2 s) (fun _ _ _ _ _ _ us hl => match us, hl with | [_, _], _ => rfl) (fun f cdv A outer st H vs Q E hr h => ⟨_, (pss_one (ps_ret (pe_and (pe_cal c_is_row hr (by decide) (by rfl) (pa_cons (pv 0) (pa_cons pe_int pa_nil))) (pe_one (pe_callB (cr_allK K rfl) (by rfl) T.b_all (by decide +kernel) (pa_cons (pe_lc (own := [("part", 2)]) rfl sc.nd (pi_LT K (pv 0)) (blkOk_by (by rfl)) (fun _ _ _ _ _ => (pg_name (i := 2) sc.nd rfl (Or.inl rfl))) (fun _ _ _ _ _ => pts_nil) (fun _ _ _ _ _ => (pe_cal c_is_between hr (by decide) (by rfl) (pa_cons (pv 2) (pa_cons (pe_un un_neg (pv 1)) (pa_cons (pv 1) pa_nil)))))) pa_nil)))))), wp2 h ?_⟩)
  rintro a _ _ ⟨n, rfl, rfl⟩
  by_cases h : rowZ a 2 = true
  · cases a <;> first | (cases h; done) | skip
    · rename_i ds
      have hl : (ds.length : Int) = 2 := of_decide_eq_true h
      refine' wp_ret (ev_and0 (a := true) (b := ds.all fun d => betZ d (-n) n) (ev_c2 (ev_var rfl) ev_int ⟨2, rfl, by rw [h]⟩) (fun _ => ev_all (eo_lc1 (vs := [2]) ds (fun d => .d d) (fun d => .bool (betZ d (-n) n)) (fun d => [.d d]) (EI.c (ei_or1 (ei_list (ev_var rfl)))) (is := [2]) (fun j h => h) ?hv1 (size4000 (by omega)) (fun z _ => ⟨gt_name, ev_c3 (ev_var rfl) (ev_un (ev_var rfl) und_neg) (ev_var rfl) ⟨_, _, rfl, rfl, rfl⟩⟩)))) ?_
      case hv1 => exact no_own2
      show _ = _
      simp only [placeZ, h, seqOf]
      rfl
    · rename_i ds
      have hl : (ds.length : Int) = 2 := of_decide_eq_true h
      refine' wp_ret (ev_and0 (a := true) (b := ds.all fun d => betZ d (-n) n) (ev_c2 (ev_var rfl) ev_int ⟨2, rfl, by rw [h]⟩) (fun _ => ev_all (eo_lc1 (vs := [2]) ds (fun d => .d d) (fun d => .bool (betZ d (-n) n)) (fun d => [.d d]) (EI.c (ei_or2 (ei_tup (ev_var rfl)))) (is := [2]) (fun j h => h) ?hv2 (size4000 (by omega)) (fun z _ => ⟨gt_name, ev_c3 (ev_var rfl) (ev_un (ev_var rfl) und_neg) (ev_var rfl) ⟨_, _, rfl, rfl, rfl⟩⟩)))) ?_
      case hv2 => exact no_own2
      show _ = _
      simp only [placeZ, h, seqOf]
      rfl
  · have h : rowZ a 2 = false := by simpa using h
    refine' wp_ret (ev_and0 (a := false) (b := false) (ev_c2 (ev_var rfl) ev_int ⟨2, rfl, by rw [h]⟩) (fun z => by cases z)) ?_
    show _ = _
    simp only [placeZ, h]
    rfl
theorem sc_is_name : FnScope [("value" : Str), ("sign" : Str)] [("value" : Str)] (defScope s_is_name) := ⟨rfl, rfl, rfl, by decide +kernel, rfl, by decide +kernel, by decide +kernel⟩
theorem c_is_name  (D : Df K mg "is_name" s_is_name) (T : Bt mg)   : Cal P w K mg base 1 "is_name" ["value"] (sp1 gNm) := by
  have sc := sc_is_name
  refine cal_mk (k := 0) D sc (fun vs H Q E s => len1 s) (fun _ _ _ _ _ _ us hl => match us, hl with | [_], _ => rfl) (fun f cdv A outer st H vs Q E hr h => ⟨_, (pss_cons (ps_if ((pw_or (pt_not (pt_val (pe_callB (call_isiK' K) (by rfl) T.b_isinstance (by decide +kernel) (pa_cons (pv 0) (pa_cons (pe_bltn (v := .ty "str") (by rfl) T.b_str (by decide +kernel) rfl) pa_nil))))) (pw_or1 (pt_not (pt_chain op_le op_le pe_int (pe_callB (call_lenK K) (by rfl) T.b_len (by decide +kernel) (pa_cons (pv 0) pa_nil)) (pe_glob (v := .int 8) (by rfl) T.g_LONGEST_NAME.choose_spec ⟨_, rfl⟩)))))).pt (pss_one (ps_ret pe_bl)) pss_nil)
    (pss_one (ps_ret (pe_callB (cr_allK K rfl) (by rfl) T.b_all (by decide +kernel) (pa_cons (pe_lc (own := [("sign", 1)]) rfl sc.nd (pi_LTS K (pv 0)) (blkOk_by (by rfl)) (fun _ _ _ _ _ => (pg_name (i := 1) sc.nd rfl (Or.inl rfl))) (fun _ _ _ _ _ => pts_nil) (fun _ _ _ _ _ => (pe_cmpR (op_inK K (hu65 hr)) (pv 1) (pe_glob (v := .str "abcdefghijklmnopqrstuvwxyz") (by rfl) T.g_LETTERS.choose_spec ⟨_, rfl⟩) (by rfl)))) pa_nil))))), wp1 h ?_⟩)
  rintro a _ ⟨hs, rfl⟩
  refine wp_seq ?_
  by_cases h : isStrD a = true
  · cases a <;> first | (cases h; done) | skip
    rename_i z
    have hs : z.length ≤ sizeLine := hs
    refine' wp_if (et_or0 (a := false) (b := !(decide ((1 : Int) ≤ z.length) && decide ((z.length : Int) ≤ 8))) (et_not (b := true) (et_test (ev_isi (ev_var rfl) (kit_str _)))) (fun _ => et_not (et_test (ev_chain ev_int (ev_cb1 (ev_var rfl) (cd_lenS hs)) (fun _ => ev_int) opd_le (fun _ => opd_le))))) ?ht ?hf
    case ht =>
      intro q
      have q : (decide ((1 : Int) ≤ z.length) && decide ((z.length : Int) ≤ 8)) = false := by
        cases r : (decide ((1 : Int) ≤ z.length) && decide ((z.length : Int) ≤ 8)) with
        | false => rfl
        | true => rw [r] at q; exact absurd q (by decide)
      refine' wp_ret ev_bl ?_
      show _ = _
      simp only [nameZ, q, Bool.false_and]
    case hf =>
      intro q
      have q : (decide ((1 : Int) ≤ z.length) && decide ((z.length : Int) ≤ 8)) = true := by
        cases r : (decide ((1 : Int) ≤ z.length) && decide ((z.length : Int) ≤ 8)) with
        | true => rfl
        | false => rw [r] at q; exact absurd q (by decide)
      have q2 : (z.length : Int) ≤ 8 := of_decide_eq_true (Bool.and_eq_true_iff.mp q).2
      refine wp_next ?_
      show WP _ _ _
      refine' wp_ret (ev_all (eo_lc1 (vs := [1]) z.cps.toList (fun c => .d (.str ⟨#[c]⟩)) (fun c => .bool (decide (c ∈ letters))) (fun c => [.d (.str ⟨#[c]⟩)]) (EI.c (ei_or2 (ei_str (ev_var rfl)))) (is := [1]) (fun j h => h) ?hv (size4000 ?hl) (fun c _ => ⟨gt_name, ev_op (ev_var rfl) ev_str opd_sign⟩))) ?_
      case hv => exact no_own1
      case hl =>
        have e : z.cps.toList.length = z.length := by rw [Array.length_toList]; rfl
        omega
      show _ = _
      simp only [nameZ, q, Bool.true_and]
  · have h : isStrD a = false := by simpa using h
    refine' wp_if (et_or0 (a := true) (b := true) ?e1 (fun z => by cases z)) (fun _ => ?_) (fun z => by cases z)
    case e1 =>
      have := et_not (et_test (ev_isi (K := K) (ρ := [.val (.d a), .non]) (ev_var (i := 0) rfl) (kit_str a)))
      rw [h] at this
      exact this
    refine' wp_ret ev_bl ?_
    show _ = _
    cases a <;> first | (cases h; done) | rfl
theorem sc_is_label_size : FnScope [("value" : Str), ("part" : Str)] [("value" : Str)] (defScope s_is_label_size) := ⟨rfl, rfl, rfl, by decide +kernel, rfl, by decide +kernel, by decide +kernel⟩
theorem c_is_label_size  (D : Df K mg "is_label_size" s_is_label_size) (T : Bt mg)  (c_is_between : Cal P w K mg base 2 "is_between" ["value", "low", "high"] (sp3 gBet)) (c_is_row : Cal P w K mg base 2 "is_row" ["value", "many"] (sp2 gRow)) : Cal P w K mg base 3 "is_label_size" ["value"] (sp1 gLab) := by
  have sc := sc_is_label_size
  refine cal_mk (k := 2) D sc (fun vs H Q E s => len1 s) (fun _ _ _ _ _ _ us hl => match us, hl with | [_], _ => rfl) (fun f cdv A outer st H vs Q E hr h => ⟨_, (pss_one (ps_ret (pe_and (pe_cal c_is_row hr (by decide) (by rfl) (pa_cons (pv 0) (pa_cons pe_int pa_nil))) (pe_one (pe_callB (cr_allK K rfl) (by rfl) T.b_all (by decide +kernel) (pa_cons (pe_lc (own := [("part", 1)]) rfl sc.nd (pi_LT K (pv 0)) (blkOk_by (by rfl)) (fun _ _ _ _ _ => (pg_name (i := 1) sc.nd rfl (Or.inl rfl))) (fun _ _ _ _ _ => pts_nil) (fun _ _ _ _ _ => (pe_cal c_is_between hr (by decide) (by rfl) (pa_cons (pv 1) (pa_cons pe_int (pa_cons (pe_glob (v := .int 1000000) (by rfl) T.g_LARGEST_LABEL.choose_spec ⟨_, rfl⟩) pa_nil)))))) pa_nil)))))), wp1 h ?_⟩)
  rintro a _ rfl
  by_cases h : rowZ a 2 = true
  · cases a <;> first | (cases h; done) | skip
    · rename_i ds
      have hl : (ds.length : Int) = 2 := of_decide_eq_true h
      refine' wp_ret (ev_and0 (a := true) (b := ds.all fun d => betZ d 0 1000000) (ev_c2 (ev_var rfl) ev_int ⟨2, rfl, by rw [h]⟩) (fun _ => ev_all (eo_lc1 (vs := [1]) ds (fun d => .d d) (fun d => .bool (betZ d 0 1000000)) (fun d => [.d d]) (EI.c (ei_or1 (ei_list (ev_var rfl)))) (is := [1]) (fun j h => h) ?hv1 (size4000 (by omega)) (fun z _ => ⟨gt_name, ev_c3 (ev_var rfl) ev_int ev_int ⟨_, _, rfl, rfl, rfl⟩⟩)))) ?_
      case hv1 => exact no_own1
      show _ = _
      simp only [labZ, h, seqOf]
      rfl
    · rename_i ds
      have hl : (ds.length : Int) = 2 := of_decide_eq_true h
      refine' wp_ret (ev_and0 (a := true) (b := ds.all fun d => betZ d 0 1000000) (ev_c2 (ev_var rfl) ev_int ⟨2, rfl, by rw [h]⟩) (fun _ => ev_all (eo_lc1 (vs := [1]) ds (fun d => .d d) (fun d => .bool (betZ d 0 1000000)) (fun d => [.d d]) (EI.c (ei_or2 (ei_tup (ev_var rfl)))) (is := [1]) (fun j h => h) ?hv2 (size4000 (by omega)) (fun z _ => ⟨gt_name, ev_c3 (ev_var rfl) ev_int ev_int ⟨_, _, rfl, rfl, rfl⟩⟩)))) ?_
      case hv2 => exact no_own1
      show _ = _
      simp only [labZ, h, seqOf]
      rfl
  · have h : rowZ a 2 = false := by simpa using h
    refine' wp_ret (ev_and0 (a := false) (b := false) (ev_c2 (ev_var rfl) ev_int ⟨2, rfl, by rw [h]⟩) (fun z => by cases z)) ?_
    show _ = _
    simp only [labZ, h]
    rfl
theorem sc_is_node : FnScope [("value" : Str)] [("value" : Str)] (defScope s_is_node) := ⟨rfl, rfl, rfl, by decide +kernel, rfl, by decide +kernel, by decide +kernel⟩
theorem c_is_node  (D : Df K mg "is_node" s_is_node) (T : Bt mg)  (c_is_place : Cal P w K mg base 3 "is_place" ["value", "farthest"] (sp2 gPlace)) (c_is_name : Cal P w K mg base 1 "is_name" ["value"] (sp1 gNm)) (c_is_row : Cal P w K mg base 2 "is_row" ["value", "many"] (sp2 gRow)) : Cal P w K mg base 4 "is_node" ["value"] (sp1 gNode) := by
  have sc := sc_is_node
  refine cal_mk (k := 3) D sc (fun vs H Q E s => len1 s) (fun _ _ _ _ _ _ us hl => match us, hl with | [_], _ => rfl) (fun f cdv A outer st H vs Q E hr h => ⟨_, (pss_one (ps_ret (pe_and (pe_cal c_is_row hr (by decide) (by rfl) (pa_cons (pv 0) (pa_cons pe_int pa_nil))) (pe_and (pe_cal c_is_name hr (by decide) (by rfl) (pa_cons (pe_ix (ix_K K) (pv 0) pe_int (fun _ _ => rfl)) pa_nil)) (pe_one (pe_cal c_is_place hr (by decide) (by rfl) (pa_cons (pe_slice (sl_K K) (pv 0) (po_some pe_int) po_none) (pa_cons (pe_glob (v := .int 1000000000) (by rfl) T.g_FARTHEST.choose_spec ⟨_, rfl⟩) pa_nil)))))))), wp1 h ?_⟩)
  rintro a _ ⟨hs, rfl⟩
  by_cases h : rowZ a 3 = true
  · obtain ⟨ds, hd, hl⟩ := row_seq h
    have e0 : ds[0]? = some (at0 a) := by
      have : 0 < ds.length := by omega
      simp [at0, hd, this]
    have ec : cutD ds (some 1) none = ds.drop 1 := cut_from hl
    by_cases h2 : nameZ (at0 a) = true
    · refine' wp_ret (ev_and0 (a := true) (b := placeZ (withSeq a (ds.drop 1)) 1000000000) (ev_c2 (ev_var rfl) ev_int ⟨3, rfl, by rw [h]⟩) (fun _ => ev_and0 (a := true) (ev_c1 (ev_op (ev_var rfl) ev_int (opd_ixQ hd (Pw.atI_nat (i := 0) e0))) ⟨hs, by rw [h2]⟩) (fun _ => ev_c2 (ev_slQ (ev_var rfl) hd (eo_some ev_int) eo_none) ev_int ⟨1000000000, rfl, by rw [ec]; rfl⟩))) ?_
      show _ = _
      simp only [nodeZ, h, h2, hd]
      rfl
    · have h2 : nameZ (at0 a) = false := by simpa using h2
      refine' wp_ret (ev_and0 (a := true) (b := false) (ev_c2 (ev_var rfl) ev_int ⟨3, rfl, by rw [h]⟩) (fun _ => ev_and0 (a := false) (b := false) (ev_c1 (ev_op (ev_var rfl) ev_int (opd_ixQ hd (Pw.atI_nat (i := 0) e0))) ⟨hs, by rw [h2]⟩) (fun z => by cases z))) ?_
      show _ = _
      simp only [nodeZ, h, h2]
      rfl
  · have h : rowZ a 3 = false := by simpa using h
    refine' wp_ret (ev_and0 (a := false) (b := false) (ev_c2 (ev_var rfl) ev_int ⟨3, rfl, by rw [h]⟩) (fun z => by cases z)) ?_
    show _ = _
    simp only [nodeZ, h]
    rfl
theorem sc_is_mark : FnScope [("value" : Str)] [("value" : Str)] (defScope s_is_mark) := ⟨rfl, rfl, rfl, by decide +kernel, rfl, by decide +kernel, by decide +kernel⟩
theorem c_is_mark  (D : Df K mg "is_mark" s_is_mark) (T : Bt mg)  (c_is_label_size : Cal P w K mg base 3 "is_label_size" ["value"] (sp1 gLab)) (c_is_place : Cal P w K mg base 3 "is_place" ["value", "farthest"] (sp2 gPlace)) (c_is_name : Cal P w K mg base 1 "is_name" ["value"] (sp1 gNm)) (c_is_row : Cal P w K mg base 2 "is_row" ["value", "many"] (sp2 gRow)) : Cal P w K mg base 4 "is_mark" ["value"] (sp1 gMark) := by
  have sc := sc_is_mark
  refine cal_mk (k := 3) D sc (fun vs H Q E s => len1 s) (fun _ _ _ _ _ _ us hl => match us, hl with | [_], _ => rfl) (fun f cdv A outer st H vs Q E hr h => ⟨_, (pss_cons (ps_if ((pw_or (pt_not (pt_val (pe_cal c_is_row hr (by decide) (by rfl) (pa_cons (pv 0) (pa_cons pe_int pa_nil))))) (pw_or1 (pt_not (pt_val (pe_cal c_is_name hr (by decide) (by rfl) (pa_cons (pe_ix (ix_K K) (pv 0) pe_int (fun _ _ => rfl)) pa_nil))))))).pt (pss_one (ps_ret pe_bl)) pss_nil)
    (pss_one (ps_ret (pe_and (pe_cal c_is_place hr (by decide) (by rfl) (pa_cons (pe_slice (sl_K K) (pv 0) (po_some pe_int) (po_some pe_int)) (pa_cons (pe_glob (v := .int 1000000000) (by rfl) T.g_FARTHEST.choose_spec ⟨_, rfl⟩) pa_nil))) (pe_one (pe_cal c_is_label_size hr (by decide) (by rfl) (pa_cons (pe_slice (sl_K K) (pv 0) (po_some pe_int) po_none) pa_nil))))))), wp1 h ?_⟩)
  rintro a _ ⟨hs, rfl⟩
  refine wp_seq ?_
  by_cases h : rowZ a 5 = true
  · obtain ⟨ds, hd, hl⟩ := row_seq h
    have e0 : ds[0]? = some (at0 a) := by
      have : 0 < ds.length := by omega
      simp [at0, hd, this]
    have ep : partsD a = ds := by rw [partsD, hd]; rfl
    refine' wp_if (et_or0 (a := false) (b := !nameZ (at0 a)) (et_not (b := true) (et_test (ev_c2 (ev_var rfl) ev_int ⟨5, rfl, by rw [h]⟩))) (fun _ => et_not (et_test (ev_c1 (ev_op (ev_var rfl) ev_int (opd_ixQ hd (Pw.atI_nat (i := 0) e0))) ⟨hs, rfl⟩)))) ?ht ?hf
    case ht =>
      intro q
      have q : nameZ (at0 a) = false := by simpa using q
      refine' wp_ret ev_bl ?_
      show _ = _
      simp only [markZ, h, q]
      rfl
    case hf =>
      intro q
      have q : nameZ (at0 a) = true := by simpa using q
      refine wp_next ?_
      show WP _ _ _
      refine' wp_ret (ev_and0 (a := placeZ (withSeq a ((ds.drop 1).take 2)) 1000000000) (b := (ds.drop 3).all fun d => betZ d 0 1000000) (ev_c2 (ev_slQ (ev_var rfl) hd (eo_some ev_int) (eo_some ev_int)) ev_int ⟨1000000000, rfl, by rw [cut_13 hl]⟩) (fun _ => ev_c1 (ev_slQ (ev_var rfl) hd (eo_some ev_int) eo_none) ?lab)) ?_
      case lab =>
        show _ = _
        rw [cut_3 hl, lab_with hd (by rw [List.length_drop]; omega)]
      show _ = _
      simp only [markZ, h, q, ep]
      rfl
  · have h : rowZ a 5 = false := by simpa using h
    refine' wp_if (et_or0 (a := true) (b := true) (et_not (b := false) (et_test (ev_c2 (ev_var rfl) ev_int ⟨5, rfl, by rw [h]⟩))) (fun z => by cases z)) (fun _ => ?_) (fun z => by cases z)
    refine' wp_ret ev_bl ?_
    show _ = _
    simp only [markZ, h]
    rfl
theorem sc_is_line : FnScope [("value" : Str), ("node_names" : Str), ("_" : Str), ("start" : Str), ("end" : Str), ("corners" : Str), ("corner" : Str)] [("value" : Str), ("node_names" : Str)] (defScope s_is_line) := ⟨rfl, rfl, rfl, by decide +kernel, rfl, by decide +kernel, by decide +kernel⟩
theorem c_is_line  (D : Df K mg "is_line" s_is_line) (T : Bt mg)  (c_is_place : Cal P w K mg base 3 "is_place" ["value", "farthest"] (sp2 gPlace)) (c_is_column : Cal P w K mg base 2 "is_column" ["value", "most"] (sp2 gCol)) (c_is_name : Cal P w K mg base 1 "is_name" ["value"] (sp1 gNm)) (c_is_row : Cal P w K mg base 2 "is_row" ["value", "many"] (sp2 gRow)) : Cal P w K mg base 4 "is_line" ["value", "node_names"] (sp2 gLine) := by
  have sc := sc_is_line
  refine cal_mk (k := 3) D sc (fun vs H Q E s => len2 s) (fun _ _ _ _ _ _ us hl => match us, hl with | [_, _], _ => rfl) (fun f cdv A outer st H vs Q E hr h => ⟨_, (pss_cons (ps_if ((pw_or (pt_not (pt_val (pe_cal c_is_row hr (by decide) (by rfl) (pa_cons (pv 0) (pa_cons pe_int pa_nil))))) (pw_or1 (pt_not (pt_val (pe_cal c_is_name hr (by decide) (by rfl) (pa_cons (pe_ix (ix_K K) (pv 0) pe_int (fun _ _ => rfl)) pa_nil))))))).pt (pss_one (ps_ret pe_bl)) pss_nil)
    (pss_cons (ps_asg (pv 0) (pg_TL (n := 4) K rfl (pgs_cons (pg_name (i := 2) sc.nd rfl (Or.inl rfl)) (pgs_cons (pg_name (i := 3) sc.nd rfl (Or.inl rfl)) (pgs_cons (pg_name (i := 4) sc.nd rfl (Or.inl rfl)) (pgs_cons (pg_name (i := 5) sc.nd rfl (Or.inl rfl)) pgs_nil))))))
    (pss_cons (ps_if ((pw_or (pt_cmpR (op_notInK K (hu65 hr)) (pv 3) (pv 1) (by rfl)) (pw_or (pt_cmpR (op_notInK K (hu65 hr)) (pv 4) (pv 1) (by rfl)) (pw_or1 (pt_cmpR (op_eqK K hr.units) (pv 3) (pv 4) (nomark _)))))).pt (pss_one (ps_ret pe_bl)) pss_nil)
    (pss_one (ps_ret (pe_and (pe_cal c_is_column hr (by decide) (by rfl) (pa_cons (pv 5) (pa_cons (pe_glob (v := .int 12) (by rfl) T.g_MOST_CORNERS_OF_LINE.choose_spec ⟨_, rfl⟩) pa_nil))) (pe_one (pe_callB (cr_allK K rfl) (by rfl) T.b_all (by decide +kernel) (pa_cons (pe_lc (own := [("corner", 6)]) rfl sc.nd (pi_LT K (pv 5)) (blkOk_by (by rfl)) (fun _ _ _ _ _ => (pg_name (i := 6) sc.nd rfl (Or.inl rfl))) (fun _ _ _ _ _ => pts_nil) (fun _ _ _ _ _ => (pe_cal c_is_place hr (by decide) (by rfl) (pa_cons (pv 6) (pa_cons (pe_glob (v := .int 1000000000) (by rfl) T.g_FARTHEST.choose_spec ⟨_, rfl⟩) pa_nil))))) pa_nil))))))))), wp2 h ?_⟩)
  rintro a _ _ ⟨ns, rfl, hn, hs, p1, p2, rfl⟩
  refine wp_seq ?_
  by_cases h : rowZ a 4 = true
  · obtain ⟨ds, hd, hl⟩ := row_seq h
    have hl : ds.length = 4 := by omega
    match ds, hl with
    | [d0, d1, d2, d3], _ =>
    have e0 : at0 a = d0 := by simp [at0, hd]
    have e1 : partD a 1 = d1 := by simp [partD, partsD, hd]
    have e2 : partD a 2 = d2 := by simp [partD, partsD, hd]
    have e3 : partD a 3 = d3 := by simp [partD, partsD, hd]
    rw [e0] at hs
    rw [e1] at p1
    rw [e2] at p2
    refine' wp_if (et_or0 (a := false) (b := !nameZ d0) (et_not (b := true) (et_test (ev_c2 (ev_var rfl) ev_int ⟨4, rfl, by rw [h]⟩))) (fun _ => et_not (et_test (ev_c1 (ev_op (ev_var rfl) ev_int (opd_ixQ hd (Pw.atI_nat (i := 0) rfl))) ⟨hs, rfl⟩)))) ?ht1 ?hf1
    case ht1 =>
      intro q
      have q : nameZ d0 = false := by simpa using q
      refine' wp_ret ev_bl ?_
      show _ = _
      simp only [lineZ, h, e0, q]
      rfl
    case hf1 =>
      intro q
      have q : nameZ d0 = true := by simpa using q
      refine wp_next ?_
      show WP _ _ _
      refine wp_seq ?_
      refine' wp_asgG (ev_var rfl) (gt_seq hd (gts_cons gt_name (gts_cons gt_name (gts_cons gt_name (gts_cons gt_name gts_nil)))) rfl) ?_
      show WP _ _ _
      refine wp_seq ?_
      refine' wp_if (et_or0 (a := !memN ns d1) (b := !memN ns d2 || PyData.eqv d1 d2) (et_b (ev_op (ev_var rfl) (ev_var rfl) (opd_notInL p1 hn))) (fun _ => et_or0 (et_b (ev_op (ev_var rfl) (ev_var rfl) (opd_notInL p2 hn))) (fun _ => et_b (ev_op (ev_var rfl) (ev_var rfl) (opd_eqD p1 p2))))) ?ht2 ?hf2
      case ht2 =>
        intro r
        refine' wp_ret ev_bl ?_
        show _ = _
        simp only [lineZ, h, q, e0, e1, e2, e3, Bool.true_and]
        cases m1 : memN ns d1 <;> cases m2 : memN ns d2 <;> cases m3 : PyData.eqv d1 d2 <;> first | rfl | (rw [m1, m2, m3] at r; exact absurd r (by decide))
      case hf2 =>
        intro r
        refine wp_next ?_
        show WP _ _ _
        refine' wp_ret (ev_and0 (a := colZ d3 12) (b := (partsD d3).all fun c => placeZ c 1000000000) (ev_c2 (ev_var rfl) ev_int ⟨12, rfl, rfl⟩) (fun hc => ?_)) ?_
        · obtain ⟨cs, h1, h2⟩ := col_seq hc
          have ep : partsD d3 = cs := by rw [partsD, h1]; rfl
          rw [ep]
          refine' ev_all (eo_lc1 (vs := [6]) cs (fun d => .d d) (fun d => .bool (placeZ d 1000000000)) (fun d => [.d d]) (EI.c (ei_seq (ev_var rfl) h1)) (is := [6]) (fun j h => h) ?hv (size4000 (by omega)) (fun z _ => ⟨gt_name, ev_c2 (ev_var rfl) ev_int ⟨_, rfl, rfl⟩⟩))
          intro j hj l c h
          have hj : j = 6 := by simpa using hj
          subst hj
          cases h
        · show _ = _
          simp only [lineZ, h, q, e0, e1, e2, e3, Bool.true_and]
          cases m1 : memN ns d1 <;> cases m2 : memN ns d2 <;> cases m3 : PyData.eqv d1 d2 <;> first | rfl | (rw [m1, m2, m3] at r; exact absurd r (by decide))
  · have h : rowZ a 4 = false := by simpa using h
    refine' wp_if (et_or0 (a := true) (b := true) (et_not (b := false) (et_test (ev_c2 (ev_var rfl) ev_int ⟨4, rfl, by rw [h]⟩))) (fun z => by cases z)) (fun _ => ?_) (fun z => by cases z)
    refine' wp_ret ev_bl ?_
    show _ = _
    simp only [lineZ, h]
    rfl
theorem sc__law_draw : FnScope [("row" : Str), ("at" : Str), ("limit" : Str), ("mixed" : Str)] [("row" : Str), ("at" : Str), ("limit" : Str)] (defScope s__law_draw) := ⟨rfl, rfl, rfl, by decide +kernel, rfl, by decide +kernel, by decide +kernel⟩
theorem c__law_draw  (D : Df K mg "_law_draw" s__law_draw) (T : Bt mg)   : Cal P w K mg base 1 "_law_draw" ["row", "at", "limit"] (sp3 gDraw) := by
  have sc := sc__law_draw
  refine cal_mk (k := 0) D sc (fun vs H Q E s => len3 s) (fun _ _ _ _ _ _ us hl => match us, hl with | [_, _, _], _ => rfl) (fun f cdv A outer st H vs Q E hr h => ⟨_, (pss_cons (ps_if (pt_cmpR op_lt (pv 1) (pe_callB (call_lenK K) (by rfl) T.b_len (by decide +kernel) (pa_cons (pv 0) pa_nil)) (nomark _)) (pss_one (ps_ret (pe_op op_mod (pe_callTy call_int1 (by rfl) T.b_int (by decide +kernel) (pa_cons (pe_ix (ix_K K) (pv 0) (pv 1) (fun _ _ => rfl)) pa_nil)) (pv 2)))) pss_nil)
    (pss_cons (ps_set (i := 3) sc.nd rfl (Or.inl rfl) (pe_op op_mod (pe_callTy call_int1 (by rfl) T.b_int (by decide +kernel) (pa_cons (pe_op (op_plusK K) (pe_op (op_plusK K) (pe_op op_mul (pe_ix (ix_K K) (pv 0) (pe_op op_mod (pe_callTy call_int1 (by rfl) T.b_int (by decide +kernel) (pa_cons (pv 1) pa_nil)) (pe_callB (call_lenK K) (by rfl) T.b_len (by decide +kernel) (pa_cons (pv 0) pa_nil))) (fun _ _ => rfl)) pe_int) (pe_op op_mul (pv 1) pe_int)) pe_int) pa_nil)) pe_int))
    (pss_one (ps_ret (pe_op op_mod (pe_callTy call_int1 (by rfl) T.b_int (by decide +kernel) (pa_cons (pe_op op_mod (pe_callTy call_int1 (by rfl) T.b_int (by decide +kernel) (pa_cons (pe_op (op_plusK K) (pe_op op_mul (pv 3) pe_int) (pv 1)) pa_nil)) pe_int) pa_nil)) (pv 2)))))), wp3 h ?_⟩)
  rintro _ _ _ _ ⟨row, n, lim, rfl, rfl, rfl, hr, hn, hl, rfl⟩
  have hp := hr.pos
  have hp2 : 0 < ((row.map PyData.int).length : Int) := by rw [List.length_map]; exact hp
  have el : ((row.map PyData.int).length : Int) = row.length := by rw [List.length_map]
  refine wp_seq ?_
  refine' wp_if (et_b (ev_op (ev_var rfl) (ev_cb1 (ev_var rfl) cd_lenL) opd_lt)) ?ht ?hf
  case ht =>
    intro hc
    have hc := of_decide_eq_true hc
    rw [el] at hc
    refine' wp_ret (ev_op (ev_cb1 (ev_op (ev_var rfl) (ev_var rfl) (opd_ixL (atI_ints hn.1 hc))) cd_int) (ev_var rfl) (opd_mod hl)) ?_
    show _ = _
    simp only [drawZ, if_pos hc]
  case hf =>
    intro hc
    have hc := of_decide_eq_false hc
    rw [el] at hc
    refine wp_next ?_
    show WP _ _ _
    refine wp_seq ?_
    have h0 : 0 ≤ n % (row.length : Int) := Int.emod_nonneg _ (by omega)
    have h1 : n % (row.length : Int) < row.length := Int.emod_lt_of_pos _ hp
    have ix : OpD (rIx K) (intsD row) (.int (n % ((row.map PyData.int).length : Int))) (.int (row.getD (n % (row.length : Int)).toNat 0)) := by rw [el]; exact opd_ixL (atI_ints h0 h1)
    refine' wp_asg (ev_op (ev_cb1 (ev_op (ev_op (ev_op (ev_op (ev_var rfl) (ev_op (ev_cb1 (ev_var rfl) cd_int) (ev_cb1 (ev_var rfl) cd_lenL) (opd_mod hp2)) ix) ev_int (opd_mul ?m1)) (ev_op (ev_var rfl) ev_int (opd_mul ?m2)) opd_add) ev_int opd_add) cd_int) ev_int (opd_mod ?m3)) ?k
    case m1 => exact .inr ⟨by decide, by decide⟩
    case m2 => exact .inr ⟨by decide, by decide⟩
    case m3 => decide
    case k =>
      show WP _ _ _
      refine' wp_ret (ev_op (ev_cb1 (ev_op (ev_cb1 (ev_op (ev_op (ev_var rfl) ev_int (opd_mul ?m1)) (ev_var rfl) opd_add) cd_int) ev_int (opd_mod ?m3)) cd_int) (ev_var rfl) (opd_mod hl)) ?_
      case m1 => exact .inr ⟨by decide, by decide⟩
      case m3 => decide
      show _ = _
      simp only [drawZ, if_neg hc]
theorem sc__law_take : FnScope [("row" : Str), ("spot" : Str), ("limit" : Str)] [("row" : Str), ("spot" : Str), ("limit" : Str)] (defScope s__law_take) := ⟨rfl, rfl, rfl, by decide +kernel, rfl, by decide +kernel, by decide +kernel⟩
theorem c__law_take  (D : Df K mg "_law_take" s__law_take) (T : Bt mg)  (c__law_draw : Cal P w K mg base 1 "_law_draw" ["row", "at", "limit"] (sp3 gDraw)) : Cal P w K mg base 2 "_law_take" ["row", "spot", "limit"] (spG gTake) := by
  have sc := sc__law_take
  refine cal_mk (k := 1) D sc (fun vs H Q E s => lenTake s) (fun _ _ _ _ _ _ us hl => match us, hl with | [_, _, _], _ => rfl) (fun f cdv A outer st H vs Q E hr h => ⟨_, (pss_cons (ps_asg (pe_op (op_plusK K) (pe_ix (ix_K K) (pv 1) pe_int (fun _ _ => rfl)) pe_int) (pg_sub (pv 1) pe_int set_list))
    (pss_one (ps_ret (pe_cal c__law_draw hr (by decide) (by rfl) (pa_cons (pv 0) (pa_cons (pe_op op_sub (pe_ix (ix_K K) (pv 1) pe_int (fun _ _ => rfl)) pe_int) (pa_cons (pv 2) pa_nil))))))), wp_def h ?_⟩)
  rintro as ret outs ⟨row, n, lim, rfl, hr, hn, hl, rfl, ho⟩ _
  refine wp_seq ?_
  refine' wp_setL (l := false) (ds := [.int n]) (m := 0) (ev_op (ev_ixO ev_int ⟨_, _, rfl⟩ rfl rfl) ev_int opd_add) ⟨_, _, rfl⟩ ev_int rfl rfl ?_
  show WP _ _ _
  have e : n + 1 - 1 = n := by omega
  have hg : gDraw (intsD row) (.int (n + 1 - 1)) (.int lim) (.int (drawZ row n lim)) := ⟨row, n, lim, rfl, by rw [e], rfl, hr, hn, hl, rfl⟩
  refine' wp_ret (ev_c3 (ev_var rfl) (ev_op (ev_ixO ev_int ⟨_, _, rfl⟩ rfl rfl) ev_int opd_sub) (ev_var rfl) hg) ?_
  refine ⟨rfl, fun i c h => ?_⟩
  match i, h with
  | 0, h => cases h
  | 1, h => rw [ho]; rfl
  | 2, h => cases h
  | i + 3, h => simp at h
theorem sc__law_wide : FnScope [("row" : Str), ("spot" : Str), ("limit" : Str), ("first" : Str), ("second" : Str), ("third" : Str)] [("row" : Str), ("spot" : Str), ("limit" : Str)] (defScope s__law_wide) := ⟨rfl, rfl, rfl, by decide +kernel, rfl, by decide +kernel, by decide +kernel⟩
theorem c__law_wide  (D : Df K mg "_law_wide" s__law_wide) (T : Bt mg)  (c__law_take : Cal P w K mg base 2 "_law_take" ["row", "spot", "limit"] (spG gTake)) : Cal P w K mg base 3 "_law_wide" ["row", "spot", "limit"] (spG gWide) := by
  have sc := sc__law_wide
  refine cal_mk (k := 2) D sc (fun vs H Q E s => lenWide s) (fun _ _ _ _ _ _ us hl => match us, hl with | [_, _, _], _ => rfl) (fun f cdv A outer st H vs Q E hr h => ⟨_, (pss_cons (ps_set (i := 3) sc.nd rfl (Or.inl rfl) (pe_cal c__law_take hr (by decide) (by rfl) (pa_cons (pv 0) (pa_cons (pv 1) (pa_cons pe_int pa_nil)))))
    (pss_cons (ps_set (i := 4) sc.nd rfl (Or.inl rfl) (pe_cal c__law_take hr (by decide) (by rfl) (pa_cons (pv 0) (pa_cons (pv 1) (pa_cons pe_int pa_nil)))))
    (pss_cons (ps_set (i := 5) sc.nd rfl (Or.inl rfl) (pe_cal c__law_take hr (by decide) (by rfl) (pa_cons (pv 0) (pa_cons (pv 1) (pa_cons pe_int pa_nil)))))
    (pss_one (ps_ret (pe_op op_mod (pe_callTy call_int1 (by rfl) T.b_int (by decide +kernel) (pa_cons (pe_op (op_plusK K) (pe_op (op_plusK K) (pe_op op_mul (pv 3) pe_int) (pe_op op_mul (pv 4) pe_int)) (pv 5)) pa_nil)) (pv 2))))))), wp_def h ?_⟩)
  rintro as ret outs ⟨row, n, lim, rfl, hr, hn, hl, rfl, ho⟩ _
  obtain ⟨n0, n1⟩ := hn
  refine wp_seq ?_
  refine' wp_asg (ev_take (ev_var rfl) ⟨_, _, rfl⟩ ev_int rfl hr ⟨by omega, by omega⟩ (by decide)) ?_
  show WP _ _ _
  refine wp_seq ?_
  refine' wp_asg (ev_take (ev_var rfl) ⟨_, _, rfl⟩ ev_int rfl hr ⟨by omega, by omega⟩ (by decide)) ?_
  show WP _ _ _
  refine wp_seq ?_
  refine' wp_asg (ev_take (ev_var rfl) ⟨_, _, rfl⟩ ev_int rfl hr ⟨by omega, by omega⟩ (by decide)) ?_
  show WP _ _ _
  refine' wp_ret (ev_op (ev_cb1 (ev_op (ev_op (ev_op (ev_var rfl) ev_int (opd_mul ?m1)) (ev_op (ev_var rfl) ev_int (opd_mul ?m2)) opd_add) (ev_var rfl) opd_add) cd_int) (ev_var rfl) (opd_mod hl)) ?_
  case m1 => exact .inr ⟨by decide, by decide⟩
  case m2 => exact .inr ⟨by decide, by decide⟩
  refine ⟨rfl, fun i c h => ?_⟩
  match i, h with
  | 0, h => cases h
  | 1, h => rw [ho]; rfl
  | 2, h => cases h
  | i + 3, h => simp at h

theorem sc__law_listed : FnScope [("value" : Str), ("one" : Str)] [("value" : Str)] (defScope s__law_listed) := ⟨rfl, rfl, rfl, by decide +kernel, rfl, by decide +kernel, by decide +kernel⟩
theorem c__law_listed (D : Df K mg "_law_listed" s__law_listed) (T : Bt mg)  : ∀ n : Nat, Cal P w K mg base (n + 1) "_law_listed" ["value"] (sp1 (gLis n))
  | 0 => cal_mk (k := 0) D sc__law_listed (fun vs H Q E s => len1 s) (fun _ _ _ _ _ _ us hl => match us, hl with | [_], _ => rfl) (fun f cdv A outer st H vs Q E hr h => (no1 (fun a y h => absurd h.1 (Nat.not_lt_zero _)) h).elim)
  | n + 1 => by
    have c__law_listed : Cal P w K mg base (n + 1) "_law_listed" ["value"] (sp1 (gLis n)) := c__law_listed D T  n
    have sc := sc__law_listed
    refine cal_mk (k := n + 1) D sc (fun vs H Q E s => len1 s) (fun _ _ _ _ _ _ us hl => match us, hl with | [_], _ => rfl) (fun f cdv A outer st H vs Q E hr h => ⟨_, (pss_cons (ps_if (pt_val (pe_callB (call_isiK' K) (by rfl) T.b_isinstance (by decide +kernel) (pa_cons (pv 0) (pa_cons (pe_bltn (v := .ty "tuple") (by rfl) T.b_tuple (by decide +kernel) rfl) pa_nil)))) (pss_one (ps_ret (pe_lc (own := [("one", 1)]) rfl sc.nd (pi_LT K (pv 0)) (blkOk_by (by rfl)) (fun _ _ _ _ _ => (pg_name (i := 1) sc.nd rfl (Or.inl rfl))) (fun _ _ _ _ _ => pts_nil) (fun _ _ _ _ _ => (pe_cal c__law_listed hr (Nat.le_refl _) (by rfl) (pa_cons (pv 1) pa_nil)))))) pss_nil)
    (pss_one (ps_ret (pv 0)))), wp1 h ?_⟩)
    rintro a _ ⟨hd0, hm, rfl⟩
    refine wp_seq ?_
    refine' wp_if (et_test (ev_isi (ev_var rfl) (kit_tup a))) (fun h => ?_) (fun h => wp_next ?_)
    · cases a <;> first | (cases h; done) | skip
      rename_i ds
      have hz : ds.length < sizeLine := by
        simp [smD] at hm
        rw [PySem.sizeLine_eq]; omega
      have part : ∀ z ∈ ds, gLis n z (lisZ z) := fun z hz => ⟨by have := depD_mem hz; simp [depD] at hd0; omega, by simp [smD] at hm; exact smD_mem hm.2 hz, rfl⟩
      refine' wp_retO (eo_lc1 (vs := [1]) ds (fun d => .d d) lisZ (fun d => [.d d]) (EI.c (ei_or2 (ei_tup (ev_var rfl)))) (is := [1]) (fun j h => h) no_own1 hz (fun z hz => ⟨gt_name, ev_c1 (ev_var rfl) (part z hz)⟩)) ?_
      show lisZ _ = _
      rw [lisZ, liss_map]
    · show WP _ _ _
      refine' wp_ret (ev_var rfl) ?_
      show _ = _
      cases a <;> first | (cases h; done) | rw [lisZ]
theorem sc__law_whole : FnScope [("value" : Str)] [("value" : Str)] (defScope s__law_whole) := ⟨rfl, rfl, rfl, by decide +kernel, rfl, by decide +kernel, by decide +kernel⟩
theorem c__law_whole  (D : Df K mg "_law_whole" s__law_whole) (T : Bt mg)   : Cal P w K mg base 1 "_law_whole" ["value"] (sp1 gInt) := by
  have sc := sc__law_whole
  refine cal_mk (k := 0) D sc (fun vs H Q E s => len1 s) (fun _ _ _ _ _ _ us hl => match us, hl with | [_], _ => rfl) (fun f cdv A outer st H vs Q E hr h => ⟨_, (pss_one (ps_ret (pe_and (pe_callB (call_isiK' K) (by rfl) T.b_isinstance (by decide +kernel) (pa_cons (pv 0) (pa_cons (pe_bltn (v := .ty "int") (by rfl) T.b_int (by decide +kernel) rfl) pa_nil))) (pe_one (pe_not (pe_callB (call_isiK' K) (by rfl) T.b_isinstance (by decide +kernel) (pa_cons (pv 0) (pa_cons (pe_bltn (v := .ty "bool") (by rfl) T.b_bool (by decide +kernel) rfl) pa_nil)))))))), wp1 h ?_⟩)
  rintro a _ rfl
  refine' wp_ret (ev_and0 (ev_isi (ev_var rfl) (kit_int a)) (fun _ => ev_not (ev_isi (ev_var rfl) (kit_bl a)))) ?_
  show _ = _
  cases a <;> rfl
theorem sc__law_is_number : FnScope [("value" : Str), ("limit" : Str)] [("value" : Str), ("limit" : Str)] (defScope s__law_is_number) := ⟨rfl, rfl, rfl, by decide +kernel, rfl, by decide +kernel, by decide +kernel⟩
theorem c__law_is_number  (D : Df K mg "_law_is_number" s__law_is_number) (T : Bt mg)  (c__law_whole : Cal P w K mg base 1 "_law_whole" ["value"] (sp1 gInt)) : Cal P w K mg base 2 "_law_is_number" ["value", "limit"] (sp2 gNum) := by
  have sc := sc__law_is_number
  refine cal_mk (k := 1) D sc (fun vs H Q E s => len2 s) (fun _ _ _ _ _ _ us hl => match us, hl with | [_, _], _ => rfl) (fun f cdv A outer st H vs Q E hr h => ⟨_, (pss_one (ps_ret (pe_and (pe_cal c__law_whole hr (by decide) (by rfl) (pa_cons (pv 0) pa_nil)) (pe_one (pe_chain op_le op_le (pe_un un_neg (pv 1)) (pv 0) (pv 1)))))), wp2 h ?_⟩)
  rintro a _ _ ⟨n, rfl, rfl⟩
  by_cases h : isI a = true
  · cases a <;> first | (cases h; done) | skip
    rename_i i
    refine' wp_ret (ev_and0 (a := true) (b := decide (-n ≤ i) && decide (i ≤ n)) (ev_c1 (ev_var rfl) rfl) (fun _ => ev_chain (ev_un (ev_var rfl) und_neg) (ev_var rfl) (fun _ => ev_var rfl) opd_le (fun _ => opd_le))) ?_
    rfl
  · have h : isI a = false := by simpa using h
    refine' wp_ret (ev_and0 (a := false) (b := false) (ev_c1 (ev_var rfl) (by rw [← h]; rfl)) (fun z => by cases z)) ?_
    show _ = _
    cases a <;> first | (cases h; done) | rfl
theorem sc__law_is_name : FnScope [("value" : Str), ("one" : Str)] [("value" : Str)] (defScope s__law_is_name) := ⟨rfl, rfl, rfl, by decide +kernel, rfl, by decide +kernel, by decide +kernel⟩
theorem c__law_is_name  (D : Df K mg "_law_is_name" s__law_is_name) (T : Bt mg)   : Cal P w K mg base 1 "_law_is_name" ["value"] (sp1 gNm2) := by
  have sc := sc__law_is_name
  refine cal_mk (k := 0) D sc (fun vs H Q E s => len1 s) (fun _ _ _ _ _ _ us hl => match us, hl with | [_], _ => rfl) (fun f cdv A outer st H vs Q E hr h => ⟨_, (pss_cons (ps_if ((pw_or (pt_not (pt_val (pe_callB (call_isiK' K) (by rfl) T.b_isinstance (by decide +kernel) (pa_cons (pv 0) (pa_cons (pe_bltn (v := .ty "str") (by rfl) T.b_str (by decide +kernel) rfl) pa_nil))))) (pw_or (pt_cmpR op_lt (pe_callB (call_lenK K) (by rfl) T.b_len (by decide +kernel) (pa_cons (pv 0) pa_nil)) pe_int (nomark _)) (pw_or1 (pt_cmpR op_gt (pe_callB (call_lenK K) (by rfl) T.b_len (by decide +kernel) (pa_cons (pv 0) pa_nil)) pe_int (nomark _)))))).pt (pss_one (ps_ret pe_bl)) pss_nil)
    (pss_one (ps_ret (pe_cmpR (op_eqK K hr.units) (pe_callB (call_lenK K) (by rfl) T.b_len (by decide +kernel) (pa_cons (pe_lc (own := [("one", 1)]) rfl sc.nd (pi_LTS K (pv 0)) (blkOk_by (by rfl)) (fun _ _ _ _ _ => (pg_name (i := 1) sc.nd rfl (Or.inl rfl))) (fun _ _ _ _ _ => (pts_one (pt_cmpR (op_notInK K (hu65 hr)) (pv 1) pe_str (by rfl)))) (fun _ _ _ _ _ => (pv 1))) pa_nil)) pe_int (nomark _))))), wp1 h ?_⟩)
  rintro a _ ⟨hs, rfl⟩
  refine wp_seq ?_
  by_cases h : isStrD a = true
  · cases a <;> first | (cases h; done) | skip
    rename_i z
    have hs : z.length ≤ sizeLine := hs
    refine' wp_if (et_or0 (a := false) (b := decide ((z.length : Int) < 1) || decide ((8 : Int) < z.length)) (et_not (b := true) (et_test (ev_isi (ev_var rfl) (kit_str _)))) (fun _ => et_or0 (et_b (ev_op (ev_cb1 (ev_var rfl) (cd_lenS hs)) ev_int opd_lt)) (fun _ => et_b (ev_op (ev_cb1 (ev_var rfl) (cd_lenS hs)) ev_int opd_gt)))) ?ht ?hf
    case ht =>
      intro q
      refine' wp_ret ev_bl ?_
      have q : (z.length : Int) < 1 ∨ (8 : Int) < z.length := by simpa using q
      have e : (decide ((1 : Int) ≤ z.length) && decide ((z.length : Int) ≤ 8)) = false := by
        rcases q with q | q
        · rw [decide_eq_false (by omega : ¬ (1 : Int) ≤ z.length)]; rfl
        · rw [decide_eq_false (by omega : ¬ (z.length : Int) ≤ 8)]; exact Bool.and_false _
      show _ = _
      simp only [nameZ, e, Bool.false_and]
    case hf =>
      intro q
      have q : 1 ≤ (z.length : Int) ∧ (z.length : Int) ≤ 8 := by simpa using q
      have e : (decide ((1 : Int) ≤ z.length) && decide ((z.length : Int) ≤ 8)) = true := by rw [decide_eq_true q.1, decide_eq_true q.2]; rfl
      refine wp_next ?_
      show WP _ _ _
      refine' wp_ret (ev_op (ev_cw (EO.w (eo_lc0 (vs := [1]) z.cps.toList (fun c => .d (.str ⟨#[c]⟩)) (fun c => !decide (c ∈ letters)) (fun c => .str ⟨#[c]⟩) (fun c => [.d (.str ⟨#[c]⟩)]) (EI.c (ei_or2 (ei_str (ev_var rfl)))) (is := [1]) (fun j h => h) no_own1 (size4000 ?hl) (fun c _ => ⟨gt_name, et_b (ev_op (ev_var rfl) ev_str opd_notSign), fun _ => ev_var rfl⟩))) cw_len) ev_int opd_eq_int) ?_
      case hl =>
        have e : z.cps.toList.length = z.length := by rw [Array.length_toList]; rfl
        omega
      show _ = _
      rw [List.length_map, none_out]
      simp only [nameZ, e, Bool.true_and]
  · have h : isStrD a = false := by simpa using h
    refine' wp_if (et_or0 (a := true) (b := true) ?e1 (fun z => by cases z)) (fun _ => ?_) (fun z => by cases z)
    case e1 =>
      have := et_not (et_test (ev_isi (K := K) (ρ := [.val (.d a), .non]) (ev_var (i := 0) rfl) (kit_str a)))
      rw [h] at this
      exact this
    refine' wp_ret ev_bl ?_
    show _ = _
    cases a <;> first | (cases h; done) | rfl
end

end Pv

set_option Elab.async false
set_option linter.all false
set_option maxRecDepth 100000
set_option maxHeartbeats 4000000
open PySem L2 Pw Hd
namespace Pv

section
variable {P : Program} {w : World} {K : PySem.W.Frag} {mg : Str → Option Value} {base : Heap}
theorem sc_have_different_names : FnScope [("rows" : Str), ("row" : Str)] [("rows" : Str)] (defScope s_have_different_names) := ⟨rfl, rfl, rfl, by decide +kernel, rfl, by decide +kernel, by decide +kernel⟩
theorem c_have_different_names  (D : Df K mg "have_different_names" s_have_different_names) (T : Bt mg)   : Cal P w K mg base 1 "have_different_names" ["rows"] (sp1 gDif) := by
  have sc := sc_have_different_names
  refine cal_mk (k := 0) D sc (fun vs H Q E s => len1 s) (fun _ _ _ _ _ _ us hl => match us, hl with | [_], _ => rfl) (fun f cdv A outer st H vs Q E hr h => ⟨_, (pss_one (ps_ret (pe_cmpR (op_eqK K hr.units) (pe_callB (call_lenSKK K P w) (by rfl) T.b_len (by decide +kernel) (pa_cons (pe_skK (own := [("row", 1)]) P w rfl sc.nd (pi_LT K (pv 0)) (blkOk_by (by rfl)) (fun _ _ _ _ _ => (pg_name (i := 1) sc.nd rfl (Or.inl rfl))) (fun _ _ _ _ _ => (pe_ix (ix_K K) (pv 1) pe_int (fun _ _ => rfl)))) pa_nil)) (pe_callB (call_lenK K) (by rfl) T.b_len (by decide +kernel) (pa_cons (pv 0) pa_nil)) (nomark _)))), wp1 h ?_⟩)
  rintro a _ ⟨ds, hd, hl, hz, rfl⟩
  have e : partsD a = ds := by rw [partsD, hd]; rfl
  refine' wp_ret (ev_op (ev_lenSk (P := P) (w := w) (vs := [1]) ds (fun d => .d d) nm (fun d => [.d d]) (ei_seq (ev_var rfl) hd) (is := [1]) (fun j h => h) no_own1 (by unfold scanBound; omega) (fun z hm => ⟨gt_name, ?_⟩)) (ev_cb1 (ev_var rfl) (cd_lenQ hd)) opd_eq_int) ?_
  · obtain ⟨es, s, h1, h2⟩ := hz z hm
    rw [nm_of h1 h2]
    exact ev_op (ev_var rfl) ev_int (opd_ixQ h1 (Pw.atI_nat (i := 0) h2))
  · show _ = _
    rw [difZ, e]
    have := difs_len (ds.map nm)
    rw [List.length_map] at this
    congr 2
    apply decide_eq_decide.mpr
    rw [← this.2]
    omega
theorem sc_is_map : FnScope [("value" : Str), ("nodes" : Str), ("lines" : Str), ("marks" : Str), ("node_names" : Str), ("node" : Str), ("rows" : Str), ("line" : Str), ("mark" : Str)] [("value" : Str)] (defScope s_is_map) := ⟨rfl, rfl, rfl, by decide +kernel, rfl, by decide +kernel, by decide +kernel⟩
theorem c_is_map  (D : Df K mg "is_map" s_is_map) (T : Bt mg)  (c_have_different_names : Cal P w K mg base 1 "have_different_names" ["rows"] (sp1 gDif)) (c_is_line : Cal P w K mg base 4 "is_line" ["value", "node_names"] (sp2 gLine)) (c_is_column : Cal P w K mg base 2 "is_column" ["value", "most"] (sp2 gCol)) (c_is_mark : Cal P w K mg base 4 "is_mark" ["value"] (sp1 gMark)) (c_is_node : Cal P w K mg base 4 "is_node" ["value"] (sp1 gNode)) (c_is_row : Cal P w K mg base 2 "is_row" ["value", "many"] (sp2 gRow)) : Cal P w K mg base 5 "is_map" ["value"] (sp1 gMap) := by
  have sc := sc_is_map
  refine cal_mk (k := 4) D sc (fun vs H Q E s => len1 s) (fun _ _ _ _ _ _ us hl => match us, hl with | [_], _ => rfl) (fun f cdv A outer st H vs Q E hr h => ⟨_, (pss_cons (ps_if (pt_not (pt_val (pe_cal c_is_row hr (by decide) (by rfl) (pa_cons (pv 0) (pa_cons pe_int pa_nil))))) (pss_one (ps_ret pe_bl)) pss_nil)
    (pss_cons (ps_asg (pv 0) (pg_TL (n := 3) K rfl (pgs_cons (pg_name (i := 1) sc.nd rfl (Or.inl rfl)) (pgs_cons (pg_name (i := 2) sc.nd rfl (Or.inl rfl)) (pgs_cons (pg_name (i := 3) sc.nd rfl (Or.inl rfl)) pgs_nil)))))
    (pss_cons (ps_if ((pw_or (pt_not (pt_val (pe_cal c_is_column hr (by decide) (by rfl) (pa_cons (pv 1) (pa_cons (pe_glob (v := .int 16) (by rfl) T.g_MOST_NODES.choose_spec ⟨_, rfl⟩) pa_nil))))) (pw_or1 (pt_not (pt_val (pe_callB (cr_allK K rfl) (by rfl) T.b_all (by decide +kernel) (pa_cons (pe_lc (own := [("node", 5)]) rfl sc.nd (pi_LT K (pv 1)) (blkOk_by (by rfl)) (fun _ _ _ _ _ => (pg_name (i := 5) sc.nd rfl (Or.inl rfl))) (fun _ _ _ _ _ => pts_nil) (fun _ _ _ _ _ => (pe_cal c_is_node hr (by decide) (by rfl) (pa_cons (pv 5) pa_nil)))) pa_nil))))))).pt (pss_one (ps_ret pe_bl)) pss_nil)
    (pss_cons (ps_if ((pw_or (pt_not (pt_val (pe_cal c_is_column hr (by decide) (by rfl) (pa_cons (pv 3) (pa_cons (pe_glob (v := .int 10) (by rfl) T.g_MOST_MARKS.choose_spec ⟨_, rfl⟩) pa_nil))))) (pw_or1 (pt_not (pt_val (pe_callB (cr_allK K rfl) (by rfl) T.b_all (by decide +kernel) (pa_cons (pe_lc (own := [("mark", 8)]) rfl sc.nd (pi_LT K (pv 3)) (blkOk_by (by rfl)) (fun _ _ _ _ _ => (pg_name (i := 8) sc.nd rfl (Or.inl rfl))) (fun _ _ _ _ _ => pts_nil) (fun _ _ _ _ _ => (pe_cal c_is_mark hr (by decide) (by rfl) (pa_cons (pv 8) pa_nil)))) pa_nil))))))).pt (pss_one (ps_ret pe_bl)) pss_nil)
    (pss_cons (ps_set (i := 4) sc.nd rfl (Or.inr rfl) (pe_lc (own := [("node", 5)]) rfl sc.nd (pi_LT K (pv 1)) (blkOk_by (by rfl)) (fun _ _ _ _ _ => (pg_name (i := 5) sc.nd rfl (Or.inl rfl))) (fun _ _ _ _ _ => pts_nil) (fun _ _ _ _ _ => (pe_ix (ix_K K) (pv 5) pe_int (fun _ _ => rfl)))))
    (pss_cons (ps_if ((pw_or (pt_not (pt_val (pe_cal c_is_column hr (by decide) (by rfl) (pa_cons (pv 2) (pa_cons (pe_glob (v := .int 16) (by rfl) T.g_MOST_LINES.choose_spec ⟨_, rfl⟩) pa_nil))))) (pw_or1 (pt_not (pt_val (pe_callB (cr_allK K rfl) (by rfl) T.b_all (by decide +kernel) (pa_cons (pe_lc (own := [("line", 7)]) rfl sc.nd (pi_LT K (pv 2)) (blkOk_by (by rfl)) (fun _ _ _ _ _ => (pg_name (i := 7) sc.nd rfl (Or.inl rfl))) (fun _ _ _ _ _ => pts_nil) (fun _ _ _ _ _ => (pe_cal c_is_line hr (by decide) (by rfl) (pa_cons (pv 7) (pa_cons (pv 4) pa_nil))))) pa_nil))))))).pt (pss_one (ps_ret pe_bl)) pss_nil)
    (pss_cons (ps_if (pt_cmpR op_gt (pe_callB (cr_sumK K rfl) (by rfl) T.b_sum (by decide +kernel) (pa_cons (pe_lc (own := [("line", 7)]) rfl sc.nd (pi_LT K (pv 2)) (blkOk_by (by rfl)) (fun _ _ _ _ _ => (pg_name (i := 7) sc.nd rfl (Or.inl rfl))) (fun _ _ _ _ _ => pts_nil) (fun _ _ _ _ _ => (pe_callB (call_lenK K) (by rfl) T.b_len (by decide +kernel) (pa_cons (pe_ix (ix_K K) (pv 7) pe_int (fun _ _ => rfl)) pa_nil)))) pa_nil)) (pe_glob (v := .int 60) (by rfl) T.g_MOST_CORNERS.choose_spec ⟨_, rfl⟩) (nomark _)) (pss_one (ps_ret pe_bl)) pss_nil)
    (pss_one (ps_ret (pe_callB (cr_allK K rfl) (by rfl) T.b_all (by decide +kernel) (pa_cons (pe_lc (own := [("rows", 6)]) rfl sc.nd (pi_LT K (pe_tup (pa_cons (pv 1) (pa_cons (pv 2) (pa_cons (pv 3) pa_nil))))) (blkOk_by (by rfl)) (fun _ _ _ _ _ => (pg_name (i := 6) sc.nd rfl (Or.inl rfl))) (fun _ _ _ _ _ => pts_nil) (fun _ _ _ _ _ => (pe_cal c_have_different_names hr (by decide) (by rfl) (pa_cons (pv 6) pa_nil)))) pa_nil))))))))))), wp1 h ?_⟩)
  rintro a _ ⟨hn, rfl⟩
  refine wp_seq ?_
  by_cases h : rowZ a 3 = true
  case neg =>
    have h : rowZ a 3 = false := by simpa using h
    refine' wp_if (et_not (b := false) (et_test (ev_c2 (ev_var rfl) ev_int ⟨3, rfl, by rw [h]⟩))) (fun _ => ?_) (fun z => by cases z)
    refine' wp_ret ev_bl ?_
    show _ = _
    simp only [mapZ, h]
    rfl
  obtain ⟨ds, hd, hl⟩ := row_seq h
  have hl : ds.length = 3 := by omega
  match ds, hl with
  | [n, l, m], _ =>
  have e0 : partD a 0 = n := by simp [partD, partsD, hd]
  have e1 : partD a 1 = l := by simp [partD, partsD, hd]
  have e2 : partD a 2 = m := by simp [partD, partsD, hd]
  have nn : Nice 9 n := hn.part hd (by simp)
  have nl : Nice 9 l := hn.part hd (by simp)
  have nmk : Nice 9 m := hn.part hd (by simp)
  refine' wp_if (et_not (b := true) (et_test (ev_c2 (ev_var rfl) ev_int ⟨3, rfl, by rw [h]⟩))) (fun z => by cases z) (fun _ => wp_next ?_)
  show WP _ _ _
  refine wp_seq ?_
  refine' wp_asgG (ev_var rfl) (gt_seq hd (gts_cons gt_name (gts_cons gt_name (gts_cons gt_name gts_nil))) rfl) ?_
  show WP _ [.val (.d a), .val (.d n), .val (.d l), .val (.d m), .non, .non, .non, .non, .non] _
  refine wp_seq ?_
  refine' wp_if (et_or0 (a := !colZ n 16) (b := !(partsD n).all fun d => nodeZ d 1000000000) (et_not (et_test (ev_c2 (ev_var rfl) ev_int ⟨16, rfl, rfl⟩))) (fun hc => ?n1)) ?n2 ?n3
  case n1 =>
    have hc : colZ n 16 = true := by simpa using hc
    obtain ⟨cs, h1, h2⟩ := col_seq hc
    have ep : partsD n = cs := by rw [partsD, h1]; rfl
    rw [ep]
    exact et_not (et_test (ev_all (eo_lc1 (vs := [5]) cs (fun d => .d d) (fun d => .bool (nodeZ d 1000000000)) (fun d => [.d d]) (EI.c (ei_seq (ev_var rfl) h1)) (is := [5]) (fun j h => h) (by intro j hj l c h; simp only [List.mem_cons, List.not_mem_nil, or_false] at hj; rcases hj with rfl <;> cases h) (size4000 (by omega)) (fun z hz => ⟨gt_name, ev_c1 (ev_var rfl) ⟨(nn.part h1 hz).at0.smS, rfl⟩⟩))))
  case n2 =>
    intro q
    refine' wp_ret ev_bl ?_
    show _ = _
    simp only [mapZ, h, e0]
    cases y1 : colZ n 16 <;> cases y2 : (partsD n).all fun d => nodeZ d 1000000000 <;> first | rfl | (rw [y1, y2] at q; exact absurd q (by decide))
  intro q
  have cn : colZ n 16 = true ∧ (partsD n).all (fun d => nodeZ d 1000000000) = true := by
    cases y1 : colZ n 16 <;> cases y2 : (partsD n).all fun d => nodeZ d 1000000000 <;> first | exact ⟨rfl, rfl⟩ | (rw [y1, y2] at q; exact absurd q (by decide))
  obtain ⟨cs, hcs, lcs⟩ := col_seq cn.1
  have en : partsD n = cs := by rw [partsD, hcs]; rfl
  have an := cn.2
  rw [en, List.all_eq_true] at an
  refine wp_next ?_
  show WP _ _ _
  refine wp_seq ?_
  refine' wp_if (et_or0 (a := !colZ m 10) (b := !(partsD m).all fun d => markZ d 1000000000 1000000) (et_not (et_test (ev_c2 (ev_var rfl) ev_int ⟨10, rfl, rfl⟩))) (fun hc => ?m1)) ?m2 ?m3
  case m1 =>
    have hc : colZ m 10 = true := by simpa using hc
    obtain ⟨cs, h1, h2⟩ := col_seq hc
    have ep : partsD m = cs := by rw [partsD, h1]; rfl
    rw [ep]
    exact et_not (et_test (ev_all (eo_lc1 (vs := [8]) cs (fun d => .d d) (fun d => .bool (markZ d 1000000000 1000000)) (fun d => [.d d]) (EI.c (ei_seq (ev_var rfl) h1)) (is := [8]) (fun j h => h) (by intro j hj l c h; simp only [List.mem_cons, List.not_mem_nil, or_false] at hj; rcases hj with rfl <;> cases h) (size4000 (by omega)) (fun z hz => ⟨gt_name, ev_c1 (ev_var rfl) ⟨(nmk.part h1 hz).at0.smS, rfl⟩⟩))))
  case m2 =>
    intro q
    refine' wp_ret ev_bl ?_
    show _ = _
    simp only [mapZ, h, e0, e2, cn.1, cn.2, Bool.true_and]
    cases y1 : colZ m 10 <;> cases y2 : (partsD m).all fun d => markZ d 1000000000 1000000 <;> first | rfl | (rw [y1, y2] at q; exact absurd q (by decide))
  intro q
  have cm : colZ m 10 = true ∧ (partsD m).all (fun d => markZ d 1000000000 1000000) = true := by
    cases y1 : colZ m 10 <;> cases y2 : (partsD m).all fun d => markZ d 1000000000 1000000 <;> first | exact ⟨rfl, rfl⟩ | (rw [y1, y2] at q; exact absurd q (by decide))
  obtain ⟨ms, hms, lms⟩ := col_seq cm.1
  have em : partsD m = ms := by rw [partsD, hms]; rfl
  have am := cm.2
  rw [em, List.all_eq_true] at am
  refine wp_next ?_
  show WP _ _ _
  refine wp_seq ?_
  refine' wp_asg (EO.vl (eo_lc1 (vs := [5]) cs (fun d => .d d) (fun d => .str (nm d)) (fun d => [.d d]) (EI.c (ei_seq (ev_var rfl) hcs)) (is := [5]) (fun j h => h) (by intro j hj l c h; simp only [List.mem_cons, List.not_mem_nil, or_false] at hj; rcases hj with rfl <;> cases h) (size4000 (by omega)) (fun z hz => ⟨gt_name, ?nm⟩))) ?_
  case nm =>
    obtain ⟨es, s, f1, f2⟩ := node_name (an z hz)
    rw [nm_of f1 f2]
    exact ev_op (ev_var rfl) ev_int (opd_ixQ f1 (Pw.atI_nat (i := 0) f2))
  have enm : (cs.map fun d => PyData.str (nm d)) = (namesZ n).map .str := by rw [namesZ, en, List.map_map]; rfl
  rw [enm]
  have shn : SeqAt.shaped (.list ((namesZ n).map .str)) = true := shaped_names fun z hz => by
    rw [namesZ, en] at hz
    obtain ⟨d, hd', rfl⟩ := List.mem_map.mp hz
    obtain ⟨es, s, f1, f2⟩ := node_name (an d hd')
    rw [nm_of f1 f2]
    exact ((nn.part hcs hd').part f1 (List.mem_of_getElem? f2)).1
  show WP _ [.val (.d a), .val (.d n), .val (.d l), .val (.d m), .val (.d (.list ((namesZ n).map .str))), .non, .non, .non, .non] _
  refine wp_seq ?_
  refine' wp_if (et_or0 (a := !colZ l 16) (b := !(partsD l).all fun d => lineZ d (namesZ n) 1000000000) (et_not (et_test (ev_c2 (ev_var rfl) ev_int ⟨16, rfl, rfl⟩))) (fun hc => ?l1)) ?l2 ?l3
  case l1 =>
    have hc : colZ l 16 = true := by simpa using hc
    obtain ⟨ls, h1, h2⟩ := col_seq hc
    have ep : partsD l = ls := by rw [partsD, h1]; rfl
    rw [ep]
    exact et_not (et_test (ev_all (eo_lc1 (vs := [7]) ls (fun d => .d d) (fun d => .bool (lineZ d (namesZ n) 1000000000)) (fun d => [.d d]) (EI.c (ei_seq (ev_var rfl) h1)) (is := [7]) (fun j h => h) (by intro j hj l c h; simp only [List.mem_cons, List.not_mem_nil, or_false] at hj; rcases hj with rfl <;> cases h) (size4000 (by omega)) (fun z hz => ⟨gt_name, ev_c2 (ev_var rfl) (ev_var rfl) ⟨namesZ n, rfl, shn, (nl.part h1 hz).at0.smS, ((nl.part h1 hz).partD 1).shaped (by decide), ((nl.part h1 hz).partD 2).shaped (by decide), rfl⟩⟩))))
  case l2 =>
    intro q
    refine' wp_ret ev_bl ?_
    show _ = _
    simp only [mapZ, h, e0, e1, e2, cn.1, cn.2, cm.1, cm.2, Bool.true_and]
    cases y1 : colZ l 16 <;> cases y2 : (partsD l).all fun d => lineZ d (namesZ n) 1000000000 <;> first | rfl | (rw [y1, y2] at q; exact absurd q (by decide))
  intro q
  have cl : colZ l 16 = true ∧ (partsD l).all (fun d => lineZ d (namesZ n) 1000000000) = true := by
    cases y1 : colZ l 16 <;> cases y2 : (partsD l).all fun d => lineZ d (namesZ n) 1000000000 <;> first | exact ⟨rfl, rfl⟩ | (rw [y1, y2] at q; exact absurd q (by decide))
  obtain ⟨ls, hls, lls⟩ := col_seq cl.1
  have el : partsD l = ls := by rw [partsD, hls]; rfl
  have al := cl.2
  rw [el, List.all_eq_true] at al
  refine wp_next ?_
  show WP _ _ _
  refine wp_seq ?_
  refine' wp_if (b := decide (60 < cntZ l)) (et_b (ev_op ?cnt ev_int opd_gt)) ?c2 ?c3
  case cnt =>
    rw [show cntZ l = (ls.map fun d => ((partsD (partD d 3)).length : Int)).sum by rw [cntZ, el]]
    refine' ev_cw (EO.w (c := .lst ((ls.map fun d => ((partsD (partD d 3)).length : Int)).map .int)) ?eo) cw_sum
    case eo =>
    rw [List.map_map]
    refine' eo_lc1 (vs := [7]) ls (fun d => .d d) (fun d => .int ((partsD (partD d 3)).length : Int)) (fun d => [.d d]) (EI.c (ei_seq (ev_var rfl) hls)) (is := [7]) (fun j h => h) (by intro j hj l c h; simp only [List.mem_cons, List.not_mem_nil, or_false] at hj; rcases hj with rfl <;> cases h) (size4000 (by omega)) (fun z hz => ⟨gt_name, ?le⟩)
    case le =>
      have hz' := al z hz
      simp only [lineZ, Bool.and_eq_true] at hz'
      obtain ⟨r4, _, _, _, _, c12, _⟩ := hz'
      obtain ⟨fs, f1, f2⟩ := row_seq r4
      obtain ⟨gs, g1, g2⟩ := col_seq c12
      have e3 : fs[3]? = some (partD z 3) := by
        have : 3 < fs.length := by omega
        simp [partD, partsD, f1, this]
      have eg : partsD (partD z 3) = gs := by rw [partsD, g1]; rfl
      rw [eg]
      exact ev_cb1 (ev_op (ev_var rfl) ev_int (opd_ixQ f1 (Pw.atI_nat (i := 3) e3))) (cd_lenQ g1)
  case c2 =>
    intro q60
    refine' wp_ret ev_bl ?_
    have q60 : ¬ cntZ l ≤ 60 := by have := of_decide_eq_true q60; omega
    show _ = _
    simp only [mapZ, h, e0, e1, e2, cn.1, cn.2, cm.1, cm.2, cl.1, cl.2, Bool.true_and, decide_eq_false q60]
    rfl
  intro q60
  have q60 : cntZ l ≤ 60 := by have := of_decide_eq_false q60; omega
  refine wp_next ?_
  show WP _ _ _
  have sq : ∀ x ∈ [n, l, m], gDif x (.bool (difZ x)) := fun x hx => by
    simp only [List.mem_cons, List.not_mem_nil, or_false] at hx
    rcases hx with rfl | rfl | rfl
    · exact ⟨cs, hcs, by omega, fun d hd' => node_name (an d hd'), rfl⟩
    · exact ⟨ls, hls, by omega, fun d hd' => line_name (al d hd'), rfl⟩
    · exact ⟨ms, hms, by omega, fun d hd' => mark_name (am d hd'), rfl⟩
  refine' wp_ret (ev_all (eo_lc1 (vs := [6]) [n, l, m] (fun d => .d d) (fun d => .bool (difZ d)) (fun d => [.d d]) (EI.c (ei_or2 (ei_tup (ev_tup (ds := [n, l, m]) (ea_cons (ev_var rfl) (ea_cons (ev_var rfl) (ea_cons (ev_var rfl) ea_nil))) (show 3 ≤ sizeLine by decide))))) (is := [6]) (fun j h => h) (by intro j hj l c h; simp only [List.mem_cons, List.not_mem_nil, or_false] at hj; rcases hj with rfl <;> cases h) (size4000 (show 3 ≤ 4000 by decide)) (fun z hz => ⟨gt_name, ev_c1 (ev_var rfl) (sq z hz)⟩))) ?_
  show _ = _
  simp only [mapZ, h, e0, e1, e2, cn.1, cn.2, cm.1, cm.2, cl.1, cl.2, Bool.true_and, decide_eq_true q60, List.all_cons, List.all_nil, Bool.and_true]
end

end Pv

set_option Elab.async false
set_option linter.all false
set_option maxRecDepth 100000
/-! PwParse: what a text tells: words, numbers, rows, maps. -/
namespace Pv
open PySem L2 Pw TL PySem.NumText
def digitL : List Nat := ("0123456789" : Str).cps.toList
theorem digitL_eq : digitL = [48, 49, 50, 51, 52, 53, 54, 55, 56, 57] := by decide +kernel
theorem digit_mem (c : Nat) : decide (c ∈ digitL) = isDig c := by
  rw [digitL_eq]
  unfold isDig
  by_cases h : 48 ≤ c ∧ c ≤ 57
  · rw [decide_eq_true h.1, decide_eq_true h.2]
    apply decide_eq_true
    have : c = 48 ∨ c = 49 ∨ c = 50 ∨ c = 51 ∨ c = 52 ∨ c = 53 ∨ c = 54 ∨ c = 55 ∨ c = 56 ∨ c = 57 := by omega
    simpa using this
  · have e : (decide (48 ≤ c) && decide (c ≤ 57)) = false := by
      cases q : (decide (48 ≤ c) && decide (c ≤ 57)) with
      | false => rfl
      | true => simp at q; exact absurd q h
    rw [e]
    apply decide_eq_false
    simp only [List.mem_cons, List.not_mem_nil, or_false]
    omega
theorem digits_lt : ∀ l : List Nat, AllDigits l → digitsVal l < 10 ^ l.length := by
  have key : ∀ (l : List Nat) (a : Nat), AllDigits l → l.foldl (fun acc c => acc * 10 + (c - 48)) a < (a + 1) * 10 ^ l.length := by
    intro l
    induction l with
    | nil => intro a _; simp
    | cons c l ih =>
      intro a h
      have hc := h.head
      have h1 := ih (a * 10 + (c - 48)) h.tail
      rw [List.foldl_cons, List.length_cons, Nat.pow_succ]
      have h2 : (a * 10 + (c - 48) + 1) * 10 ^ l.length ≤ ((a + 1) * 10) * 10 ^ l.length := Nat.mul_le_mul_right _ (by omega)
      have h3 : (a + 1) * 10 * 10 ^ l.length = (a + 1) * (10 ^ l.length * 10) := by rw [Nat.mul_assoc, Nat.mul_comm 10]
      omega
  intro l h
  have := key l 0 h
  simpa [digitsVal] using this
def digOk (w : Str) : Bool := (decide ((1 : Int) ≤ (bare (tl w)).length) && decide (((bare (tl w)).length : Int) ≤ 10)) && (bare (tl w)).all isDig
def numD (w : Str) : PyData := if digOk w = true then (if numS (worthZ (tl w)) = w then .int (worthZ (tl w)) else .none) else .none
def gNumT (a y : PyData) : Prop := ∃ w : Str, a = .str w ∧ w.length ≤ 70000 ∧ y = numD w
theorem worth_small {w : Str} (h : AllDigits (bare (tl w))) (h2 : (bare (tl w)).length ≤ 12) : (worthZ (tl w)).natAbs < 10 ^ 12 := by
  have h1 := digits_lt _ h
  have h3 : 10 ^ (bare (tl w)).length ≤ 10 ^ 12 := Nat.pow_le_pow_right (by decide) h2
  have e : (worthZ (tl w)).natAbs = digitsVal (bare (tl w)) := by
    unfold worthZ bare
    split <;> simp
  omega
theorem log_small {n : Int} (h : n.natAbs < 10 ^ 12) : n.natAbs.log2 < 1920 := by
  by_cases z : n.natAbs = 0
  · rw [z]; decide
  · have : n.natAbs.log2 < 40 := (Nat.log2_lt z).mpr (by omega)
    omega
theorem numD_back (n : Int) (h : -1000000000 ≤ n ∧ n ≤ 1000000000) : numD (numS n) = .int n := by
  obtain ⟨h1, h2, h3, h4, _⟩ := numS_facts n ⟨by omega, by omega⟩
  have e : digOk (numS n) = true := by
    unfold digOk
    have : 0 < (bare (tl (numS n))).length := List.length_pos_iff.mpr h2
    rw [decide_eq_true (by omega), decide_eq_true (by omega), isDig_all.mpr h1]; rfl
  unfold numD
  rw [if_pos e, h4, if_pos rfl]
def pairsD : List PyData → List PyData
  | [] => []
  | [a] => [.tuple [a]]
  | a :: b :: r => .tuple [a, b] :: pairsD r
theorem pairs_eq : ∀ (l : List PyData), (List.range ((l.length + 1) / 2)).map (fun k => PyData.tuple ((l.drop (2 * k)).take 2)) = pairsD l
  | [] => rfl
  | [a] => by
    have e : ([a].length + 1) / 2 = 1 := by simp
    rw [e]
    simp [pairsD, List.range_succ]
  | a :: b :: r => by
    have ih := pairs_eq r
    have e : ((a :: b :: r).length + 1) / 2 = (r.length + 1) / 2 + 1 := by simp only [List.length_cons]; omega
    rw [e, List.range_succ_eq_map, List.map_cons, List.map_map]
    show _ :: _ = _ :: pairsD r
    rw [← ih]
    congr 1
def rowD (ws : List Str) : PyData := if ws.getD 0 Str.empty = ("line" : Str) then .tuple (((ws.drop 1).take 3).map PyData.str ++ [.tuple (pairsD ((ws.drop 4).map numD))]) else .tuple (((ws.drop 1).take 1).map PyData.str ++ (ws.drop 2).map numD)
def WordsOk (ws : List Str) : Prop := ws ≠ [] ∧ ws.length ≤ 70000 ∧ ∀ w ∈ ws, w.length ≤ 70000
def gRowT (a y : PyData) : Prop := ∃ ws : List Str, a = .list (ws.map .str) ∧ WordsOk ws ∧ y = rowD ws
def kindsS : List Str := [("node" : Str), ("line" : Str), ("mark" : Str)]
def kindAt (z : Str) : Option Nat := if z = ("node" : Str) then some 0 else if z = ("line" : Str) then some 1 else if z = ("mark" : Str) then some 2 else none
/-- the map as three rows of rows -/
def triD (A B C : List PyData) : PyData := .tuple [.tuple A, .tuple B, .tuple C]
def longD (A B C : List PyData) (d : PyData) : Nat → PyData
  | 0 => triD (A ++ [d]) B C
  | 1 => triD A (B ++ [d]) C
  | _ => triD A B (C ++ [d])
def laterB (B C : List PyData) : Nat → Bool
  | 0 => !B.isEmpty || !C.isEmpty
  | 1 => !C.isEmpty
  | _ => false
def withD (A B C : List PyData) (ws : List Str) : PyData := match kindAt (ws.getD 0 Str.empty) with
  | none => .none
  | some k => if laterB B C k = true then .none else if mapZ (longD A B C (rowD ws) k) = true then longD A B C (rowD ws) k else .none
def gWithW (a b y : PyData) : Prop := ∃ A B C ws, a = triD A B C ∧ b = .list (ws.map PyData.str) ∧ WordsOk ws ∧ A.length ≤ 16 ∧ B.length ≤ 16 ∧ C.length ≤ 16 ∧
  (∀ k, kindAt (ws.getD 0 Str.empty) = some k → Nice 9 (longD A B C (rowD ws) k)) ∧ y = withD A B C ws
end Pv

set_option Elab.async false
set_option linter.all false
set_option maxRecDepth 100000
set_option maxHeartbeats 4000000
open PySem L2 Pw Hd
namespace Pv
structure Et (P : Program) (w : World) (K : PySem.W.Frag) (mg : Str → Option Value) (base : Heap) : Prop where
  m_MapError : mg "MapError" = some (.ref (He.ga K "MapError"))
  m_BadValue : mg "BadValue" = some (.ref (He.ga K "BadValue"))
  m_BadText : mg "BadText" = some (.ref (He.ga K "BadText"))
  i_BadValue : ExMk P w K mg base 1 "BadValue" (He.ga K "BadValue") "at"
  x_BadValue : ExI K (He.ga K "BadValue") "at"
  i_BadText : ExMk P w K mg base 1 "BadText" (He.ga K "BadText") "at"
  x_BadText : ExI K (He.ga K "BadText") "at"
  t_KINDS : TupK K mg "KINDS" kindsS
  em : ∀ x ∈ six, ∀ y ∈ six, PySem.W.exmOne K (.ref (He.ga K x)) (.ref (He.ga K y)) = some (decide (x = y))
section
variable {P : Program} {w : World} {K : PySem.W.Frag} {mg : Str → Option Value} {base : Heap}
theorem sc_number_told : FnScope [("word" : Str), ("digits" : Str), ("number" : Str), ("sign" : Str)] [("word" : Str)] (defScope s_number_told) := ⟨rfl, rfl, rfl, by decide +kernel, rfl, by decide +kernel, by decide +kernel⟩
theorem c_number_told  (D : Df K mg "number_told" s_number_told) (T : Bt mg)   : Cal P w K mg base 1 "number_told" ["word"] (sp1 gNumT) := by
  have sc := sc_number_told
  refine cal_mk (k := 0) D sc (fun vs H Q E s => len1 s) (fun _ _ _ _ _ _ us hl => match us, hl with | [_], _ => rfl) (fun f cdv A outer st H vs Q E hr h => ⟨_, (pss_cons (ps_set (i := 1) sc.nd rfl (Or.inl rfl) (pe_m1 PySem.F.slot_str_removeprefix PySem.F.type_str_removeprefix mt_preK (pv 0) pe_str))
    (pss_cons (ps_if ((pw_or (pt_not (pt_chain op_le op_le pe_int (pe_callB (call_lenK K) (by rfl) T.b_len (by decide +kernel) (pa_cons (pv 1) pa_nil)) (pe_glob (v := .int 10) (by rfl) T.g_MOST_DIGITS.choose_spec ⟨_, rfl⟩))) (pw_or1 (pt_not (pt_val (pe_callB (cr_allK K rfl) (by rfl) T.b_all (by decide +kernel) (pa_cons (pe_lc (own := [("sign", 3)]) rfl sc.nd (pi_LTS K (pv 1)) (blkOk_by (by rfl)) (fun _ _ _ _ _ => (pg_name (i := 3) sc.nd rfl (Or.inl rfl))) (fun _ _ _ _ _ => pts_nil) (fun _ _ _ _ _ => (pe_cmpR (op_inK K (hu65 hr)) (pv 3) (pe_glob (v := .str "0123456789") (by rfl) T.g_DIGITS.choose_spec ⟨_, rfl⟩) (by rfl)))) pa_nil))))))).pt (pss_one (ps_ret pe_non)) pss_nil)
    (pss_cons (ps_set (i := 2) sc.nd rfl (Or.inl rfl) (pe_callTy call_intS (by rfl) T.b_int (by decide +kernel) (pa_cons (pv 0) pa_nil)))
    (pss_one (ps_ret (pe_ifExp (pt_cmpR (op_eqK K hr.units) (pe_callTy call_strA (by rfl) T.b_str (by decide +kernel) (pa_cons (pv 2) pa_nil)) (pv 0) (nomark _)) (pv 2) pe_non)))))), wp1 h ?_⟩)
  rintro _ _ ⟨w, rfl, hw, rfl⟩
  have hsz : w.length ≤ sizeLine := by rw [PySem.sizeLine_eq]; omega
  refine wp_seq ?_
  refine' wp_asg (ev_pre (ev_var rfl) ev_str hsz) ?_
  have eg : TL.tl (Txt.removeprefix w ("-" : Str)) = bare (TL.tl w) := tl_pre w _ (by decide +kernel)
  generalize Txt.removeprefix w ("-" : Str) = g at eg
  have lg : g.length = (bare (TL.tl w)).length := by rw [TL.len_tl, eg]
  have lb : (bare (TL.tl w)).length ≤ w.length := by
    rw [TL.len_tl]
    unfold bare
    split
    · rename_i e; rw [e]; simp
    · exact Nat.le_refl _
  have gsz : g.length ≤ sizeLine := by omega
  show WP _ [.val (.d (.str w)), .val (.d (.str g)), .non, .non] _
  refine wp_seq ?_
  refine' wp_if (et_or0 (a := !(decide ((1 : Int) ≤ (bare (TL.tl w)).length) && decide (((bare (TL.tl w)).length : Int) ≤ 10))) (b := !(bare (TL.tl w)).all isDig) (et_not (et_test ?c1)) (fun hc => et_not (et_test ?c2))) ?ht ?hf
  case c1 =>
    rw [← lg]
    exact ev_chain ev_int (ev_cb1 (ev_var rfl) (cd_lenS gsz)) (fun _ => ev_int) opd_le (fun _ => opd_le)
  case c2 =>
    have hl : (bare (TL.tl w)).length ≤ 10 := by
      cases q : (decide ((1 : Int) ≤ (bare (TL.tl w)).length) && decide (((bare (TL.tl w)).length : Int) ≤ 10)) with
      | false => rw [q] at hc; cases hc
      | true => have := of_decide_eq_true (Bool.and_eq_true_iff.mp q).2; omega
    have z := ev_all (K := K) (eo_lc1 (ρ := [.val (.d (.str w)), .val (.d (.str g)), .non, .non]) (vs := [3]) g.cps.toList (fun c => .d (.str ⟨#[c]⟩)) (fun c => .bool (decide (c ∈ digitL))) (fun c => [.d (.str ⟨#[c]⟩)]) (EI.c (ei_or2 (a := iOr (iList K (tVar 1)) (iTup K (tVar 1))) (ei_str (ev_var (i := 1) rfl)))) (is := [3]) (fun j h => h) ?hv (size4000 ?hl) (fun c _ => ⟨gt_name, ev_op (ev_var (i := 3) rfl) (ev_str (s := "0123456789")) (opd_sign (K := K))⟩))
    case hv => intro j hj l c h; simp only [List.mem_cons, List.not_mem_nil, or_false] at hj; subst hj; cases h
    case hl => show (TL.tl g).length ≤ 4000; rw [eg]; omega
    have e : (g.cps.toList.all fun c => decide (c ∈ digitL)) = (bare (TL.tl w)).all isDig := by
      show ((TL.tl g).all _) = _
      rw [eg]
      congr 1
      funext c
      exact digit_mem c
    rw [e] at z
    exact z
  case ht =>
    intro q
    refine' wp_ret ev_non ?_
    show _ = _
    have e : digOk w = false := by
      unfold digOk
      cases y1 : (decide ((1 : Int) ≤ (bare (TL.tl w)).length) && decide (((bare (TL.tl w)).length : Int) ≤ 10)) with
      | false => rfl
      | true => cases y2 : (bare (TL.tl w)).all isDig with
        | false => rfl
        | true => rw [y1, y2] at q; cases q
    unfold numD
    rw [if_neg (by rw [e]; decide)]
  case hf =>
    intro q
    have e : digOk w = true := by
      unfold digOk
      cases y1 : (decide ((1 : Int) ≤ (bare (TL.tl w)).length) && decide (((bare (TL.tl w)).length : Int) ≤ 10)) with
      | false => rw [y1] at q; cases q
      | true => cases y2 : (bare (TL.tl w)).all isDig with
        | false => rw [y1, y2] at q; cases q
        | true => rfl
    have e2 := e
    unfold digOk at e2
    simp only [Bool.and_eq_true, decide_eq_true_eq] at e2
    obtain ⟨⟨d1, d2⟩, d3⟩ := e2
    have d3 := isDig_all.mp d3
    have ne : bare (TL.tl w) ≠ [] := by intro z; rw [z] at d1; simp at d1
    have w11 : w.length ≤ 11 := by
      rw [TL.len_tl]
      have : (TL.tl w).length ≤ (bare (TL.tl w)).length + 1 := by
        unfold bare
        split
        · rename_i e; rw [e]; simp
        · exact Nat.le_succ _
      omega
    have sm := log_small (worth_small d3 (by omega))
    refine wp_next ?_
    show WP _ _ _
    refine wp_seq ?_
    refine' wp_asg (ev_cb1 (ev_var rfl) (cd_intS (int_reads d3 ne (by omega)) (by omega))) ?_
    show WP _ [.val (.d (.str w)), .val (.d (.str g)), .val (.d (.int (worthZ (TL.tl w)))), .non] _
    unfold numD
    rw [if_pos e]
    by_cases z : numS (worthZ (TL.tl w)) = w
    · rw [if_pos z]
      have t := et_b (ρ := [.val (.d (.str w)), .val (.d (.str g)), .val (.d (.int (worthZ (TL.tl w)))), .non]) (ev_op (ev_cb1 (ev_var (i := 2) rfl) (cd_strI sm)) (ev_var (i := 0) rfl) (opd_eq_str (K := K)))
      rw [decide_eq_true z] at t
      exact wp_ret (ev_if t (fun _ => ev_var rfl) (fun z => by cases z)) rfl
    · rw [if_neg z]
      have t := et_b (ρ := [.val (.d (.str w)), .val (.d (.str g)), .val (.d (.int (worthZ (TL.tl w)))), .non]) (ev_op (ev_cb1 (ev_var (i := 2) rfl) (cd_strI sm)) (ev_var (i := 0) rfl) (opd_eq_str (K := K)))
      rw [decide_eq_false z] at t
      exact wp_ret (ev_if t (fun z => by cases z) (fun _ => ev_non)) rfl
end

end Pv

set_option Elab.async false
set_option linter.all false
set_option maxRecDepth 100000
/-! PwTxt3: stars of lists, enumerate of a list, any, slices at places from 0. -/
namespace Pw
open PySem L2 TL PyProof.Rows
section
variable {ρ ρ1 ρ2 : List Slot} {ta tb : TE} {K : PySem.W.Frag}
theorem ev_joinT {a : Str} {ys : List Str} (h : EV ta ρ (.d (.str a)) ρ1) (h2 : EV tb ρ1 (.d (.tuple (ys.map PyData.str))) ρ2) (hl : (ys.map (·.length)).sum + ys.length * a.length ≤ 16777216) :
    EV (tM1 (rJoin K) ta tb) ρ (.d (.str (Str.join a ys))) ρ2 := fun e F σ H Q S k => h e F σ H _ S fun F1 H1 v f1 S1 r1 => by
  cases r1
  refine ⟨⟨a, rfl⟩, h2 e F1 σ H1 _ S1 fun F2 H2 w f2 S2 r2 => ?_⟩
  cases r2 with
  | tup e1 r =>
    rename_i p vs
    have ev := r.strs
    refine ⟨a, p, ys, rfl, rfl, .inr ?_, hl, ?_⟩
    · rw [← (show vs = ys.map V.str from ev)]; exact SqT.of (S2.sub.tup e1)
    · rw [join_eq]; exact k F2 H2 _ (f1.trans f2) S2 (Rp.str _)
theorem ea_starL {t : TA} {ds : List PyData} {ss : List Src} (h1 : EV ta ρ (.d (.list ds)) ρ1) (h2 : EA t ρ1 ss ρ2) : EA (StX.tStar K ta t) ρ ((ds.map fun d => Src.d (.d d)) ++ ss) ρ2 := fun e F σ H Q S k =>
  h1 e F σ H _ S fun F1 H1 v f1 S1 r1 => by
    cases r1 with
    | lst q r =>
      exact ⟨_, _, rfl, .inr (SqL.of (S1.sub.lst q)), h2 e F1 σ H1 _ S1 fun F2 H2 ws f2 S2 r2 => k F2 H2 _ (f1.trans f2) S2 (srcs_app (r.mono f2) r2)⟩
theorem cut_len {xs : List PyData} {a b : Nat} (h : a ≤ b) : (xs.drop (min a xs.length)).take (min b xs.length - min a xs.length) = (xs.drop a).take (b - a) := by
  by_cases ha : a ≤ xs.length
  · rw [Nat.min_eq_left ha]
    by_cases hb : b ≤ xs.length
    · rw [Nat.min_eq_left hb]
    · rw [Nat.min_eq_right (by omega), List.take_of_length_le (by rw [List.length_drop]; exact Nat.le_refl _), List.take_of_length_le (by rw [List.length_drop]; omega)]
  · rw [Nat.min_eq_right (a := a) (b := xs.length) (by omega), List.drop_length, List.drop_of_length_le (l := xs) (by omega)]
    simp
theorem cut_nat (xs : List PyData) {a b : Nat} (h : a ≤ b) : cutD xs (some (a : Int)) (some (b : Int)) = (xs.drop a).take (b - a) := by
  unfold cutD
  rw [HT.sIx_nat, HT.sIx_nat]
  exact cut_len h
theorem cut_nat0 (xs : List PyData) (a : Nat) : cutD xs (some (a : Int)) none = xs.drop a := by
  unfold cutD
  rw [HT.sIx_nat, HT.sIx_none]
  by_cases h : a ≤ xs.length
  · rw [Nat.min_eq_left h, List.take_of_length_le (by rw [List.length_drop]; exact Nat.le_refl _)]
  · rw [Nat.min_eq_right (by omega), List.drop_length, List.drop_of_length_le (l := xs) (by omega)]
    simp
theorem cut_natT (xs : List PyData) (b : Nat) : cutD xs none (some (b : Int)) = xs.take b := by
  unfold cutD
  rw [HT.sIx_nat, HT.sIx_none]
  show (xs.drop 0).take (min b xs.length - 0) = _
  rw [List.drop_zero, Nat.sub_zero]
  by_cases h : b ≤ xs.length
  · rw [Nat.min_eq_left h]
  · rw [Nat.min_eq_right (by omega), List.take_length, List.take_of_length_le (by omega)]
theorem cw_anyB {bs : List Bool} : CallW (rAny K) (.lst (bs.map PyData.bool)) (.bool (bs.any id)) := fun F H Q a o S hr ⟨vs, e, r⟩ k => by
  subst e
  have ev := r.bools
  exact ⟨a, bs, rfl, by rw [← (show vs = bs.map V.bl from ev)]; exact .inl hr, k F H _ (.rfl S) (.bl _)⟩
theorem ev_anyB {α : Type} {zs : List α} {p : α → Bool} (h : EO ta ρ (.lst (zs.map fun z => PyData.bool (p z))) ρ1) : EV (tCB (rAny K) (tCons ta tNil)) ρ (.d (.bool (zs.any p))) ρ1 := by
  have e : (zs.map fun z => PyData.bool (p z)) = (zs.map p).map PyData.bool := by rw [List.map_map]; rfl
  rw [e] at h
  have z := ev_cw h.w (cw_anyB (K := K) (bs := zs.map p))
  have q : (zs.map p).any id = zs.any p := by rw [List.any_map]; rfl
  rw [q] at z
  exact z
theorem si_enumL {F : Hp} {a : Addr} {vs : List V} {ds : List PyData} (e : F a = some (.lst vs)) (r : RpAll F vs ds) : SI (Ite K a) F C0 ((enumD ds).map .d) where
  go := fun F' H i f S c h => by
    rw [List.length_map, enumD, List.length_map, List.length_range] at h
    have hl : i < vs.length := by rw [r.length]; exact h
    exact ⟨vs, vs[i], SqL.of (S.lst (f _ _ e)), by simp [hl]⟩
  stop := fun F' H i f S c h => by
    rw [List.length_map, enumD, List.length_map, List.length_range] at h
    exact ⟨vs, SqL.of (S.lst (f _ _ e)), by rw [r.length]; exact h⟩
  yld := fun F' H i v H' f S c y h => by
    rw [List.length_map, enumD, List.length_map, List.length_range] at h
    obtain ⟨T, x, rfl, hT, rfl, y⟩ := y
    have hx := y vs (SqL.of (S.lst (f _ _ e)))
    obtain ⟨d, hd, rd⟩ := (r.mono f).get hx
    have A := Al.one (o := .tup [.int (i : Nat), x]) S hT
    refine ⟨_, .d (.tuple [.int (i : Nat), d]), A, ?_, Rp.tup upd_same (.cons (.int _) (.cons (rd.mono A.f) .nil))⟩
    rw [List.getElem?_map, enumD, List.getElem?_map, List.getElem?_range h]
    simp [List.getD_eq_getElem?_getD, hd]
theorem ei_enumL {ds : List PyData} (h : EV ta ρ (.d (.list ds)) ρ1) : EI (iEnum K (tCons ta tNil)) ρ ((enumD ds).map .d) ρ1 := fun e F σ H R S k => h e F σ H _ S fun F' H' v f S' r => by
  cases r with
  | lst q r => exact ⟨_, _, rfl, SqL.of (S'.sub.lst q), k F' H' _ f S' (si_enumL q r)⟩
theorem pi_enumK {X : Cx} {e : Expr} {ta : TA} {p pos tpos : Pos} {elts : List Expr} {kk : Nat} (K : PySem.W.Frag) (hg : Gl X "enumerate") (hm : X.mg "enumerate" = none) (ha : PA X [e] ta) (h : X.K = K := by rfl)
    (hs : starEach [e] X.env = [(false, eval e X.env)] := by rfl) : PI X (.Tuple elts kk tpos) (.Call (.Name "enumerate" p) [e] [] pos) (iEnum K ta) := by
  subst h; exact pi_enum hg hm ha hs
end
end Pw

set_option Elab.async false
set_option linter.all false
set_option maxRecDepth 100000
set_option maxHeartbeats 4000000
open PySem L2 Pw Hd
namespace Pv

section
variable {P : Program} {w : World} {K : PySem.W.Frag} {mg : Str → Option Value} {base : Heap}
theorem sc_row_told : FnScope [("words" : Str), ("numbers" : Str), ("corners" : Str), ("word" : Str), ("at" : Str)] [("words" : Str)] (defScope s_row_told) := ⟨rfl, rfl, rfl, by decide +kernel, rfl, by decide +kernel, by decide +kernel⟩
theorem c_row_told  (D : Df K mg "row_told" s_row_told) (T : Bt mg)  (c_number_told : Cal P w K mg base 1 "number_told" ["word"] (sp1 gNumT)) : Cal P w K mg base 2 "row_told" ["words"] (sp1 gRowT) := by
  have sc := sc_row_told
  refine cal_mk (k := 1) D sc (fun vs H Q E s => len1 s) (fun _ _ _ _ _ _ us hl => match us, hl with | [_], _ => rfl) (fun f cdv A outer st H vs Q E hr h => ⟨_, (pss_cons (ps_if (pt_cmpR (op_neK K hr.units) (pe_ix (ix_K K) (pv 0) pe_int (fun _ _ => rfl)) pe_str (nomark _)) (pss_one (ps_ret (pe_tup (pa_starK K (pe_slice (sl_K K) (pv 0) (po_some pe_int) (po_some pe_int)) (pa_starK K (pe_lc (own := [("word", 3)]) rfl sc.nd (pi_LT K (pe_slice (sl_K K) (pv 0) (po_some pe_int) po_none)) (blkOk_by (by rfl)) (fun _ _ _ _ _ => (pg_name (i := 3) sc.nd rfl (Or.inl rfl))) (fun _ _ _ _ _ => pts_nil) (fun _ _ _ _ _ => (pe_cal c_number_told hr (by decide) (by rfl) (pa_cons (pv 3) pa_nil)))) pa_nil))))) pss_nil)
    (pss_cons (ps_set (i := 1) sc.nd rfl (Or.inr rfl) (pe_lc (own := [("word", 3)]) rfl sc.nd (pi_LT K (pe_slice (sl_K K) (pv 0) (po_some pe_int) po_none)) (blkOk_by (by rfl)) (fun _ _ _ _ _ => (pg_name (i := 3) sc.nd rfl (Or.inl rfl))) (fun _ _ _ _ _ => pts_nil) (fun _ _ _ _ _ => (pe_cal c_number_told hr (by decide) (by rfl) (pa_cons (pv 3) pa_nil)))))
    (pss_cons (ps_setLc (i := 2) (own := [("at", 4)]) rfl sc.nd rfl rfl (sw_true rfl rfl rfl (by decide +kernel)) (pi_range3 (by rfl) T.b_range (pa_cons pe_int (pa_cons (pe_callB (call_lenK K) (by rfl) T.b_len (by decide +kernel) (pa_cons (pv 1) pa_nil)) (pa_cons pe_int pa_nil)))) (blkOk_by (by rfl)) (fun _ _ _ _ _ => (pg_name (i := 4) sc.nd rfl (Or.inl rfl))) (fun _ _ _ _ _ => pts_nil) (fun _ _ _ _ _ => (pe_callTy (call_tupK K) (by rfl) T.b_tuple (by decide +kernel) (pa_cons (pe_slice (sl_K K) (pv 1) (po_some (pv 4)) (po_some (pe_op (op_plusK K) (pv 4) pe_int))) pa_nil))))
    (pss_one (ps_ret (pe_tup (pa_starK K (pe_slice (sl_K K) (pv 0) (po_some pe_int) (po_some pe_int)) (pa_cons (pe_callTy (call_tupK K) (by rfl) T.b_tuple (by decide +kernel) (pa_cons (pv 2) pa_nil)) pa_nil)))))))), wp1 h ?_⟩)
  rintro _ _ ⟨ws, rfl, ⟨hne, hlen, hw⟩, rfl⟩
  obtain ⟨w0, r, rfl⟩ : ∃ w0 r, ws = w0 :: r := by
    cases ws with
    | nil => exact absurd rfl hne
    | cons a b => exact ⟨a, b, rfl⟩
  have sz : ∀ n : Nat, n ≤ 100000 → n < sizeLine := fun n h => by rw [PySem.sizeLine_eq]; omega
  have e0 : (w0 :: r).getD 0 Str.empty = w0 := rfl
  have nums : ∀ (k : Nat) (ρ : List Slot) (ta : TE) (j : Nat), ρ.length = 5 → j = 3 → EV ta ρ (.d (.list (((w0 :: r).drop k).map PyData.str))) ρ → (∀ l c, ρ[3]? ≠ some (.own l c)) →
      EO (tLc (iOr (iList K ta) (iTup K ta)) (L2.gName 3) tYes (tCall (sp1 gNumT) [] E (tCons (tVar 3) tNil)) [3]) ρ (.lst (((w0 :: r).drop k).map numD)) ρ := by
    intro k ρ ta j hl hj h hno
    have src := ei_or1 (b := iTup K ta) (ei_list (K := K) h)
    rw [List.map_map] at src
    refine' eo_lc1 (vs := [3]) ((w0 :: r).drop k) (fun w => .d (.str w)) numD (fun w => [.d (.str w)]) (EI.c src) (is := [3]) (fun j h => h) (fun j hj l c => ?_) (sz _ (by rw [List.length_drop]; simp only [List.length_cons] at hlen ⊢; omega)) (fun w hm => ⟨gt_name, ev_c1 (ev_var (i := 3) ?_) ⟨w, rfl, hw w (List.mem_of_mem_drop hm), rfl⟩⟩)
    · simp only [List.mem_cons, List.not_mem_nil, or_false] at hj; subst hj; exact hno l c
    · match ρ, hl with
      | [_, _, _, _, _], _ => rfl
  unfold rowD
  rw [e0]
  refine wp_seq ?_
  refine' wp_if (b := !decide (w0 = ("line" : Str))) (et_test (ev_op (ev_op (ev_var rfl) ev_int opd_ix0L) ev_str opd_ne_str)) ?ht ?hf
  case ht =>
    intro q
    have q : ¬ w0 = ("line" : Str) := by simpa using q
    rw [if_neg q]
    have s1 := eo_slL (K := K) (ρ := [.val (.d (.list ((w0 :: r).map PyData.str))), .non, .non, .non, .non]) (ev_var (i := 0) rfl) (eo_some (ev_int (i := 1))) (eo_some (ev_int (i := 2)))
    rw [show (1 : Int) = ((1 : Nat) : Int) from rfl, show (2 : Int) = ((2 : Nat) : Int) from rfl, cut_nat _ (by decide), ← List.map_drop, ← List.map_take] at s1
    have s2 := eo_slL (K := K) (ρ := [.val (.d (.list ((w0 :: r).map PyData.str))), .non, .non, .non, .non]) (ev_var (i := 0) rfl) (eo_some (ev_int (i := 2))) eo_none
    rw [show (2 : Int) = ((2 : Nat) : Int) from rfl, cut_nat0, ← List.map_drop] at s2
    have z := ea_starL (K := K) s1.vl (ea_starL (K := K) (EO.vl (nums 2 _ _ 3 rfl rfl s2.vl (fun l c h => by cases h))) ea_nil)
    rw [List.append_nil, ← List.map_append] at z
    exact wp_ret (ev_tup z (Nat.le_of_lt (sz _ (by simp only [List.length_append, List.length_map, List.length_take, List.length_drop, List.length_cons] at hlen ⊢; omega)))) rfl
  case hf =>
    intro q
    have q : w0 = ("line" : Str) := by simpa using q
    rw [if_pos q]
    refine wp_next ?_
    show WP _ _ _
    have s2 := eo_slL (K := K) (ρ := [.val (.d (.list ((w0 :: r).map PyData.str))), .non, .non, .non, .non]) (ev_var (i := 0) rfl) (eo_some (ev_int (i := 4))) eo_none
    rw [show (4 : Int) = ((4 : Nat) : Int) from rfl, cut_nat0, ← List.map_drop] at s2
    refine wp_seq ?_
    refine' wp_asg (EO.vl (nums 4 _ _ 3 rfl rfl s2.vl (fun l c h => by cases h))) ?_
    have nl : (((w0 :: r).drop 4).map numD).length ≤ 70000 := by rw [List.length_map, List.length_drop]; omega
    generalize ((w0 :: r).drop 4).map numD = N at nl
    show WP _ [.val (.d (.list ((w0 :: r).map PyData.str))), .val (.d (.list N)), .non, .non, .non] _
    refine wp_seq ?_
    have src := ei_or1 (b := iTup K (tVar 1)) (ei_list (K := K) (ρ := [.val (.d (.list ((w0 :: r).map PyData.str))), .val (.d (.list N)), .non, .non, .non]) (ev_var (i := 1) rfl))
    refine' wp_asg (x := .d (.list (pairsD N))) (EO.vl ?cs) ?_
    case cs =>
      rw [← pairs_eq N]
      have r3 := ei_range3 (j := (N.length : Int)) (ρ := [.val (.d (.list ((w0 :: r).map PyData.str))), .val (.d (.list N)), .non, .non, .non]) (ea_cons (ev_int (i := 0)) (ea_cons (ev_cb1 (ev_var (i := 1) rfl) (cd_lenL (K := K))) (ea_cons (ev_int (i := 2)) ea_nil))) (by omega) (by omega)
      rw [show (((N.length : Int) + 1) / 2).toNat = (N.length + 1) / 2 by omega] at r3
      refine' eo_lc1 (vs := [4]) (List.range ((N.length + 1) / 2)) (fun k : Nat => .d (.int (0 + (k : Int) * 2))) (fun k => PyData.tuple ((N.drop (2 * k)).take 2)) (fun k : Nat => [.d (.int (0 + (k : Int) * 2))]) (EI.c r3) (is := [4]) (fun j h => h) (fun j hj l c h => ?_) (sz _ (by rw [List.length_range]; omega)) (fun k hk => ⟨gt_name, ?_⟩)
      · simp only [List.mem_cons, List.not_mem_nil, or_false] at hj; subst hj; cases h
      · have e : (N.drop (2 * k)).take 2 = cutD N (some (0 + (k : Int) * 2)) (some (0 + (k : Int) * 2 + 2)) := by
          rw [show (0 + (k : Int) * 2) = ((2 * k : Nat) : Int) by omega, show ((2 * k : Nat) : Int) + 2 = ((2 * k + 2 : Nat) : Int) by omega, cut_nat _ (by omega), show 2 * k + 2 - 2 * k = 2 by omega]
        rw [e]
        exact ev_tupOf (eo_slL (ev_var (i := 1) rfl) (eo_some (ev_var (i := 4) rfl)) (eo_some (ev_op (ev_var (i := 4) rfl) ev_int opd_add)))
    show WP _ [.val (.d (.list ((w0 :: r).map PyData.str))), .val (.d (.list N)), .val (.d (.list (pairsD N))), .non, .non] _
    have s1 := eo_slL (K := K) (ρ := [.val (.d (.list ((w0 :: r).map PyData.str))), .val (.d (.list N)), .val (.d (.list (pairsD N))), .non, .non]) (ev_var (i := 0) rfl) (eo_some (ev_int (i := 1))) (eo_some (ev_int (i := 4)))
    rw [show (1 : Int) = ((1 : Nat) : Int) from rfl, show (4 : Int) = ((4 : Nat) : Int) from rfl, cut_nat _ (by decide), ← List.map_drop, ← List.map_take] at s1
    have z := ea_starL (K := K) s1.vl (ea_cons (x := .d (.tuple (pairsD N))) (ev_cw (EV.wl (ev_var (i := 2) rfl)) (cw_tuple (K := K))) ea_nil)
    have e : ((((w0 :: r).drop 1).take 3).map PyData.str).map (fun d => Src.d (.d d)) ++ [Src.d (.d (PyData.tuple (pairsD N)))] = ((((w0 :: r).drop 1).take 3).map PyData.str ++ [PyData.tuple (pairsD N)]).map fun d => Src.d (.d d) := by rw [List.map_append]; rfl
    rw [e] at z
    exact wp_ret (ev_tup z (Nat.le_of_lt (sz _ (by simp only [List.length_append, List.length_map, List.length_take, List.length_drop, List.length_cons, List.length_nil] at hlen ⊢; omega)))) rfl
end

end Pv

set_option Elab.async false
set_option linter.all false
set_option maxRecDepth 100000
/-! PwParse2: kinds; maps handed in as lists or tuples, seen as rows of words. -/
namespace Pv
open PySem L2 Pw TL PySem.NumText
theorem kind_none {z : Str} (h : z ∉ kindsS) : kindAt z = none := by
  simp only [kindsS, List.mem_cons, List.not_mem_nil, or_false, not_or] at h
  unfold kindAt
  rw [if_neg h.1, if_neg h.2.1, if_neg h.2.2]
theorem kind_in {z : Str} (h : z ∈ kindsS) : z = ("node" : Str) ∨ z = ("line" : Str) ∨ z = ("mark" : Str) := by
  simpa only [kindsS, List.mem_cons, List.not_mem_nil, or_false] using h
theorem kind_node : kindAt ("node" : Str) = some 0 := by decide +kernel
theorem kind_line : kindAt ("line" : Str) = some 1 := by decide +kernel
theorem kind_mark : kindAt ("mark" : Str) = some 2 := by decide +kernel
theorem later0 (B C : List PyData) : ([B, C].any fun z => decide ((0 : Int) < z.length)) = laterB B C 0 := by
  cases B <;> cases C <;> simp [laterB] <;> omega
theorem later1 (B C : List PyData) : ([C].any fun z => decide ((0 : Int) < z.length)) = laterB B C 1 := by
  cases C <;> simp [laterB] <;> omega
/-! ### maps as they are handed in -/
theorem tup_inv {v : PyData} {es : List PyData} (h : tupZ v = .tuple es) : ∃ ds, seqOf v = some ds ∧ ds.map tupZ = es := by
  cases v <;> simp [tupZ, tups_map] at h <;> exact ⟨_, rfl, h⟩
theorem tupStr_inv {v : PyData} {s : Str} (h : tupZ v = .str s) : v = .str s := by
  cases v <;> simp [tupZ] at h; rw [h]
theorem tupInt_inv {v : PyData} {i : Int} (h : tupZ v = .int i) : v = .int i := by
  cases v <;> simp [tupZ] at h; rw [h]
def strD : PyData → PyData
  | .int i => .str (numS i)
  | d => d
def nodeW (n : Nd) : List Str := [("node" : Str), n.name, numS n.p.1, numS n.p.2]
def lineW (l : Ln) : List Str := ("line" : Str) :: l.name :: l.s :: l.e :: l.cs.flatMap fun p => [numS p.1, numS p.2]
def markW (k : Mk) : List Str := [("mark" : Str), k.name, numS k.p.1, numS k.p.2, numS k.wide, numS k.high]
def rowsOf (m : Mp) : List (List Str) := m.nodes.map nodeW ++ (m.lines.map lineW ++ m.marks.map markW)
def flatD (l : Ln) : PyData := .tuple ([PyData.str l.name, .str l.s, .str l.e] ++ l.cs.flatMap fun p => [PyData.int p.1, .int p.2])
theorem nd_view {d : PyData} {n : Nd} (h : tupZ d = ndD n) : seqOf d = some [.str n.name, .int n.p.1, .int n.p.2] := by
  obtain ⟨ds, h1, h2⟩ := tup_inv h
  match ds, h2 with
  | [a, b, c], h2 =>
    simp only [List.map_cons, List.map_nil, List.cons.injEq, and_true] at h2
    rw [h1, tupStr_inv h2.1, tupInt_inv h2.2.1, tupInt_inv h2.2.2]
  | [], h2 => simp at h2
  | [_], h2 => simp at h2
  | [_, _], h2 => simp at h2
  | _ :: _ :: _ :: _ :: _, h2 => simp at h2
theorem pt_view {d : PyData} {p : Pt} (h : tupZ d = ptD p) : seqOf d = some [.int p.1, .int p.2] := by
  obtain ⟨ds, h1, h2⟩ := tup_inv h
  match ds, h2 with
  | [a, b], h2 =>
    simp only [List.map_cons, List.map_nil, List.cons.injEq, and_true] at h2
    rw [h1, tupInt_inv h2.1, tupInt_inv h2.2]
  | [], h2 => simp at h2
  | [_], h2 => simp at h2
  | _ :: _ :: _ :: _, h2 => simp at h2
theorem mk_view {d : PyData} {k : Mk} (h : tupZ d = mkD k) : seqOf d = some [.str k.name, .int k.p.1, .int k.p.2, .int k.wide, .int k.high] := by
  obtain ⟨ds, h1, h2⟩ := tup_inv h
  match ds, h2 with
  | [a, b, c, d, e], h2 =>
    simp only [List.map_cons, List.map_nil, List.cons.injEq, and_true] at h2
    rw [h1, tupStr_inv h2.1, tupInt_inv h2.2.1, tupInt_inv h2.2.2.1, tupInt_inv h2.2.2.2.1, tupInt_inv h2.2.2.2.2]
  | [], h2 => simp at h2
  | [_], h2 => simp at h2
  | [_, _], h2 => simp at h2
  | [_, _, _], h2 => simp at h2
  | [_, _, _, _], h2 => simp at h2
  | _ :: _ :: _ :: _ :: _ :: _ :: _, h2 => simp at h2
theorem ln_view {d : PyData} {l : Ln} (h : tupZ d = lnD l) : ∃ c cs, seqOf d = some [.str l.name, .str l.s, .str l.e, c] ∧ seqOf c = some cs ∧ cs.map tupZ = l.cs.map ptD := by
  obtain ⟨ds, h1, h2⟩ := tup_inv h
  match ds, h2 with
  | [a, b, c, d], h2 =>
    simp only [List.map_cons, List.map_nil, List.cons.injEq, and_true] at h2
    obtain ⟨cs, h3, h4⟩ := tup_inv h2.2.2.2
    exact ⟨d, cs, by rw [h1, tupStr_inv h2.1, tupStr_inv h2.2.1, tupStr_inv h2.2.2.1], h3, h4⟩
  | [], h2 => simp at h2
  | [_], h2 => simp at h2
  | [_, _], h2 => simp at h2
  | [_, _, _], h2 => simp at h2
  | _ :: _ :: _ :: _ :: _ :: _, h2 => simp at h2
theorem map_at {α : Type} {f : α → PyData} : ∀ {ds : List PyData} {ns : List α}, ds.map tupZ = ns.map f → ∀ d ∈ ds, ∃ n ∈ ns, tupZ d = f n
  | [], _, _, d, hd => by simp at hd
  | a :: ds, [], h, _, _ => by simp at h
  | a :: ds, n :: ns, h, d, hd => by
    simp only [List.map_cons, List.cons.injEq] at h
    rcases List.mem_cons.mp hd with rfl | hd
    · exact ⟨n, List.mem_cons_self .., h.1⟩
    · obtain ⟨m, hm, e⟩ := map_at h.2 d hd
      exact ⟨m, List.mem_cons_of_mem _ hm, e⟩
/-- the parts of each row, one by one -/
theorem map_rows {α : Type} {f : α → PyData} {F : PyData → PyData} {G : α → PyData} (hf : ∀ d n, tupZ d = f n → F d = G n) : ∀ {ds : List PyData} {ns : List α}, ds.map tupZ = ns.map f → ds.map F = ns.map G
  | [], [], _ => rfl
  | [], n :: ns, h => by simp at h
  | a :: ds, [], h => by simp at h
  | a :: ds, n :: ns, h => by
    simp only [List.map_cons, List.cons.injEq] at h
    rw [List.map_cons, List.map_cons, hf a n h.1, map_rows hf h.2]
theorem flat_parts : ∀ {cs : List PyData} {ps : List Pt}, cs.map tupZ = ps.map ptD → (cs.flatMap fun c => partsD c) = ps.flatMap fun p => [PyData.int p.1, .int p.2]
  | [], [], _ => rfl
  | [], _ :: _, h => by simp at h
  | _ :: _, [], h => by simp at h
  | c :: cs, p :: ps, h => by
    simp only [List.map_cons, List.cons.injEq] at h
    rw [List.flatMap_cons, List.flatMap_cons, flat_parts h.2, partsD, pt_view h.1]
    rfl
end Pv

set_option Elab.async false
set_option linter.all false
set_option maxRecDepth 100000
set_option maxHeartbeats 4000000
open PySem L2 Pw Hd
namespace Pv

section
variable {P : Program} {w : World} {K : PySem.W.Frag} {mg : Str → Option Value} {base : Heap}
theorem sc_with_words : FnScope [("world" : Str), ("words" : Str), ("at" : Str), ("longer" : Str), ("rows" : Str)] [("world" : Str), ("words" : Str)] (defScope s_with_words) := ⟨rfl, rfl, rfl, by decide +kernel, rfl, by decide +kernel, by decide +kernel⟩
theorem c_with_words  (D : Df K mg "with_words" s_with_words) (T : Bt mg) (Y : Et P w K mg base) (c_is_map : Cal P w K mg base 5 "is_map" ["value"] (sp1 gMap)) (c_row_told : Cal P w K mg base 2 "row_told" ["words"] (sp1 gRowT)) : Cal P w K mg base 6 "with_words" ["world", "words"] (sp2 gWithW) := by
  have sc := sc_with_words
  refine cal_mk (k := 5) D sc (fun vs H Q E s => len2 s) (fun _ _ _ _ _ _ us hl => match us, hl with | [_, _], _ => rfl) (fun f cdv A outer st H vs Q E hr h => ⟨_, (pss_cons (ps_if (pt_cmpR (op_notInK K (hu65 hr)) (pe_ix (ix_K K) (pv 1) pe_int (fun _ _ => rfl)) (pe_glob (v := .ref (He.ga K "KINDS")) (by rfl) Y.t_KINDS.m rfl) (by rfl)) (pss_one (ps_ret pe_non)) pss_nil)
    (pss_cons (ps_set (i := 2) sc.nd rfl (Or.inl rfl) (pe_bmK K PySem.F.plainAttrs_tuple PySem.F.slot_tuple_index PySem.F.type_tuple_index (mt_tupIxK K) (pe_glob (v := .ref (He.ga K "KINDS")) (by rfl) Y.t_KINDS.m rfl) (pa_cons (pe_ix (ix_K K) (pv 1) pe_int (fun _ _ => rfl)) pa_nil)))
    (pss_cons (ps_if (pt_val (pe_callB (cr_anyK K rfl) (by rfl) T.b_any (by decide +kernel) (pa_cons (pe_lc (own := [("rows", 4)]) rfl sc.nd (pi_LT K (pe_slice (sl_K K) (pv 0) (po_some (pe_op (op_plusK K) (pv 2) pe_int)) po_none)) (blkOk_by (by rfl)) (fun _ _ _ _ _ => (pg_name (i := 4) sc.nd rfl (Or.inl rfl))) (fun _ _ _ _ _ => pts_nil) (fun _ _ _ _ _ => (pe_cmpR op_gt (pe_callB (call_lenK K) (by rfl) T.b_len (by decide +kernel) (pa_cons (pv 4) pa_nil)) pe_int (nomark _)))) pa_nil))) (pss_one (ps_ret pe_non)) pss_nil)
    (pss_cons (ps_set (i := 3) sc.nd rfl (Or.inl rfl) (pe_tup (pa_starK K (pe_slice (sl_K K) (pv 0) po_none (po_some (pv 2))) (pa_cons (pe_tup (pa_starK K (pe_ix (ix_K K) (pv 0) (pv 2) (fun _ _ => rfl)) (pa_cons (pe_cal c_row_told hr (by decide) (by rfl) (pa_cons (pv 1) pa_nil)) pa_nil))) (pa_starK K (pe_slice (sl_K K) (pv 0) (po_some (pe_op (op_plusK K) (pv 2) pe_int)) po_none) pa_nil)))))
    (pss_one (ps_ret (pe_ifExp (pt_val (pe_cal c_is_map hr (by decide) (by rfl) (pa_cons (pv 3) pa_nil))) (pv 3) pe_non))))))), wp2 h ?_⟩)
  rintro _ _ _ ⟨A, B, C, ws, rfl, rfl, ok, la, lb, lc, nice, rfl⟩
  obtain ⟨w0, r, rfl⟩ : ∃ w0 r, ws = w0 :: r := by
    cases ws with
    | nil => exact absurd rfl ok.1
    | cons a b => exact ⟨a, b, rfl⟩
  have e0 : (w0 :: r).getD 0 Str.empty = w0 := rfl
  unfold withD
  rw [e0] at nice ⊢
  refine wp_seq ?_
  refine' wp_if (b := !decide (w0 ∈ kindsS)) (et_test (ev_notInKT Y.t_KINDS (ev_op (ev_var rfl) ev_int opd_ix0L))) (fun q => wp_ret ev_non ?_) (fun q => wp_next ?_)
  · have q : w0 ∉ kindsS := by simpa using q
    rw [kind_none q]
    rfl
  have q : w0 ∈ kindsS := by simpa using q
  show WP _ [.val (.d (triD A B C)), .val (.d (.list ((w0 :: r).map PyData.str))), .non, .non, .non] _
  refine wp_seq ?_
  rcases kind_in q with hw0 | hw0 | hw0
  · have ek : kindAt w0 = some 0 := by rw [hw0]; exact kind_node
    have nz := nice 0 ek
    rw [ek]
    refine' wp_asg (ev_indexKT Y.t_KINDS (j := 0) (ev_op (ev_var rfl) ev_int opd_ix0L) (by rw [hw0]; rfl) (fun m hm => ?_)) ?_
    · rw [hw0]
      omega
    show WP _ [.val (.d (triD A B C)), .val (.d (.list ((w0 :: r).map PyData.str))), .val (.d (.int (0 : Nat))), .non, .non] _
    have tl3 : EV (tSl (rSlU K) (tVar 0) (tPart (tOp (rPlus K) (tVar 2) (tC (.int 1)))) tNoPart) [.val (.d (triD A B C)), .val (.d (.list ((w0 :: r).map PyData.str))), .val (.d (.int (0 : Nat))), .non, .non] (.d (.tuple (([.tuple A, .tuple B, .tuple C] : List PyData).drop 1))) [.val (.d (triD A B C)), .val (.d (.list ((w0 :: r).map PyData.str))), .val (.d (.int (0 : Nat))), .non, .non] := by
      have z := ev_slT (K := K) (ρ := [.val (.d (triD A B C)), .val (.d (.list ((w0 :: r).map PyData.str))), .val (.d (.int (0 : Nat))), .non, .non]) (ds := [.tuple A, .tuple B, .tuple C]) (ev_var (i := 0) rfl) (eo_some (ev_op (ev_var (i := 2) rfl) (ev_int (i := 1)) (opd_add (K := K)))) eo_none
      rw [show (((0 : Nat) : Int) + 1) = ((1 : Nat) : Int) from rfl, cut_nat0] at z
      exact z
    refine wp_seq ?_
    refine' wp_if (b := laterB B C 0) (et_test ?an) (fun q => wp_ret ev_non ?_) (fun q => wp_next ?_)
    case an =>
      rw [← later0 B C]
      refine' ev_anyB (eo_lc1 (ρ := [.val (.d (triD A B C)), .val (.d (.list ((w0 :: r).map PyData.str))), .val (.d (.int (0 : Nat))), .non, .non]) (vs := [4]) [B, C] (fun z => .d (.tuple z)) (fun z => .bool (decide ((0 : Int) < z.length))) (fun z => [.d (.tuple z)]) (EI.c (ei_or2 (a := iList K _) (ei_tup (K := K) tl3))) (is := [4]) (fun j h => h) (fun j hj l c h => ?_) (by show (2 : Nat) < sizeLine; rw [PySem.sizeLine_eq]; decide) (fun z hz => ⟨gt_name, ev_op (ev_cb1 (ev_var (i := 4) rfl) cd_lenT) ev_int opd_gt⟩))
      simp only [List.mem_cons, List.not_mem_nil, or_false] at hj; subst hj; cases h
    · show _ = _
      show Val.d _ = Val.d (if laterB B C 0 = true then _ else _)
      rw [if_pos q]
    show WP _ [.val (.d (triD A B C)), .val (.d (.list ((w0 :: r).map PyData.str))), .val (.d (.int (0 : Nat))), .non, .non] _
    have hl : laterB B C 0 = false := q
    have hd : EV (tSl (rSlU K) (tVar 0) tNoPart (tPart (tVar 2))) [.val (.d (triD A B C)), .val (.d (.list ((w0 :: r).map PyData.str))), .val (.d (.int (0 : Nat))), .non, .non] (.d (.tuple (([.tuple A, .tuple B, .tuple C] : List PyData).take 0))) [.val (.d (triD A B C)), .val (.d (.list ((w0 :: r).map PyData.str))), .val (.d (.int (0 : Nat))), .non, .non] := by
      have z := ev_slT (K := K) (ρ := [.val (.d (triD A B C)), .val (.d (.list ((w0 :: r).map PyData.str))), .val (.d (.int (0 : Nat))), .non, .non]) (ds := [.tuple A, .tuple B, .tuple C]) (ev_var (i := 0) rfl) eo_none (eo_some (ev_var (i := 2) rfl))
      rw [cut_natT] at z
      exact z
    have md := ev_tup (ρ := [.val (.d (triD A B C)), .val (.d (.list ((w0 :: r).map PyData.str))), .val (.d (.int (0 : Nat))), .non, .non]) (ds := A ++ [rowD (w0 :: r)]) (by
      have z := ea_star (K := K) (ev_op (ρ := [.val (.d (triD A B C)), .val (.d (.list ((w0 :: r).map PyData.str))), .val (.d (.int (0 : Nat))), .non, .non]) (ev_var (i := 0) rfl) (ev_var (i := 2) rfl) (opd_ixT (K := K) (ds := [.tuple A, .tuple B, .tuple C]) (i := (0 : Nat)) (d := .tuple A) (Pw.atI_nat rfl))) (ea_cons (x := .d (rowD (w0 :: r))) (ev_c1 (E := E) (f := gRowT) (ev_var (i := 1) rfl) ⟨w0 :: r, rfl, ok, rfl⟩) ea_nil)
      rw [List.map_append]
      exact z) (by rw [PySem.sizeLine_eq, List.length_append, List.length_singleton]; omega)
    refine wp_seq ?_
    refine' wp_asg (x := .d (triD (A ++ [rowD (w0 :: r)]) B C)) (ev_tup (ds := [.tuple (A ++ [rowD (w0 :: r)]), .tuple (B), .tuple (C)]) ?ea (show 3 ≤ sizeLine by decide)) ?_
    case ea =>
      have z := ea_star (K := K) hd (ea_cons md (ea_star (K := K) tl3 ea_nil))
      rw [List.append_nil] at z
      exact z
    show WP _ [.val (.d (triD A B C)), .val (.d (.list ((w0 :: r).map PyData.str))), .val (.d (.int (0 : Nat))), .val (.d (triD (A ++ [rowD (w0 :: r)]) B C)), .non] _
    have t := et_test (ρ := [.val (.d (triD A B C)), .val (.d (.list ((w0 :: r).map PyData.str))), .val (.d (.int (0 : Nat))), .val (.d (triD (A ++ [rowD (w0 :: r)]) B C)), .non]) (ev_c1 (E := E) (f := gMap) (ev_var (i := 3) rfl) ⟨nz, rfl⟩)
    show WP _ _ (GoodP (if laterB B C 0 = true then _ else if mapZ (triD (A ++ [rowD (w0 :: r)]) B C) = true then (triD (A ++ [rowD (w0 :: r)]) B C) else .none))
    rw [if_neg (by rw [hl]; decide)]
    by_cases z : mapZ (triD (A ++ [rowD (w0 :: r)]) B C) = true
    · rw [if_pos z]
      have z' : mapZ (triD (A ++ [rowD (w0 :: r)]) B C) = true := z
      rw [z'] at t
      exact wp_ret (ev_if t (fun _ => ev_var rfl) (fun z => by cases z)) rfl
    · rw [if_neg z]
      have z' : mapZ (triD (A ++ [rowD (w0 :: r)]) B C) = false := by simpa using z
      rw [z'] at t
      exact wp_ret (ev_if t (fun z => by cases z) (fun _ => ev_non)) rfl
  · have ek : kindAt w0 = some 1 := by rw [hw0]; exact kind_line
    have nz := nice 1 ek
    rw [ek]
    refine' wp_asg (ev_indexKT Y.t_KINDS (j := 1) (ev_op (ev_var rfl) ev_int opd_ix0L) (by rw [hw0]; rfl) (fun m hm => ?_)) ?_
    · rw [hw0]
      match m, hm with
      | 0, _ => decide +kernel
    show WP _ [.val (.d (triD A B C)), .val (.d (.list ((w0 :: r).map PyData.str))), .val (.d (.int (1 : Nat))), .non, .non] _
    have tl3 : EV (tSl (rSlU K) (tVar 0) (tPart (tOp (rPlus K) (tVar 2) (tC (.int 1)))) tNoPart) [.val (.d (triD A B C)), .val (.d (.list ((w0 :: r).map PyData.str))), .val (.d (.int (1 : Nat))), .non, .non] (.d (.tuple (([.tuple A, .tuple B, .tuple C] : List PyData).drop 2))) [.val (.d (triD A B C)), .val (.d (.list ((w0 :: r).map PyData.str))), .val (.d (.int (1 : Nat))), .non, .non] := by
      have z := ev_slT (K := K) (ρ := [.val (.d (triD A B C)), .val (.d (.list ((w0 :: r).map PyData.str))), .val (.d (.int (1 : Nat))), .non, .non]) (ds := [.tuple A, .tuple B, .tuple C]) (ev_var (i := 0) rfl) (eo_some (ev_op (ev_var (i := 2) rfl) (ev_int (i := 1)) (opd_add (K := K)))) eo_none
      rw [show (((1 : Nat) : Int) + 1) = ((2 : Nat) : Int) from rfl, cut_nat0] at z
      exact z
    refine wp_seq ?_
    refine' wp_if (b := laterB B C 1) (et_test ?an) (fun q => wp_ret ev_non ?_) (fun q => wp_next ?_)
    case an =>
      rw [← later1 B C]
      refine' ev_anyB (eo_lc1 (ρ := [.val (.d (triD A B C)), .val (.d (.list ((w0 :: r).map PyData.str))), .val (.d (.int (1 : Nat))), .non, .non]) (vs := [4]) [C] (fun z => .d (.tuple z)) (fun z => .bool (decide ((0 : Int) < z.length))) (fun z => [.d (.tuple z)]) (EI.c (ei_or2 (a := iList K _) (ei_tup (K := K) tl3))) (is := [4]) (fun j h => h) (fun j hj l c h => ?_) (by show (1 : Nat) < sizeLine; rw [PySem.sizeLine_eq]; decide) (fun z hz => ⟨gt_name, ev_op (ev_cb1 (ev_var (i := 4) rfl) cd_lenT) ev_int opd_gt⟩))
      simp only [List.mem_cons, List.not_mem_nil, or_false] at hj; subst hj; cases h
    · show _ = _
      show Val.d _ = Val.d (if laterB B C 1 = true then _ else _)
      rw [if_pos q]
    show WP _ [.val (.d (triD A B C)), .val (.d (.list ((w0 :: r).map PyData.str))), .val (.d (.int (1 : Nat))), .non, .non] _
    have hl : laterB B C 1 = false := q
    have hd : EV (tSl (rSlU K) (tVar 0) tNoPart (tPart (tVar 2))) [.val (.d (triD A B C)), .val (.d (.list ((w0 :: r).map PyData.str))), .val (.d (.int (1 : Nat))), .non, .non] (.d (.tuple (([.tuple A, .tuple B, .tuple C] : List PyData).take 1))) [.val (.d (triD A B C)), .val (.d (.list ((w0 :: r).map PyData.str))), .val (.d (.int (1 : Nat))), .non, .non] := by
      have z := ev_slT (K := K) (ρ := [.val (.d (triD A B C)), .val (.d (.list ((w0 :: r).map PyData.str))), .val (.d (.int (1 : Nat))), .non, .non]) (ds := [.tuple A, .tuple B, .tuple C]) (ev_var (i := 0) rfl) eo_none (eo_some (ev_var (i := 2) rfl))
      rw [cut_natT] at z
      exact z
    have md := ev_tup (ρ := [.val (.d (triD A B C)), .val (.d (.list ((w0 :: r).map PyData.str))), .val (.d (.int (1 : Nat))), .non, .non]) (ds := B ++ [rowD (w0 :: r)]) (by
      have z := ea_star (K := K) (ev_op (ρ := [.val (.d (triD A B C)), .val (.d (.list ((w0 :: r).map PyData.str))), .val (.d (.int (1 : Nat))), .non, .non]) (ev_var (i := 0) rfl) (ev_var (i := 2) rfl) (opd_ixT (K := K) (ds := [.tuple A, .tuple B, .tuple C]) (i := (1 : Nat)) (d := .tuple B) (Pw.atI_nat rfl))) (ea_cons (x := .d (rowD (w0 :: r))) (ev_c1 (E := E) (f := gRowT) (ev_var (i := 1) rfl) ⟨w0 :: r, rfl, ok, rfl⟩) ea_nil)
      rw [List.map_append]
      exact z) (by rw [PySem.sizeLine_eq, List.length_append, List.length_singleton]; omega)
    refine wp_seq ?_
    refine' wp_asg (x := .d (triD A (B ++ [rowD (w0 :: r)]) C)) (ev_tup (ds := [.tuple (A), .tuple (B ++ [rowD (w0 :: r)]), .tuple (C)]) ?ea (show 3 ≤ sizeLine by decide)) ?_
    case ea =>
      have z := ea_star (K := K) hd (ea_cons md (ea_star (K := K) tl3 ea_nil))
      rw [List.append_nil] at z
      exact z
    show WP _ [.val (.d (triD A B C)), .val (.d (.list ((w0 :: r).map PyData.str))), .val (.d (.int (1 : Nat))), .val (.d (triD A (B ++ [rowD (w0 :: r)]) C)), .non] _
    have t := et_test (ρ := [.val (.d (triD A B C)), .val (.d (.list ((w0 :: r).map PyData.str))), .val (.d (.int (1 : Nat))), .val (.d (triD A (B ++ [rowD (w0 :: r)]) C)), .non]) (ev_c1 (E := E) (f := gMap) (ev_var (i := 3) rfl) ⟨nz, rfl⟩)
    show WP _ _ (GoodP (if laterB B C 1 = true then _ else if mapZ (triD A (B ++ [rowD (w0 :: r)]) C) = true then (triD A (B ++ [rowD (w0 :: r)]) C) else .none))
    rw [if_neg (by rw [hl]; decide)]
    by_cases z : mapZ (triD A (B ++ [rowD (w0 :: r)]) C) = true
    · rw [if_pos z]
      have z' : mapZ (triD A (B ++ [rowD (w0 :: r)]) C) = true := z
      rw [z'] at t
      exact wp_ret (ev_if t (fun _ => ev_var rfl) (fun z => by cases z)) rfl
    · rw [if_neg z]
      have z' : mapZ (triD A (B ++ [rowD (w0 :: r)]) C) = false := by simpa using z
      rw [z'] at t
      exact wp_ret (ev_if t (fun z => by cases z) (fun _ => ev_non)) rfl
  · have ek : kindAt w0 = some 2 := by rw [hw0]; exact kind_mark
    have nz := nice 2 ek
    rw [ek]
    refine' wp_asg (ev_indexKT Y.t_KINDS (j := 2) (ev_op (ev_var rfl) ev_int opd_ix0L) (by rw [hw0]; rfl) (fun m hm => ?_)) ?_
    · rw [hw0]
      match m, hm with
      | 0, _ => decide +kernel
      | 1, _ => decide +kernel
    show WP _ [.val (.d (triD A B C)), .val (.d (.list ((w0 :: r).map PyData.str))), .val (.d (.int (2 : Nat))), .non, .non] _
    have tl3 : EV (tSl (rSlU K) (tVar 0) (tPart (tOp (rPlus K) (tVar 2) (tC (.int 1)))) tNoPart) [.val (.d (triD A B C)), .val (.d (.list ((w0 :: r).map PyData.str))), .val (.d (.int (2 : Nat))), .non, .non] (.d (.tuple (([.tuple A, .tuple B, .tuple C] : List PyData).drop 3))) [.val (.d (triD A B C)), .val (.d (.list ((w0 :: r).map PyData.str))), .val (.d (.int (2 : Nat))), .non, .non] := by
      have z := ev_slT (K := K) (ρ := [.val (.d (triD A B C)), .val (.d (.list ((w0 :: r).map PyData.str))), .val (.d (.int (2 : Nat))), .non, .non]) (ds := [.tuple A, .tuple B, .tuple C]) (ev_var (i := 0) rfl) (eo_some (ev_op (ev_var (i := 2) rfl) (ev_int (i := 1)) (opd_add (K := K)))) eo_none
      rw [show (((2 : Nat) : Int) + 1) = ((3 : Nat) : Int) from rfl, cut_nat0] at z
      exact z
    refine wp_seq ?_
    refine' wp_if (b := laterB B C 2) (et_test ?an) (fun q => wp_ret ev_non ?_) (fun q => wp_next ?_)
    case an =>
      rw [← (show (([] : List (List PyData)).any fun z => decide ((0 : Int) < z.length)) = laterB B C 2 from rfl)]
      refine' ev_anyB (eo_lc1 (ρ := [.val (.d (triD A B C)), .val (.d (.list ((w0 :: r).map PyData.str))), .val (.d (.int (2 : Nat))), .non, .non]) (vs := [4]) ([] : List (List PyData)) (fun z => .d (.tuple z)) (fun z => .bool (decide ((0 : Int) < z.length))) (fun z => [.d (.tuple z)]) (EI.c (ei_or2 (a := iList K _) (ei_tup (K := K) tl3))) (is := [4]) (fun j h => h) (fun j hj l c h => ?_) (by show (0 : Nat) < sizeLine; rw [PySem.sizeLine_eq]; decide) (fun z hz => ⟨gt_name, ev_op (ev_cb1 (ev_var (i := 4) rfl) cd_lenT) ev_int opd_gt⟩))
      simp only [List.mem_cons, List.not_mem_nil, or_false] at hj; subst hj; cases h
    · show _ = _
      show Val.d _ = Val.d (if laterB B C 2 = true then _ else _)
      rw [if_pos q]
    show WP _ [.val (.d (triD A B C)), .val (.d (.list ((w0 :: r).map PyData.str))), .val (.d (.int (2 : Nat))), .non, .non] _
    have hl : laterB B C 2 = false := q
    have hd : EV (tSl (rSlU K) (tVar 0) tNoPart (tPart (tVar 2))) [.val (.d (triD A B C)), .val (.d (.list ((w0 :: r).map PyData.str))), .val (.d (.int (2 : Nat))), .non, .non] (.d (.tuple (([.tuple A, .tuple B, .tuple C] : List PyData).take 2))) [.val (.d (triD A B C)), .val (.d (.list ((w0 :: r).map PyData.str))), .val (.d (.int (2 : Nat))), .non, .non] := by
      have z := ev_slT (K := K) (ρ := [.val (.d (triD A B C)), .val (.d (.list ((w0 :: r).map PyData.str))), .val (.d (.int (2 : Nat))), .non, .non]) (ds := [.tuple A, .tuple B, .tuple C]) (ev_var (i := 0) rfl) eo_none (eo_some (ev_var (i := 2) rfl))
      rw [cut_natT] at z
      exact z
    have md := ev_tup (ρ := [.val (.d (triD A B C)), .val (.d (.list ((w0 :: r).map PyData.str))), .val (.d (.int (2 : Nat))), .non, .non]) (ds := C ++ [rowD (w0 :: r)]) (by
      have z := ea_star (K := K) (ev_op (ρ := [.val (.d (triD A B C)), .val (.d (.list ((w0 :: r).map PyData.str))), .val (.d (.int (2 : Nat))), .non, .non]) (ev_var (i := 0) rfl) (ev_var (i := 2) rfl) (opd_ixT (K := K) (ds := [.tuple A, .tuple B, .tuple C]) (i := (2 : Nat)) (d := .tuple C) (Pw.atI_nat rfl))) (ea_cons (x := .d (rowD (w0 :: r))) (ev_c1 (E := E) (f := gRowT) (ev_var (i := 1) rfl) ⟨w0 :: r, rfl, ok, rfl⟩) ea_nil)
      rw [List.map_append]
      exact z) (by rw [PySem.sizeLine_eq, List.length_append, List.length_singleton]; omega)
    refine wp_seq ?_
    refine' wp_asg (x := .d (triD A B (C ++ [rowD (w0 :: r)]))) (ev_tup (ds := [.tuple (A), .tuple (B), .tuple (C ++ [rowD (w0 :: r)])]) ?ea (show 3 ≤ sizeLine by decide)) ?_
    case ea =>
      have z := ea_star (K := K) hd (ea_cons md (ea_star (K := K) tl3 ea_nil))
      rw [List.append_nil] at z
      exact z
    show WP _ [.val (.d (triD A B C)), .val (.d (.list ((w0 :: r).map PyData.str))), .val (.d (.int (2 : Nat))), .val (.d (triD A B (C ++ [rowD (w0 :: r)]))), .non] _
    have t := et_test (ρ := [.val (.d (triD A B C)), .val (.d (.list ((w0 :: r).map PyData.str))), .val (.d (.int (2 : Nat))), .val (.d (triD A B (C ++ [rowD (w0 :: r)]))), .non]) (ev_c1 (E := E) (f := gMap) (ev_var (i := 3) rfl) ⟨nz, rfl⟩)
    show WP _ _ (GoodP (if laterB B C 2 = true then _ else if mapZ (triD A B (C ++ [rowD (w0 :: r)])) = true then (triD A B (C ++ [rowD (w0 :: r)])) else .none))
    rw [if_neg (by rw [hl]; decide)]
    by_cases z : mapZ (triD A B (C ++ [rowD (w0 :: r)])) = true
    · rw [if_pos z]
      have z' : mapZ (triD A B (C ++ [rowD (w0 :: r)])) = true := z
      rw [z'] at t
      exact wp_ret (ev_if t (fun _ => ev_var rfl) (fun z => by cases z)) rfl
    · rw [if_neg z]
      have z' : mapZ (triD A B (C ++ [rowD (w0 :: r)])) = false := by simpa using z
      rw [z'] at t
      exact wp_ret (ev_if t (fun z => by cases z) (fun _ => ev_non)) rfl
end

end Pv

set_option Elab.async false
set_option linter.all false
set_option maxRecDepth 100000
/-! PwParse3: the text of a map, and what it tells. -/
namespace Pv
open PySem L2 Pw TL PySem.NumText
theorem two_len {α β : Type} (f g : α → β) : ∀ l : List α, (l.flatMap fun p => [f p, g p]).length = 2 * l.length
  | [] => rfl
  | a :: l => by rw [List.flatMap_cons, List.length_append, two_len f g l, List.length_cons]; simp; omega
def Lab (m : Mp) : Prop := ∀ x ∈ m.marks, (0 ≤ x.wide ∧ x.wide ≤ 1000000) ∧ 0 ≤ x.high ∧ x.high ≤ 1000000
def gWordsOf (a y : PyData) : Prop := ∃ m : Mp, m.Ok ∧ Lab m ∧ tupZ a = mpD m ∧ y = .list ((rowsOf m).map fun ws => .tuple (ws.map PyData.str))
def flatL (d : PyData) : PyData := .tuple ((partsD d).take 3 ++ (partsD (partD d 3)).flatMap fun c => partsD c)
theorem flat_view {d : PyData} {l : Ln} (h : tupZ d = lnD l) : flatL d = flatD l := by
  obtain ⟨c, cs, h1, h2, h3⟩ := ln_view h
  have e : partsD d = [.str l.name, .str l.s, .str l.e, c] := by rw [partsD, h1]; rfl
  have e2 : partD d 3 = c := by rw [partD, e]; rfl
  unfold flatL
  rw [e2, e, show partsD c = cs by rw [partsD, h2]; rfl, flat_parts h3]
  rfl
theorem rows_eq {m : Mp} {n k : PyData} {ns ks : List PyData} (sn : seqOf n = some ns) (en : ns.map tupZ = m.nodes.map ndD) (sk : seqOf k = some ks) (ek : ks.map tupZ = m.marks.map mkD) :
    ([(("node" : Str), n), (("line" : Str), PyData.list (m.lines.map flatD)), (("mark" : Str), k)].flatMap fun z => (partsD z.2).map fun row => PyData.tuple (.str z.1 :: (partsD row).map strD)) = (rowsOf m).map fun ws => .tuple (ws.map PyData.str) := by
  have pn : partsD n = ns := by rw [partsD, sn]; rfl
  have pk : partsD k = ks := by rw [partsD, sk]; rfl
  simp only [List.flatMap_cons, List.flatMap_nil, List.append_nil, pn, pk]
  unfold rowsOf
  rw [List.map_append, List.map_append]
  congr 1
  · rw [List.map_map]
    exact map_rows (f := ndD) (fun d n h => by rw [partsD, nd_view h]; rfl) en
  · congr 1
    · show (m.lines.map flatD).map _ = _
      rw [List.map_map, List.map_map]
      refine List.map_congr_left fun l _ => ?_
      show PyData.tuple (.str _ :: (([PyData.str l.name, .str l.s, .str l.e] ++ l.cs.flatMap fun p => [PyData.int p.1, .int p.2]).map strD)) = PyData.tuple ((lineW l).map PyData.str)
      rw [List.map_append, List.map_flatMap]
      unfold lineW
      simp only [List.map_cons, List.map_flatMap, List.map_nil]
      rfl
    · rw [List.map_map]
      exact map_rows (f := mkD) (fun d n h => by rw [partsD, mk_view h]; rfl) ek
theorem small_int {i : Int} (h : -1000000000 ≤ i ∧ i ≤ 1000000000) : i.natAbs < 10 ^ 12 := by omega
theorem rows_parts {m : Mp} (ok : m.Ok) (lab : Lab m) {n k : PyData} {ns ks : List PyData} (sn : seqOf n = some ns) (en : ns.map tupZ = m.nodes.map ndD) (sk : seqOf k = some ks) (ek : ks.map tupZ = m.marks.map mkD)
    (z : Str × PyData) (hz : z ∈ [(("node" : Str), n), (("line" : Str), PyData.list (m.lines.map flatD)), (("mark" : Str), k)]) :
    ∃ rs, seqOf z.2 = some rs ∧ ∀ row ∈ rs, (∃ ps, seqOf row = some ps ∧ ps.length ≤ 100 ∧ ∀ x ∈ ps, (∃ i : Int, x = .int i ∧ i.natAbs < 10 ^ 12) ∨ ∃ s, x = .str s) := by
  simp only [List.mem_cons, List.not_mem_nil, or_false] at hz
  rcases hz with rfl | rfl | rfl
  · refine ⟨ns, sn, fun row hr => ?_⟩
    obtain ⟨q, hq, e⟩ := map_at en row hr
    refine ⟨_, nd_view e, by simp, fun x hx => ?_⟩
    have f := ok.fn q hq
    simp only [List.mem_cons, List.not_mem_nil, or_false] at hx
    rcases hx with rfl | rfl | rfl
    · exact .inr ⟨_, rfl⟩
    · exact .inl ⟨_, rfl, small_int f.1⟩
    · exact .inl ⟨_, rfl, small_int f.2⟩
  · refine ⟨_, rfl, fun row hr => ?_⟩
    obtain ⟨l, hl, rfl⟩ := List.mem_map.mp hr
    refine ⟨_, rfl, ?_, fun x hx => ?_⟩
    · have := ok.cc l hl
      rw [List.length_append, two_len]
      simp
      omega
    · rcases List.mem_append.mp hx with hx | hx
      · simp only [List.mem_cons, List.not_mem_nil, or_false] at hx
        rcases hx with rfl | rfl | rfl <;> exact .inr ⟨_, rfl⟩
      · obtain ⟨p, hp, hx⟩ := List.mem_flatMap.mp hx
        have f := ok.fc l hl p hp
        simp only [List.mem_cons, List.not_mem_nil, or_false] at hx
        rcases hx with rfl | rfl
        · exact .inl ⟨_, rfl, small_int f.1⟩
        · exact .inl ⟨_, rfl, small_int f.2⟩
  · refine ⟨ks, sk, fun row hr => ?_⟩
    obtain ⟨q, hq, e⟩ := map_at ek row hr
    refine ⟨_, mk_view e, by simp, fun x hx => ?_⟩
    have f := ok.fm q hq
    have g := lab q hq
    simp only [List.mem_cons, List.not_mem_nil, or_false] at hx
    rcases hx with rfl | rfl | rfl | rfl | rfl
    · exact .inr ⟨_, rfl⟩
    · exact .inl ⟨_, rfl, small_int f.1⟩
    · exact .inl ⟨_, rfl, small_int f.2⟩
    · exact .inl ⟨_, rfl, small_int ⟨by omega, by omega⟩⟩
    · exact .inl ⟨_, rfl, small_int ⟨by omega, by omega⟩⟩
/-! ### words -/
structure GoodW (w : Str) : Prop where
  ne : tl w ≠ []
  sp : 32 ∉ tl w
  nl : 10 ∉ tl w
  len : w.length ≤ 11
theorem good_num {n : Int} (h : -1000000000 ≤ n ∧ n ≤ 1000000000) : GoodW (numS n) := by
  have s := numS_signs n
  refine ⟨numS_ne n, fun z => ?_, fun z => ?_, ?_⟩
  · have := s 32 z; omega
  · have := s 10 z; omega
  · rw [len_tl]; exact (numS_facts n ⟨by omega, by omega⟩).2.2.2.2
theorem letters_eq : Pw.letters = [97, 98, 99, 100, 101, 102, 103, 104, 105, 106, 107, 108, 109, 110, 111, 112, 113, 114, 115, 116, 117, 118, 119, 120, 121, 122] := by decide +kernel
theorem good_name {z : Str} (h : nameZ (.str z) = true) : GoodW z := by
  have h : ((decide ((1 : Int) ≤ z.length) && decide ((z.length : Int) ≤ 8)) && (tl z).all fun c => decide (c ∈ Pw.letters)) = true := h
  simp only [Bool.and_eq_true, decide_eq_true_eq, List.all_eq_true] at h
  obtain ⟨⟨h1, h2⟩, h3⟩ := h
  refine ⟨fun e => ?_, fun q => ?_, fun q => ?_, by omega⟩
  · have := len_tl z; rw [e] at this; simp at this; omega
  · have := h3 32 q; rw [letters_eq] at this; revert this; decide
  · have := h3 10 q; rw [letters_eq] at this; revert this; decide
theorem good_kind {z : Str} (h : z ∈ kindsS) : GoodW z := by
  rcases kind_in h with rfl | rfl | rfl
  · exact ⟨by decide +kernel, by decide +kernel, by decide +kernel, by decide +kernel⟩
  · exact ⟨by decide +kernel, by decide +kernel, by decide +kernel, by decide +kernel⟩
  · exact ⟨by decide +kernel, by decide +kernel, by decide +kernel, by decide +kernel⟩
theorem name_of {m : Mp} (ok : m.Ok) {z : Str} (h : z ∈ m.nodes.map (·.name)) : nameZ (.str z) = true := by
  obtain ⟨n, hn, rfl⟩ := List.mem_map.mp h
  exact ok.tn n hn
structure GoodRow (ws : List Str) : Prop where
  ne : ws ≠ []
  len : ws.length ≤ 28
  ok : ∀ w ∈ ws, GoodW w
theorem good_rows {m : Mp} (ok : m.Ok) (lab : Lab m) : ∀ ws ∈ rowsOf m, GoodRow ws := by
  intro ws h
  unfold rowsOf at h
  rcases List.mem_append.mp h with h | h
  · obtain ⟨n, hn, rfl⟩ := List.mem_map.mp h
    refine ⟨by simp [nodeW], by simp [nodeW], fun w hw => ?_⟩
    simp only [nodeW, List.mem_cons, List.not_mem_nil, or_false] at hw
    rcases hw with rfl | rfl | rfl | rfl
    · exact good_kind (by simp [kindsS])
    · exact good_name (ok.tn n hn)
    · exact good_num (ok.fn n hn).1
    · exact good_num (ok.fn n hn).2
  rcases List.mem_append.mp h with h | h
  · obtain ⟨l, hl, rfl⟩ := List.mem_map.mp h
    refine ⟨by simp [lineW], ?_, fun w hw => ?_⟩
    · have := ok.cc l hl
      unfold lineW
      simp only [List.length_cons]
      rw [two_len]
      omega
    simp only [lineW, List.mem_cons] at hw
    rcases hw with rfl | rfl | rfl | rfl | hw
    · exact good_kind (by simp [kindsS])
    · exact good_name (ok.tl l hl)
    · exact good_name (name_of ok (ok.hs l hl))
    · exact good_name (name_of ok (ok.he l hl))
    · obtain ⟨p, hp, hw⟩ := List.mem_flatMap.mp hw
      simp only [List.mem_cons, List.not_mem_nil, or_false] at hw
      rcases hw with rfl | rfl
      · exact good_num (ok.fc l hl p hp).1
      · exact good_num (ok.fc l hl p hp).2
  · obtain ⟨n, hn, rfl⟩ := List.mem_map.mp h
    refine ⟨by simp [markW], by simp [markW], fun w hw => ?_⟩
    have g := lab n hn
    simp only [markW, List.mem_cons, List.not_mem_nil, or_false] at hw
    rcases hw with rfl | rfl | rfl | rfl | rfl | rfl
    · exact good_kind (by simp [kindsS])
    · exact good_name (ok.tm n hn)
    · exact good_num (ok.fm n hn).1
    · exact good_num (ok.fm n hn).2
    · exact good_num ⟨by omega, by omega⟩
    · exact good_num ⟨by omega, by omega⟩
theorem rows_count {m : Mp} (ok : m.Ok) : (rowsOf m).length ≤ 42 := by
  have h1 := ok.cn
  have h2 := ok.cl
  have h3 := ok.cm
  simp [rowsOf]
  omega
/-- one row's text, its line feed with it -/
def rowL (ws : List Str) : List Nat := joinL [32] (ws.map tl) ++ [10]
def textL (rs : List (List Str)) : List Nat := rs.flatMap rowL
theorem join_words : ∀ {ps : List (List Nat)}, (∀ p ∈ ps, p ≠ [] ∧ 32 ∉ p) → wordsL (joinL [32] ps) = ps
  | [], _ => rfl
  | [p], h => by
    have := h p (by simp)
    show wordsL p = [p]
    rw [words_free this.2, if_neg this.1]
  | p :: q :: r, h => by
    have hp := h p (by simp)
    show wordsL (p ++ ([32] ++ joinL [32] (q :: r))) = _
    rw [List.singleton_append, words_app, words_free hp.2, if_neg hp.1, join_words fun x hx => h x (List.mem_cons_of_mem _ hx)]
    rfl
theorem join_free {c : Nat} (hc : c ≠ 32) : ∀ {ps : List (List Nat)}, (∀ p ∈ ps, c ∉ p) → c ∉ joinL [32] ps
  | [], _ => by simp [joinL]
  | [p], h => h p (by simp)
  | p :: q :: r, h => by
    show c ∉ p ++ ([32] ++ joinL [32] (q :: r))
    simp only [List.mem_append, List.mem_singleton, not_or]
    exact ⟨h p (by simp), hc, join_free hc fun x hx => h x (List.mem_cons_of_mem _ hx)⟩
theorem join_len : ∀ {ps : List (List Nat)} {k : Nat}, (∀ p ∈ ps, p.length ≤ k) → (joinL [32] ps).length ≤ ps.length * (k + 1)
  | [], _, _ => by simp [joinL]
  | [p], k, h => by
    have := h p (by simp)
    show p.length ≤ _
    simp
    omega
  | p :: q :: r, k, h => by
    have h1 := h p (by simp)
    have h2 := join_len (ps := q :: r) (k := k) fun x hx => h x (List.mem_cons_of_mem _ hx)
    show (p ++ ([32] ++ joinL [32] (q :: r))).length ≤ _
    rw [List.length_append, List.length_append, List.length_singleton, List.length_cons, Nat.succ_mul]
    omega
theorem row_words {ws : List Str} (g : GoodRow ws) : wordsL (joinL [32] (ws.map tl)) = ws.map tl := join_words fun p hp => by
  obtain ⟨w, hw, rfl⟩ := List.mem_map.mp hp
  exact ⟨(g.ok w hw).ne, (g.ok w hw).sp⟩
theorem row_free {ws : List Str} (g : GoodRow ws) : 10 ∉ joinL [32] (ws.map tl) := join_free (by decide) fun p hp => by
  obtain ⟨w, hw, rfl⟩ := List.mem_map.mp hp
  exact (g.ok w hw).nl
theorem row_len {ws : List Str} (g : GoodRow ws) : (rowL ws).length ≤ 340 := by
  have h : (joinL [32] (ws.map tl)).length ≤ (ws.map tl).length * (11 + 1) := join_len fun p hp => by
    obtain ⟨w, hw, rfl⟩ := List.mem_map.mp hp
    rw [← len_tl]; exact (g.ok w hw).len
  have := g.len
  rw [List.length_map] at h
  unfold rowL
  rw [List.length_append, List.length_singleton]
  have : ws.length * (11 + 1) ≤ 28 * 12 := Nat.mul_le_mul this (Nat.le_refl _)
  omega
theorem text_rows : ∀ {rs : List (List Str)}, (∀ ws ∈ rs, GoodRow ws) → rowsW (textL rs) = rs.map fun ws => ws.map tl
  | [], _ => rfl
  | ws :: rs, h => by
    have g := h ws (by simp)
    have e : textL (ws :: rs) = joinL [32] (ws.map tl) ++ 10 :: textL rs := by
      show rowL ws ++ textL rs = _
      unfold rowL
      simp
    rw [e, rows_app, rows_free (row_free g), row_words g, if_neg (by simpa using g.ne), text_rows fun x hx => h x (List.mem_cons_of_mem _ hx)]
    rfl
theorem text_len : ∀ {rs : List (List Str)}, (∀ ws ∈ rs, GoodRow ws) → (textL rs).length ≤ rs.length * 340
  | [], _ => by simp [textL]
  | ws :: rs, h => by
    have h1 := row_len (h ws (by simp))
    have h2 := text_len (rs := rs) fun x hx => h x (List.mem_cons_of_mem _ hx)
    show (rowL ws ++ textL rs).length ≤ _
    rw [List.length_append, List.length_cons, Nat.succ_mul]
    omega
def textS (m : Mp) : Str := Str.join Str.empty ((rowsOf m).map fun ws => Str.join (" " : Str) ws ++ ("\n" : Str))
theorem tl_sp : tl (" " : Str) = [32] := by decide +kernel
theorem tl_nl : tl ("\n" : Str) = [10] := by decide +kernel
theorem tl_rowS (ws : List Str) : tl (Str.join (" " : Str) ws ++ ("\n" : Str)) = rowL ws := by
  rw [tl_append, tl_join, tl_sp, tl_nl]; rfl
theorem joinL_nil : ∀ ps : List (List Nat), joinL [] ps = ps.flatten
  | [] => rfl
  | [p] => by simp [joinL]
  | p :: q :: r => by
    show p ++ ([] ++ joinL [] (q :: r)) = _
    rw [joinL_nil (q :: r)]; rfl
theorem tl_text (m : Mp) : tl (textS m) = textL (rowsOf m) := by
  unfold textS
  rw [tl_join, show tl Str.empty = [] from rfl, joinL_nil, List.map_map]
  unfold textL
  rw [List.flatMap_def]
  congr 1
  refine List.map_congr_left fun ws _ => ?_
  exact tl_rowS ws
end Pv

set_option Elab.async false
set_option linter.all false
set_option maxRecDepth 100000
set_option maxHeartbeats 4000000
open PySem L2 Pw Hd
namespace Pv

section
variable {P : Program} {w : World} {K : PySem.W.Frag} {mg : Str → Option Value} {base : Heap}
theorem sc_words_of : FnScope [("world" : Str), ("nodes" : Str), ("lines" : Str), ("marks" : Str), ("flat" : Str), ("name" : Str), ("start" : Str), ("end" : Str), ("corners" : Str), ("kind" : Str), ("rows" : Str), ("row" : Str), ("corner" : Str), ("part" : Str)] [("world" : Str)] (defScope s_words_of) := ⟨rfl, rfl, rfl, by decide +kernel, rfl, by decide +kernel, by decide +kernel⟩
theorem c_words_of  (D : Df K mg "words_of" s_words_of) (T : Bt mg) (Y : Et P w K mg base)  : Cal P w K mg base 1 "words_of" ["world"] (sp1 gWordsOf) := by
  have sc := sc_words_of
  refine cal_mk (k := 0) D sc (fun vs H Q E s => len1 s) (fun _ _ _ _ _ _ us hl => match us, hl with | [_], _ => rfl) (fun f cdv A outer st H vs Q E hr h => ⟨_, (pss_cons (ps_asg (pv 0) (pg_TL (n := 3) K rfl (pgs_cons (pg_name (i := 1) sc.nd rfl (Or.inl rfl)) (pgs_cons (pg_name (i := 2) sc.nd rfl (Or.inl rfl)) (pgs_cons (pg_name (i := 3) sc.nd rfl (Or.inl rfl)) pgs_nil)))))
    (pss_cons (ps_setLc (i := 4) (own := [("name", 5), ("start", 6), ("end", 7), ("corners", 8)]) rfl sc.nd rfl rfl (sw_true rfl rfl rfl (by decide +kernel)) (pi_LT K (pv 2)) (blkOk_by (by rfl)) (fun _ _ _ _ _ => (pg_TL (n := 4) K rfl (pgs_cons (pg_name (i := 5) sc.nd rfl (Or.inl rfl)) (pgs_cons (pg_name (i := 6) sc.nd rfl (Or.inl rfl)) (pgs_cons (pg_name (i := 7) sc.nd rfl (Or.inl rfl)) (pgs_cons (pg_name (i := 8) sc.nd rfl (Or.inl rfl)) pgs_nil)))))) (fun _ _ _ _ _ => pts_nil) (fun _ _ _ _ _ => (pe_tup (pa_cons (pv 5) (pa_cons (pv 6) (pa_cons (pv 7) (pa_starK K (pe_lc2 (own := [("corner", 12), ("part", 13)]) (vs1 := [13]) rfl sc.nd (pi_LT K (pv 8)) (blkOk_by (by rfl)) (by decide) (fun _ _ _ _ _ => (pg_name (i := 12) sc.nd rfl (Or.inl rfl))) (fun _ _ _ _ _ => pts_nil) (fun _ _ _ _ _ => (pi_LT K (pv 12))) (fun _ _ _ _ _ => (pg_name (i := 13) sc.nd rfl (Or.inl rfl))) (fun _ _ _ _ _ => pts_nil) (fun _ _ _ _ _ => (pv 13))) pa_nil)))))))
    (pss_one (ps_ret (pe_lc2 (own := [("kind", 9), ("rows", 10), ("row", 11)]) (vs1 := [11]) rfl sc.nd (pi_zipAK K (by rfl) T.b_zip (pa_cons (pe_glob (v := .ref (He.ga K "KINDS")) (by rfl) Y.t_KINDS.m rfl) (pa_cons (pe_tup (pa_cons (pv 1) (pa_cons (pv 4) (pa_cons (pv 3) pa_nil)))) pa_nil))) (blkOk_by (by rfl)) (by decide) (fun _ _ _ _ _ => (pg_TL (n := 2) K rfl (pgs_cons (pg_name (i := 9) sc.nd rfl (Or.inl rfl)) (pgs_cons (pg_name (i := 10) sc.nd rfl (Or.inl rfl)) pgs_nil)))) (fun _ _ _ _ _ => pts_nil) (fun _ _ _ _ _ => (pi_LT K (pv 10))) (fun _ _ _ _ _ => (pg_name (i := 11) sc.nd rfl (Or.inl rfl))) (fun _ _ _ _ _ => pts_nil) (fun _ _ _ _ _ => (pe_tup (pa_cons (pv 9) (pa_starK K (pe_lc (own := [("part", 13)]) rfl sc.nd (pi_LT K (pv 11)) (blkOk_by (by rfl)) (fun _ _ _ _ _ => (pg_name (i := 13) sc.nd rfl (Or.inl rfl))) (fun _ _ _ _ _ => pts_nil) (fun _ _ _ _ _ => (pe_callTy call_strA (by rfl) T.b_str (by decide +kernel) (pa_cons (pv 13) pa_nil)))) pa_nil))))))))), wp1 h ?_⟩)
  rintro a _ ⟨m, ok, lab, ha, rfl⟩
  obtain ⟨ds, hs, hd⟩ := tup_inv ha
  obtain ⟨n, l, k, rfl⟩ : ∃ n l k, ds = [n, l, k] := by
    match ds, hd with
    | [n, l, k], _ => exact ⟨n, l, k, rfl⟩
    | [], h => simp at h
    | [_], h => simp at h
    | [_, _], h => simp at h
    | _ :: _ :: _ :: _ :: _, h => simp at h
  simp only [List.map_cons, List.map_nil, List.cons.injEq, and_true] at hd
  obtain ⟨hn, hl, hk⟩ := hd
  obtain ⟨ns, sn, en⟩ := tup_inv hn
  obtain ⟨ls, sl, el⟩ := tup_inv hl
  obtain ⟨ks, sk, ek⟩ := tup_inv hk
  have cl := ok.cl
  have cn := ok.cn
  have cm := ok.cm
  have lls : ls.length = m.lines.length := by have := congrArg List.length el; simpa using this
  have lns : ns.length = m.nodes.length := by have := congrArg List.length en; simpa using this
  have lks : ks.length = m.marks.length := by have := congrArg List.length ek; simpa using this
  have sz : ∀ n : Nat, n ≤ 100000 → n < sizeLine := fun n h => by rw [PySem.sizeLine_eq]; omega
  refine wp_seq ?_
  refine' wp_asgG (ev_var rfl) (gt_seq hs (gts_cons gt_name (gts_cons gt_name (gts_cons gt_name gts_nil))) rfl) ?_
  show WP _ [.val (.d a), .val (.d n), .val (.d l), .val (.d k), .non, .non, .non, .non, .non, .non, .non, .non, .non, .non] _
  refine wp_seq ?_
  refine' wp_asg (x := .d (.list (m.lines.map flatD))) (EO.vl ?flat) ?_
  case flat =>
    rw [← map_rows (F := flatL) (fun d l h => flat_view h) el]
    refine' eo_lc1 (ρ := [.val (.d a), .val (.d n), .val (.d l), .val (.d k), .non, .non, .non, .non, .non, .non, .non, .non, .non, .non]) (ρ1 := [.val (.d a), .val (.d n), .val (.d l), .val (.d k), .non, .non, .non, .non, .non, .non, .non, .non, .non, .non]) (vs := [5, 6, 7, 8]) ls (fun d => .d d) flatL (fun d => [.d (partD d 0), .d (partD d 1), .d (partD d 2), .d (partD d 3)]) (EI.c (ei_seq (ev_var (i := 2) rfl) sl)) (is := [5, 6, 7, 8]) (by decide) (fun j hj l c h => by simp only [List.mem_cons, List.not_mem_nil, or_false] at hj; rcases hj with rfl | rfl | rfl | rfl <;> cases h) (sz _ (by omega)) (fun d hd => ?_)
    obtain ⟨q, hq, e⟩ := map_at el d hd
    obtain ⟨c, cs, f1, f2, f3⟩ := ln_view e
    have p3 : partD d 3 = c := by simp [partD, partsD, f1]
    have lcs : cs.length = q.cs.length := by have := congrArg List.length f3; simpa using this
    have cc := ok.cc q hq
    have ft : (partsD d).take 3 = [partD d 0, partD d 1, partD d 2] := by simp [partD, partsD, f1]
    have fc : partsD (partD d 3) = cs := by rw [p3, partsD, f2]; rfl
    have ey : [Val.d (partD d 0), Val.d (partD d 1), Val.d (partD d 2), Val.d (partD d 3)] = [Val.d (.str q.name), Val.d (.str q.s), Val.d (.str q.e), Val.d c] := by simp [partD, partsD, f1]
    refine ⟨by show GT _ _ _ [Val.d (partD d 0), Val.d (partD d 1), Val.d (partD d 2), Val.d (partD d 3)]; rw [ey]; exact gt_seq f1 (gts_cons gt_name (gts_cons gt_name (gts_cons gt_name (gts_cons gt_name gts_nil)))) rfl, ?_⟩
    unfold flatL
    rw [ft, fc]
    have lf : (cs.flatMap fun c => partsD c).length = 2 * q.cs.length := by rw [flat_parts f3, two_len]
    have inner : EO _ _ (.lst (cs.flatMap fun c => (partsD c).map fun x => x)) _ := eo_lc2 (wi := iOr (iList K (tVar 8)) (iTup K (tVar 8))) (wi1 := iOr (iList K (tVar 12)) (iTup K (tVar 12))) (g := L2.gName 12) (g1 := L2.gName 13) (te := tVar 13) (ρ := [.val (.d a), .val (.d n), .val (.d l), .val (.d k), .non, .val (.d (partD d 0)), .val (.d (partD d 1)), .val (.d (partD d 2)), .val (.d (partD d 3)), .non, .non, .non, .non, .non]) (ρ1 := [.val (.d a), .val (.d n), .val (.d l), .val (.d k), .non, .val (.d (partD d 0)), .val (.d (partD d 1)), .val (.d (partD d 2)), .val (.d (partD d 3)), .non, .non, .non, .non, .non]) (vs := [12, 13]) (vs1 := [13]) (is := [12]) (js := [13]) cs (fun c => .d c) (fun c => [.d c]) partsD (fun x => .d x) (fun x => [.d x]) (fun _ x => x) (EI.x (ei_seq (ev_var (i := 8) rfl) (by rw [p3]; exact f2))) (by decide) (by decide) (by decide) (by decide) (fun j hj l c h => by simp only [List.mem_cons, List.not_mem_nil, or_false] at hj; rcases hj with rfl | rfl <;> cases h) (sz _ ?len) (fun c hc => ?body)
    case len =>
      simp only [List.map_id']
      omega
    case body =>
      obtain ⟨p, hp, e⟩ := map_at f3 c hc
      have pv := pt_view e
      refine ⟨gt_name, ei_seq (ev_var (i := 12) rfl) (by rw [pv, partsD, pv]; rfl), fun x hx => ⟨gt_name, ev_var (i := 13) rfl⟩⟩
    simp only [List.map_id'] at inner
    have z := ea_cons (ev_var (i := 5) (ρ := [.val (.d a), .val (.d n), .val (.d l), .val (.d k), .non, .val (.d (partD d 0)), .val (.d (partD d 1)), .val (.d (partD d 2)), .val (.d (partD d 3)), .non, .non, .non, .non, .non]) rfl) (ea_cons (ev_var (i := 6) rfl) (ea_cons (ev_var (i := 7) rfl) (ea_starL (K := K) inner.vl ea_nil)))
    rw [List.append_nil] at z
    exact ev_tup (ds := [partD d 0, partD d 1, partD d 2] ++ cs.flatMap fun c => partsD c) z (Nat.le_of_lt (sz _ (by
      rw [List.length_append, lf]
      simp
      omega)))
  show WP _ [.val (.d a), .val (.d n), .val (.d l), .val (.d k), .val (.d (.list (m.lines.map flatD))), .non, .non, .non, .non, .non, .non, .non, .non, .non] _
  refine' wp_ret (EO.vl (ds := (rowsOf m).map fun ws : List Str => PyData.tuple (ws.map PyData.str)) ?rows) rfl
  case rows =>
    rw [← rows_eq sn en sk ek]
    refine' eo_lc2 (ρ := [.val (.d a), .val (.d n), .val (.d l), .val (.d k), .val (.d (.list (m.lines.map flatD))), .non, .non, .non, .non, .non, .non, .non, .non, .non]) (ρ1 := [.val (.d a), .val (.d n), .val (.d l), .val (.d k), .val (.d (.list (m.lines.map flatD))), .non, .non, .non, .non, .non, .non, .non, .non, .non]) (vs := [9, 10, 11]) (vs1 := [11]) (is := [9, 10]) (js := [11]) [(("node" : Str), n), (("line" : Str), PyData.list (m.lines.map flatD)), (("mark" : Str), k)] (fun z => .d (.tuple [.str z.1, z.2])) (fun z => [.d (.str z.1), .d z.2]) (fun z => partsD z.2) (fun x => .d x) (fun x => [.d x]) (fun z row => .tuple (.str z.1 :: (partsD row).map strD)) ?src (by decide) (by decide) (by decide) (by decide) (fun j hj l c h => by simp only [List.mem_cons, List.not_mem_nil, or_false] at hj; rcases hj with rfl | rfl | rfl <;> cases h) ?len (fun z hz => ?body)
    case src =>
      exact EI.x (ei_zipKT (ys := kindsS) Y.t_KINDS (ev_tup (ds := [n, .list (m.lines.map flatD), k]) (ea_cons (ev_var (i := 1) rfl) (ea_cons (ev_var (i := 4) rfl) (ea_cons (ev_var (i := 3) rfl) ea_nil))) (show 3 ≤ sizeLine by decide)) rfl)
    case len =>
      refine sz _ ?_
      rw [List.length_flatMap]
      simp only [List.map_cons, List.map_nil, List.sum_cons, List.sum_nil, List.length_map]
      rw [show partsD n = ns by rw [partsD, sn]; rfl, show partsD k = ks by rw [partsD, sk]; rfl, show partsD (.list (m.lines.map flatD)) = m.lines.map flatD from rfl, List.length_map]
      omega
    case body =>
      have hseq : ∃ rs, seqOf z.2 = some rs ∧ ∀ row ∈ rs, (∃ ps, seqOf row = some ps ∧ ps.length ≤ 100 ∧ ∀ x ∈ ps, (∃ i : Int, x = .int i ∧ i.natAbs < 10 ^ 12) ∨ ∃ s, x = .str s) := rows_parts ok lab sn en sk ek z hz
      obtain ⟨rs, h1, h2⟩ := hseq
      have e1 : partsD z.2 = rs := by rw [partsD, h1]; rfl
      refine ⟨gt_or1 (gt_tup (gts_cons gt_name (gts_cons gt_name gts_nil)) rfl), ?_, fun row hrow => ⟨gt_name, ?_⟩⟩
      · rw [e1]; exact ei_seq (ev_var (i := 10) rfl) h1
      · rw [e1] at hrow
        obtain ⟨ps, h3, h4, h5⟩ := h2 row hrow
        have e2 : partsD row = ps := by rw [partsD, h3]; rfl
        rw [e2]
        have z1 := ea_cons (x := .d (.str z.1)) (ev_var (i := 9) rfl) (ea_starL (K := K) (EO.vl (eo_lc1 (ρ := [.val (.d a), .val (.d n), .val (.d l), .val (.d k), .val (.d (.list (m.lines.map flatD))), .non, .non, .non, .non, .val (.d (.str z.1)), .val (.d z.2), .val (.d row), .non, .non]) (ρ1 := [.val (.d a), .val (.d n), .val (.d l), .val (.d k), .val (.d (.list (m.lines.map flatD))), .non, .non, .non, .non, .val (.d (.str z.1)), .val (.d z.2), .val (.d row), .non, .non]) (wi := iOr (iList K (tVar 11)) (iTup K (tVar 11))) (g := L2.gName 13) (te := tCB rStrA (tCons (tVar 13) tNil)) (vs := [13]) ps (fun x => .d x) strD (fun x => [.d x]) (EI.c (ei_seq (ev_var (i := 11) rfl) h3)) (is := [13]) (fun j h => h) (fun j hj l c h => by simp only [List.mem_cons, List.not_mem_nil, or_false] at hj; rcases hj with rfl <;> cases h) (sz _ (by omega)) (fun x hx => ⟨gt_name, ?st⟩))) ea_nil)
        case st =>
          rcases h5 x hx with ⟨i, rfl, hi⟩ | ⟨s, rfl⟩
          · exact ev_cb1 (ev_var (i := 13) rfl) (cd_strI (log_small hi))
          · exact ev_cb1 (ev_var (i := 13) rfl) cd_strS
        rw [List.append_nil] at z1
        exact ev_tup (ds := .str z.1 :: ps.map strD) z1 (Nat.le_of_lt (sz _ (by simp; omega)))
end

end Pv

set_option Elab.async false
set_option linter.all false
set_option maxRecDepth 100000
/-! PwParse4: a text read line by line. -/
namespace Pv
open PySem L2 Pw TL PySem.NumText
structure W3 where
  a : List PyData
  b : List PyData
  c : List PyData
def W3.d (w : W3) : PyData := triD w.a w.b w.c
def W3.add (w : W3) (d : PyData) : Nat → W3
  | 0 => ⟨w.a ++ [d], w.b, w.c⟩
  | 1 => ⟨w.a, w.b ++ [d], w.c⟩
  | _ => ⟨w.a, w.b, w.c ++ [d]⟩
theorem add_d (w : W3) (d : PyData) : ∀ k, (w.add d k).d = longD w.a w.b w.c d k
  | 0 => rfl
  | 1 => rfl
  | _ + 2 => rfl
def stepT (w : W3) (ws : List Str) : Option W3 := match kindAt (ws.getD 0 Str.empty) with
  | none => none
  | some k => if laterB w.b w.c k = true then none else if mapZ (w.add (rowD ws) k).d = true then some (w.add (rowD ws) k) else none
theorem withD_step (w : W3) (ws : List Str) : withD w.a w.b w.c ws = match stepT w ws with | none => .none | some w' => w'.d := by
  unfold withD stepT
  cases kindAt (ws.getD 0 Str.empty) with
  | none => rfl
  | some k =>
    dsimp only
    by_cases h : laterB w.b w.c k = true
    · rw [if_pos h, if_pos h]
    · rw [if_neg h, if_neg h, add_d]
      by_cases g : mapZ (longD w.a w.b w.c (rowD ws) k) = true
      · rw [if_pos g, if_pos g]; exact (add_d w _ k).symm
      · rw [if_neg g, if_neg g]
def runG (st : W3 → List Str → Option W3) : List (List Str) → Nat → W3 → Nat ⊕ W3
  | [], _, w => .inr w
  | ws :: r, i, w => if ws = [] then runG st r (i + 1) w else match st w ws with
    | none => .inl i
    | some w' => runG st r (i + 1) w'
theorem runG_cons (st : W3 → List Str → Option W3) (ws : List Str) (r : List (List Str)) (i : Nat) (w : W3) : runG st (ws :: r) i w = if ws = [] then runG st r (i + 1) w else match st w ws with
    | none => .inl i
    | some w' => runG st r (i + 1) w' := rfl
abbrev runT := runG stepT
theorem runT_cons (ws : List Str) (r : List (List Str)) (i : Nat) (w : W3) : runT (ws :: r) i w = if ws = [] then runT r (i + 1) w else match stepT w ws with
    | none => .inl i
    | some w' => runT r (i + 1) w' := rfl
def wordsS (line : Str) : List Str := (splitS 32 line).filter fun z => decide (tl z ≠ [])
structure TextOk (t : Str) : Prop where
  len : t.length ≤ 60000
  sg : ∀ c ∈ tl t, c < 1114112
  ws : ∀ l ∈ splitS 10 t, ∀ w ∈ wordsS l, w.length ≤ 1000
theorem split_mem {c : Nat} {t x : Str} (h : x ∈ splitS c t) : ∀ s ∈ tl x, s ∈ tl t := by
  obtain ⟨p, hp, rfl⟩ := List.mem_map.mp h
  exact (cutL_mem hp).2
theorem cut_count (c : Nat) (l : List Nat) : (cutL c l).length ≤ l.length + 1 := by
  have := cutL_len c l
  omega
theorem le_sumN {x : Nat} : ∀ {l : List Nat}, x ∈ l → x ≤ l.sum
  | [], h => by simp at h
  | a :: l, h => by
    rw [List.sum_cons]
    rcases List.mem_cons.mp h with rfl | h
    · omega
    · have := le_sumN h; omega
theorem cut_each {c : Nat} {l p : List Nat} (h : p ∈ cutL c l) : p.length ≤ l.length := by
  have h1 := cutL_len c l
  have h2 : p.length ≤ ((cutL c l).map List.length).sum := le_sumN (List.mem_map.mpr ⟨p, h, rfl⟩)
  have h3 : 0 < (cutL c l).length := List.length_pos_iff.mpr (cutL_ne c l)
  omega
theorem line_len {t l : Str} (h : l ∈ splitS 10 t) : l.length ≤ t.length := by
  obtain ⟨p, hp, rfl⟩ := List.mem_map.mp h
  rw [len_tl, len_tl]
  exact cut_each hp
theorem words_ok {t l : Str} (o : TextOk t) (h : l ∈ splitS 10 t) (hne : wordsS l ≠ []) : WordsOk (wordsS l) := by
  have hl := line_len h
  refine ⟨hne, ?_, fun w hw => by have := o.ws l h w hw; omega⟩
  have h1 : (wordsS l).length ≤ (splitS 32 l).length := List.length_filter_le _ _
  have h2 : (splitS 32 l).length ≤ l.length + 1 := by
    unfold splitS
    rw [List.length_map, len_tl l]
    exact cut_count 32 (tl l)
  have := o.len
  omega
theorem words_tame {t l : Str} (o : TextOk t) (h : l ∈ splitS 10 t) : ∀ w ∈ wordsS l, tame (.str w) = true := by
  intro w hw
  have e : PyData.strOk w = true := strOk_of fun c hc => o.sg c (split_mem h c (split_mem (List.mem_filter.mp hw).1 c hc))
  rw [tame, e, decide_eq_true (o.ws l h w hw)]; rfl
/-! ### rows that can be looked at -/
theorem depthAll_le {ds : List PyData} {n : Nat} (h : ∀ d ∈ ds, d.depth ≤ n) : PyData.depthAll ds ≤ n := by
  induction ds with
  | nil => simp [PyData.depthAll]
  | cons d ds ih =>
    simp only [PyData.depthAll]
    have h1 := h d (by simp)
    have h2 := ih fun e he => h e (by simp [he])
    omega
theorem nice_tup {ds : List PyData} {n : Nat} (h : ∀ d ∈ ds, Nice n d) (l : ds.length < 100000) : Nice (n + 1) (.tuple ds) := by
  refine ⟨?_, ?_⟩
  · rw [tame, decide_eq_true l, tames_of fun d hd => (h d hd).1]; rfl
  · simp only [PyData.depth]
    have := depthAll_le (n := n) fun d hd => (h d hd).2
    omega
theorem nice_tup_mem {ds : List PyData} {n : Nat} (h : Nice (n + 1) (.tuple ds)) {d : PyData} (hd : d ∈ ds) : Nice n d := by
  obtain ⟨h1, h2⟩ := h
  simp only [tame, Bool.and_eq_true] at h1
  simp only [PyData.depth] at h2
  exact ⟨tame_mem h1.2 hd, by have := depth_mem hd; omega⟩
theorem nice_num (w : Str) : Nice 0 (numD w) := by
  unfold numD
  split
  · split
    · exact ⟨rfl, by simp [PyData.depth]⟩
    · exact Nice.none
  · exact Nice.none
theorem nice_str {w : Str} (h : tame (.str w) = true) : Nice 0 (.str w) := ⟨h, by simp [PyData.depth]⟩
theorem pairs_nice : ∀ {ds : List PyData}, (∀ d ∈ ds, Nice 0 d) → ∀ p ∈ pairsD ds, Nice 1 p
  | [], _, p, hp => by simp [pairsD] at hp
  | [a], h, p, hp => by
    simp only [pairsD, List.mem_cons, List.not_mem_nil, or_false] at hp
    subst hp
    exact nice_tup (fun d hd => h d hd) (by simp)
  | a :: b :: r, h, p, hp => by
    simp only [pairsD, List.mem_cons] at hp
    rcases hp with rfl | hp
    · refine nice_tup (fun d hd => ?_) (by simp)
      simp only [List.mem_cons, List.not_mem_nil, or_false] at hd
      rcases hd with rfl | rfl
      · exact h _ (by simp)
      · exact h _ (by simp)
    · exact pairs_nice (ds := r) (fun d hd => h d (by simp [hd])) p hp
theorem pairs_len : ∀ ds : List PyData, (pairsD ds).length ≤ ds.length
  | [] => by simp [pairsD]
  | [a] => by simp [pairsD]
  | a :: b :: r => by
    have := pairs_len r
    simp only [pairsD, List.length_cons]
    omega
theorem row_nice {ws : List Str} (o : WordsOk ws) (h : ∀ w ∈ ws, tame (.str w) = true) : Nice 3 (rowD ws) := by
  have hl := o.2.1
  unfold rowD
  split
  · refine nice_tup (n := 2) (fun d hd => ?_) (by simp; omega)
    rcases List.mem_append.mp hd with hd | hd
    · obtain ⟨w, hw, rfl⟩ := List.mem_map.mp hd
      exact (nice_str (h w (List.mem_of_mem_drop (List.mem_of_mem_take hw)))).mono (by omega)
    · simp only [List.mem_cons, List.not_mem_nil, or_false] at hd
      subst hd
      refine nice_tup (n := 1) (pairs_nice fun d hd => ?_) ?_
      · obtain ⟨w, _, rfl⟩ := List.mem_map.mp hd
        exact nice_num w
      · have := pairs_len ((ws.drop 4).map numD)
        rw [List.length_map, List.length_drop] at this
        omega
  · refine nice_tup (n := 2) (fun d hd => ?_) (by simp; omega)
    rcases List.mem_append.mp hd with hd | hd
    · obtain ⟨w, hw, rfl⟩ := List.mem_map.mp hd
      exact (nice_str (h w (List.mem_of_mem_drop (List.mem_of_mem_take hw)))).mono (by omega)
    · obtain ⟨w, _, rfl⟩ := List.mem_map.mp hd
      exact (nice_num w).mono (by omega)
structure W3.Ok (w : W3) : Prop where
  la : w.a.length ≤ 16
  lb : w.b.length ≤ 16
  lc : w.c.length ≤ 16
  na : ∀ d ∈ w.a, Nice 3 d
  nb : ∀ d ∈ w.b, Nice 3 d
  nc : ∀ d ∈ w.c, Nice 3 d
theorem W3.nice {w : W3} (la : w.a.length ≤ 17) (lb : w.b.length ≤ 17) (lc : w.c.length ≤ 17) (na : ∀ d ∈ w.a, Nice 3 d) (nb : ∀ d ∈ w.b, Nice 3 d) (nc : ∀ d ∈ w.c, Nice 3 d) : Nice 9 w.d := by
  have h : Nice 5 w.d := nice_tup (n := 4) (fun d hd => by
    simp only [List.mem_cons, List.not_mem_nil, or_false] at hd
    rcases hd with rfl | rfl | rfl
    · exact nice_tup na (by omega)
    · exact nice_tup nb (by omega)
    · exact nice_tup nc (by omega)) (by simp)
  exact h.mono (by omega)
theorem add_mem {w : W3} {d : PyData} (o : w.Ok) (nd : Nice 3 d) : ∀ k, (w.add d k).a.length ≤ 17 ∧ (w.add d k).b.length ≤ 17 ∧ (w.add d k).c.length ≤ 17 ∧ (∀ e ∈ (w.add d k).a, Nice 3 e) ∧ (∀ e ∈ (w.add d k).b, Nice 3 e) ∧ (∀ e ∈ (w.add d k).c, Nice 3 e) := by
  have h1 := o.la
  have h2 := o.lb
  have h3 := o.lc
  have ap : ∀ {l : List PyData}, (∀ e ∈ l, Nice 3 e) → ∀ e ∈ l ++ [d], Nice 3 e := fun hl e he => by
    rcases List.mem_append.mp he with he | he
    · exact hl e he
    · simp only [List.mem_cons, List.not_mem_nil, or_false] at he; subst he; exact nd
  intro k
  match k with
  | 0 => exact ⟨by simp [W3.add]; omega, by simp [W3.add]; omega, by simp [W3.add]; omega, ap o.na, o.nb, o.nc⟩
  | 1 => exact ⟨by simp [W3.add]; omega, by simp [W3.add]; omega, by simp [W3.add]; omega, o.na, ap o.nb, o.nc⟩
  | k + 2 => exact ⟨by simp [W3.add]; omega, by simp [W3.add]; omega, by simp [W3.add]; omega, o.na, o.nb, ap o.nc⟩
theorem map_lens {w : W3} (h : mapZ w.d = true) : w.a.length ≤ 16 ∧ w.b.length ≤ 16 ∧ w.c.length ≤ 16 := by
  have h0 := h
  simp only [mapZ, Bool.and_eq_true] at h0
  obtain ⟨_, ⟨h1, _⟩, ⟨h2, _⟩, ⟨h3, _⟩, _⟩ := h0
  have h1 : (w.a.length : Int) ≤ 16 := of_decide_eq_true h1
  have h2 : (w.c.length : Int) ≤ 10 := of_decide_eq_true h2
  have h3 : (w.b.length : Int) ≤ 16 := of_decide_eq_true h3
  omega
theorem step_ok {w w' : W3} {ws : List Str} (o : w.Ok) (hr : Nice 3 (rowD ws)) (h : stepT w ws = some w') : w'.Ok := by
  unfold stepT at h
  split at h
  · cases h
  · rename_i k _
    split at h
    · cases h
    · split at h
      · rename_i g
        cases h
        obtain ⟨_, _, _, h4, h5, h6⟩ := add_mem o hr k
        obtain ⟨l1, l2, l3⟩ := map_lens g
        exact ⟨l1, l2, l3, h4, h5, h6⟩
      · cases h
theorem empty_ok : (W3.mk [] [] []).Ok := ⟨by simp, by simp, by simp, by simp, by simp, by simp⟩
def gParse (K : PySem.W.Frag) (ds : List PyData) (r : Rs) : Prop := ∃ a, ds = [a] ∧ ((isStrD a = false ∧ r = .exc (He.ga K "BadText") (some ("at", .int 0))) ∨ ∃ t : Str, a = .str t ∧ TextOk t ∧
  r = match runT ((splitS 10 t).map wordsS) 0 ⟨[], [], []⟩ with
    | .inl k => .exc (He.ga K "BadText") (some ("at", .int (k : Nat)))
    | .inr w => .val w.d)
def gPrint (K : PySem.W.Frag) (ds : List PyData) (r : Rs) : Prop := ∃ a, ds = [a] ∧ Nice 9 a ∧ ((mapZ a = false ∧ r = .exc (He.ga K "BadValue") (some ("at", .int 0))) ∨ ∃ m : Mp, m.Ok ∧ Lab m ∧ tupZ a = mpD m ∧ mapZ a = true ∧ r = .val (.str (textS m)))
end Pv

set_option Elab.async false
set_option linter.all false
set_option maxRecDepth 100000
set_option maxHeartbeats 4000000
open PySem L2 Pw Hd
namespace Pv
theorem lenPrint {K : PySem.W.Frag} {vs : List V} {H : Hp} {Q : VK} {E : XK} (s : spX (gPrint K) vs H Q E) : vs.length = 1 := lenX (fun _ _ ⟨_, e, _⟩ => by rw [e]; rfl) s
theorem lenParse {K : PySem.W.Frag} {vs : List V} {H : Hp} {Q : VK} {E : XK} (s : spX (gParse K) vs H Q E) : vs.length = 1 := lenX (fun _ _ ⟨_, e, _⟩ => by rw [e]; rfl) s

section
variable {P : Program} {w : World} {K : PySem.W.Frag} {mg : Str → Option Value} {base : Heap}
theorem sc_printed : FnScope [("world" : Str), ("words" : Str)] [("world" : Str)] (defScope s_printed) := ⟨rfl, rfl, rfl, by decide +kernel, rfl, by decide +kernel, by decide +kernel⟩
theorem c_printed (D : Df K mg "printed" s_printed) (T : Bt mg) (Y : Et P w K mg base) (c_words_of : Cal P w K mg base 1 "words_of" ["world"] (sp1 gWordsOf)) (c_is_map : Cal P w K mg base 5 "is_map" ["value"] (sp1 gMap)) : CalX P w K mg base 6 "printed" ["world"] (spX (gPrint K)) := by
  have sc := sc_printed
  refine calX_mk (k := 5) D sc (fun vs H Q E s => lenPrint s) (fun _ _ _ _ _ _ us hl => match us, hl with | [_], _ => rfl) (fun f cdv A outer st H vs Q E hr h => ?_)
  have tk := takes_of (X := cxOf (L2.CX P w) P w K mg base ["world", "words"] "printed" (defScope s_printed) f cdv A outer st H E) (E := E) rfl rfl rfl rfl
  refine ⟨_, (pss_cons (ps_if (pt_not (pt_val (pe_cal c_is_map hr (by decide) (by rfl) (pa_cons (pv 0) pa_nil)))) (pss_one (ps_raise rfl tk (pmk_exmk Y.i_BadValue (hr.mono (by decide)) (by rfl) (pa_cons pe_int pa_nil)))) pss_nil)
    (pss_one (ps_ret (pe_m1 PySem.F.slot_str_join PySem.F.type_str_join (mt_joinK K) pe_str (pe_lc (own := [("words", 1)]) rfl sc.nd (pi_LT K (pe_cal c_words_of hr (by decide) (by rfl) (pa_cons (pv 0) pa_nil))) (blkOk_by (by rfl)) (fun _ _ _ _ _ => (pg_name (i := 1) sc.nd rfl (Or.inl rfl))) (fun _ _ _ _ _ => pts_nil) (fun _ _ _ _ _ => (pe_op (op_plusK K) (pe_m1 PySem.F.slot_str_join PySem.F.type_str_join (mt_joinK K) pe_str (pv 1)) pe_str))))))), wp_spX h ?_⟩
  rintro ds r hg hl
  obtain ⟨a, rfl, hn, h⟩ := hg
  refine wp_seq ?_
  rcases h with ⟨hm, rfl⟩ | ⟨m, ok, lab, ht, hm, rfl⟩
  · refine' wp_if (et_not (b := false) (et_test (ev_c1 (ev_var rfl) ⟨hn, by rw [hm]⟩))) (fun _ => ?_) (fun z => by cases z)
    exact wp_raise1 ev_int ⟨rfl, rfl, rfl⟩
  · refine' wp_if (et_not (b := true) (et_test (ev_c1 (ev_var rfl) ⟨hn, by rw [hm]⟩))) (fun z => by cases z) (fun _ => wp_next ?_)
    show WP _ [.val (.d a), .non] _
    have gr := good_rows ok lab
    have rc := rows_count ok
    have src := ei_or1 (b := iTup K (tCall (sp1 gWordsOf) [] E (tCons (tVar 0) tNil))) (ei_list (K := K) (ρ := [.val (.d a), .non]) (ev_c1 (E := E) (f := gWordsOf) (ev_var (i := 0) rfl) ⟨m, ok, lab, ht, rfl⟩))
    rw [List.map_map] at src
    have lens : ∀ ws ∈ rowsOf m, (ws.map (·.length)).sum + ws.length * (" " : Str).length ≤ 700 := fun ws hw => by
      have g := gr ws hw
      have : ∀ l : List Str, (∀ w ∈ l, w.length ≤ 11) → (l.map (·.length)).sum ≤ l.length * 11 := by
        intro l
        induction l with
        | nil => intro _; simp
        | cons a l ih =>
          intro h
          have h1 := h a (by simp)
          have h2 := ih fun w hw => h w (by simp [hw])
          rw [List.map_cons, List.sum_cons, List.length_cons]
          omega
      have h1 := this ws fun w hw => (g.ok w hw).len
      have h2 := g.len
      have e : (" " : Str).length = 1 := by decide +kernel
      rw [e]
      omega
    have rl : ∀ ws ∈ rowsOf m, (Str.join (" " : Str) ws ++ ("\n" : Str)).length ≤ 340 := fun ws hw => by
      rw [TL.len_tl, tl_rowS]
      exact row_len (gr ws hw)
    refine' wp_ret (ev_join (a := Str.empty) (ys := (rowsOf m).map fun ws => Str.join (" " : Str) ws ++ ("\n" : Str)) ev_str (EO.vl ?lc) ?len) rfl
    case lc =>
      rw [List.map_map]
      refine' eo_lc1 (ρ := [.val (.d a), .non]) (ρ1 := [.val (.d a), .non]) (vs := [1]) (rowsOf m) (fun ws => .d (.tuple (ws.map PyData.str))) (fun ws => .str (Str.join (" " : Str) ws ++ ("\n" : Str))) (fun ws => [.d (.tuple (ws.map PyData.str))]) (EI.c src) (is := [1]) (fun j h => h) (fun j hj l c h => by simp only [List.mem_cons, List.not_mem_nil, or_false] at hj; subst hj; cases h) (by rw [PySem.sizeLine_eq]; omega) (fun ws hw => ⟨gt_name, ev_op (ev_joinT ev_str (ev_var (i := 1) rfl) (by have := lens ws hw; omega)) ev_str (opd_cat_str ?z)⟩)
      case z =>
        have h1 := rl ws hw
        rw [TL.len_tl, TL.tl_append, List.length_append, ← TL.len_tl, ← TL.len_tl] at h1
        rw [PySem.sizeLine_eq]
        omega
    case len =>
      have e : Str.empty.length = 0 := rfl
      rw [e, Nat.mul_zero, Nat.add_zero]
      have : ∀ l : List (List Str), (∀ ws ∈ l, ws ∈ rowsOf m) → ((l.map fun ws => Str.join (" " : Str) ws ++ ("\n" : Str)).map (·.length)).sum ≤ l.length * 340 := by
        intro l
        induction l with
        | nil => intro _; simp
        | cons a l ih =>
          intro h
          have h1 := rl a (h a (by simp))
          have h2 := ih fun w hw => h w (by simp [hw])
          rw [List.map_cons, List.map_cons, List.sum_cons, List.length_cons]
          omega
      have := this (rowsOf m) fun _ h => h
      omega
theorem sc_parse : FnScope [("text" : Str), ("world" : Str), ("at" : Str), ("line" : Str), ("words" : Str), ("word" : Str)] [("text" : Str)] (defScope s_parse) := ⟨rfl, rfl, rfl, by decide +kernel, rfl, by decide +kernel, by decide +kernel⟩
theorem c_parse (D : Df K mg "parse" s_parse) (T : Bt mg) (Y : Et P w K mg base) (c_with_words : Cal P w K mg base 6 "with_words" ["world", "words"] (sp2 gWithW)) : CalX P w K mg base 7 "parse" ["text"] (spX (gParse K)) := by
  have sc := sc_parse
  refine calX_mk (k := 6) D sc (fun vs H Q E s => lenParse s) (fun _ _ _ _ _ _ us hl => match us, hl with | [_], _ => rfl) (fun f cdv A outer st H vs Q E hr h => ?_)
  have tk := takes_of (X := cxOf (L2.CX P w) P w K mg base ["text", "world", "at", "line", "words", "word"] "parse" (defScope s_parse) f cdv A outer st H E) (E := E) rfl rfl rfl rfl
  refine ⟨_, (pss_cons (ps_if (pt_not (pt_val (pe_callB (call_isiK' K) (by rfl) T.b_isinstance (by decide +kernel) (pa_cons (pv 0) (pa_cons (pe_bltn (v := .ty "str") (by rfl) T.b_str (by decide +kernel) rfl) pa_nil))))) (pss_one (ps_raise rfl tk (pmk_exmk Y.i_BadText (hr.mono (by decide)) (by rfl) (pa_cons pe_int pa_nil)))) pss_nil)
    (pss_cons (ps_set (i := 1) sc.nd rfl (Or.inl rfl) (pe_tup (pa_cons (pe_tup pa_nil) (pa_cons (pe_tup pa_nil) (pa_cons (pe_tup pa_nil) pa_nil)))))
    (pss_cons (ps_for (passes_of rfl) rfl (pi_enumK K (by rfl) T.b_enumerate (pa_cons (pe_m1 PySem.F.slot_str_split PySem.F.type_str_split mt_splitK (pv 0) pe_str) pa_nil)) (pg_TL (n := 2) K rfl (pgs_cons (pg_name (i := 2) sc.nd rfl (Or.inl rfl)) (pgs_cons (pg_name (i := 3) sc.nd rfl (Or.inl rfl)) pgs_nil))) (pss_cons (ps_setLc (i := 4) (own := [("word", 5)]) rfl sc.nd rfl rfl (sw_true rfl rfl rfl (by decide +kernel)) (pi_LT K (pe_m1 PySem.F.slot_str_split PySem.F.type_str_split mt_splitK (pv 3) pe_str)) (blkOk_by (by rfl)) (fun _ _ _ _ _ => (pg_name (i := 5) sc.nd rfl (Or.inl rfl))) (fun _ _ _ _ _ => (pts_one (pt_truK K (pv 5)))) (fun _ _ _ _ _ => (pv 5)))
    (pss_cons (ps_if (pt_truK K (pv 4)) (pss_one (ps_set (i := 1) sc.nd rfl (Or.inl rfl) (pe_cal c_with_words hr (by decide) (by rfl) (pa_cons (pv 1) (pa_cons (pv 4) pa_nil))))) pss_nil)
    (pss_one (ps_if (pt_cmp (pc_isN (pv 1))) (pss_one (ps_raise rfl tk (pmk_exmk Y.i_BadText (hr.mono (by decide)) (by rfl) (pa_cons (pv 2) pa_nil)))) pss_nil)))))
    (pss_one (ps_ret (pv 1)))))), wp_spX h ?_⟩
  rintro ds r hg hl
  obtain ⟨a, rfl, h⟩ := hg
  refine wp_seq ?_
  rcases h with ⟨hs, rfl⟩ | ⟨t, rfl, ok, rfl⟩
  · have z := et_not (et_test (ev_isi (K := K) (ρ := [.val (.d a), .non, .non, .non, .non, .non]) (ev_var (i := 0) rfl) (kit_str a)))
    rw [hs] at z
    exact wp_if z (fun _ => wp_raise1 ev_int ⟨rfl, rfl, rfl⟩) (fun z => by cases z)
  have okl := ok.len
  refine' wp_if (et_not (b := true) (et_test (ev_isi (ev_var rfl) (kit_str _)))) (fun z => by cases z) (fun _ => wp_next ?_)
  show WP _ [.val (.d (.str t)), .non, .non, .non, .non, .non] _
  refine wp_seq ?_
  refine' wp_asg (x := .d (W3.mk [] [] []).d) (ev_tup (ds := [.tuple [], .tuple [], .tuple []]) (ea_cons (ev_tup (ds := []) ea_nil (Nat.zero_le _)) (ea_cons (ev_tup (ds := []) ea_nil (Nat.zero_le _)) (ea_cons (ev_tup (ds := []) ea_nil (Nat.zero_le _)) ea_nil))) (show 3 ≤ sizeLine by decide)) ?_
  show WP _ [.val (.d (.str t)), .val (.d (W3.mk [] [] []).d), .non, .non, .non, .non] _
  have src := ei_enumL (K := K) (EO.vl (eo_split (ρ := [.val (.d (.str t)), .val (.d (W3.mk [] [] []).d), .non, .non, .non, .non]) (c := 10) (ev_var (i := 0) rfl) (ev_str (s := "\n")) tl_nl (by decide) (by rw [PySem.sizeLine_eq]; omega)))
  have sp : (splitS 10 t).length ≤ t.length + 1 := by
    unfold splitS
    rw [List.length_map, TL.len_tl]
    exact cut_count 10 _
  obtain ⟨Ls, hL⟩ : ∃ Ls, splitS 10 t = Ls := ⟨_, rfl⟩
  rw [hL] at src sp ⊢
  have el : ((enumD (Ls.map PyData.str)).map Val.d).length = Ls.length := by rw [List.length_map, enumD, List.length_map, List.length_range, List.length_map]
  refine wp_seq ?_
  refine' wp_for (fun i ρ => ∃ (w : W3) (s2 s3 s4 s5 : Slot), ρ = [.val (.d (.str t)), .val (.d w.d), s2, s3, s4, s5] ∧ (∀ l c, s5 ≠ .own l c) ∧ w.Ok ∧ runT ((Ls.map wordsS).drop i) i w = runT (Ls.map wordsS) 0 ⟨[], [], []⟩) src ⟨_, _, _, _, _, rfl, (fun l c h => by cases h), empty_ok, rfl⟩ ?body ?done
  case done =>
    rintro _ ⟨w, s2, s3, s4, s5, rfl, _, ow, hr⟩
    rw [el] at hr
    rw [List.drop_of_length_le (by rw [List.length_map]; exact Nat.le_refl _)] at hr
    rw [← hr]
    show WP _ _ _
    exact wp_ret (ev_var rfl) rfl
  case body =>
    rintro i x _ hx ⟨w, s2, s3, s4, s5, rfl, hs5, ow, hr⟩
    have hi : i < Ls.length := by
      have := (List.getElem?_eq_some_iff.mp hx).1
      rw [el] at this
      exact this
    have hli : Ls[i]? = some Ls[i] := List.getElem?_eq_getElem hi
    have hm : Ls[i] ∈ splitS 10 t := by rw [hL]; exact List.getElem_mem hi
    have ex : x = .d (.tuple [.int (i : Nat), .str Ls[i]]) := by
      rw [List.getElem?_map, enumD, List.getElem?_map, List.getElem?_range (by rw [List.length_map]; exact hi)] at hx
      simp [List.getD_eq_getElem?_getD, hli] at hx
      exact hx.symm
    subst ex
    have er : (Ls.map wordsS).drop i = wordsS Ls[i] :: (Ls.map wordsS).drop (i + 1) := by
      rw [List.drop_eq_getElem_cons (by rw [List.length_map]; exact hi), List.getElem_map]
    rw [er] at hr
    rw [runT_cons] at hr
    have wne := words_ok ok hm
    have wt := words_tame ok hm
    have ll := line_len hm
    generalize Ls[i] = line at hr wne wt ll hli
    clear hli er hm
    refine ⟨_, gt_or1 (gt_tup (gts_cons gt_name (gts_cons gt_name gts_nil)) rfl), ?_⟩
    show WP _ [.val (.d (.str t)), .val (.d w.d), .val (.d (.int (i : Nat))), .val (.d (.str line)), s4, s5] _
    have ew : ((splitS 32 line).filter fun z => decide (TL.tl z ≠ [])) = wordsS line := rfl
    have lsz : ∀ z ∈ splitS 32 line, z.length ≤ sizeLine := fun z hz => by
      obtain ⟨p, hp, rfl⟩ := List.mem_map.mp hz
      have := cut_each hp
      rw [← TL.len_tl] at this
      rw [PySem.sizeLine_eq, TL.len_tl, tl_mkS]
      omega
    have sp2 : (splitS 32 line).length < sizeLine := by
      unfold splitS
      rw [List.length_map]
      have := cut_count 32 (TL.tl line)
      rw [← TL.len_tl] at this
      rw [PySem.sizeLine_eq]
      omega
    have src2 := ei_or1 (b := iTup K (tM1 rSplit (tVar 3) (tC (.str (" " : Str))))) (ei_list (K := K) (EO.vl (eo_split (ρ := [.val (.d (.str t)), .val (.d w.d), .val (.d (.int (i : Nat))), .val (.d (.str line)), s4, s5]) (c := 32) (ev_var (i := 3) rfl) (ev_str (s := " ")) tl_sp (by decide) (by rw [PySem.sizeLine_eq]; omega))))
    rw [List.map_map] at src2
    refine wp_seq ?_
    refine' wp_asg (x := .d (.list ((wordsS line).map PyData.str))) (EO.vl ?wl) ?_
    case wl =>
      rw [← ew]
      refine' eo_lc0 (ρ := [.val (.d (.str t)), .val (.d w.d), .val (.d (.int (i : Nat))), .val (.d (.str line)), s4, s5]) (ρ1 := [.val (.d (.str t)), .val (.d w.d), .val (.d (.int (i : Nat))), .val (.d (.str line)), s4, s5]) (vs := [5]) (splitS 32 line) (fun z => .d (.str z)) (fun z => decide (TL.tl z ≠ [])) (fun z => .str z) (fun z => [.d (.str z)]) (EI.c src2) (is := [5]) (fun j h => h) (fun j hj l c h => ?_) sp2 (fun z hz => ⟨gt_name, et_tru (ev_var (i := 5) rfl) ?_, fun _ => ev_var (i := 5) rfl⟩)
      · simp only [List.mem_cons, List.not_mem_nil, or_false] at hj
        subst hj
        exact hs5 l c (Option.some.inj h)
      · show (if z.length ≤ sizeLine then some (decide (TL.tl z ≠ [])) else none) = _
        rw [if_pos (lsz z hz)]
    show WP _ [.val (.d (.str t)), .val (.d w.d), .val (.d (.int (i : Nat))), .val (.d (.str line)), .val (.d (.list ((wordsS line).map PyData.str))), s5] _
    refine wp_seq ?_
    by_cases hw : wordsS line = []
    · rw [if_pos hw] at hr
      rw [hw]
      refine' wp_if (b := false) (et_tru (ev_var rfl) rfl) (fun z => by cases z) (fun _ => wp_next ?_)
      show WP _ [.val (.d (.str t)), .val (.d w.d), .val (.d (.int (i : Nat))), .val (.d (.str line)), .val (.d (.list [])), s5] _
      refine' wp_if (b := false) (et_b (ev_isN (a := w.d) (ev_var rfl))) (fun z => by cases z) (fun _ => wp_next ?_)
      exact ⟨w, _, _, _, _, rfl, hs5, ow, hr⟩
    · rw [if_neg hw] at hr
      have wo := wne hw
      have rn := row_nice wo wt
      have tr : truT (.list ((wordsS line).map PyData.str)) = some true := by
        cases q : wordsS line with
        | nil => exact absurd q hw
        | cons a b => rfl
      refine' wp_if (b := true) (et_tru (ev_var rfl) tr) (fun _ => ?_) (fun z => by cases z)
      refine' wp_asg (ev_c2 (E := E) (f := gWithW) (ev_var (i := 1) rfl) (ev_var (i := 4) rfl) ⟨w.a, w.b, w.c, wordsS line, rfl, rfl, wo, ow.la, ow.lb, ow.lc, fun k _ => ?nice, rfl⟩) ?_
      case nice =>
        rw [← add_d]
        obtain ⟨h1, h2, h3, h4, h5, h6⟩ := add_mem ow rn k
        exact W3.nice h1 h2 h3 h4 h5 h6
      rw [withD_step]
      cases q : stepT w (wordsS line) with
      | none =>
        rw [q] at hr
        have hr : Sum.inl i = runT (Ls.map wordsS) 0 ⟨[], [], []⟩ := hr
        show WP _ [.val (.d (.str t)), .val (.d .none), .val (.d (.int (i : Nat))), .val (.d (.str line)), .val (.d (.list ((wordsS line).map PyData.str))), s5] _
        refine' wp_if (b := true) (et_b (ev_isN (a := .none) (ev_var rfl))) (fun _ => ?_) (fun z => by cases z)
        rw [← hr]
        exact wp_raise1 (ev_var rfl) ⟨rfl, rfl, rfl⟩
      | some w' =>
        rw [q] at hr
        show WP _ [.val (.d (.str t)), .val (.d w'.d), .val (.d (.int (i : Nat))), .val (.d (.str line)), .val (.d (.list ((wordsS line).map PyData.str))), s5] _
        refine' wp_if (b := false) (et_b (ev_isN (a := w'.d) (ev_var rfl))) (fun z => by cases z) (fun _ => wp_next ?_)
        exact ⟨w', _, _, _, _, rfl, hs5, step_ok ow rn q, hr⟩
end

end Pv

set_option Elab.async false
set_option linter.all false
set_option maxRecDepth 100000
set_option maxHeartbeats 4000000
open PySem L2 Pw Hd
namespace Pv

section
variable {P : Program} {w : World} {K : PySem.W.Frag} {mg : Str → Option Value} {base : Heap}
theorem sc__law_is_row : FnScope [("value" : Str), ("most" : Str), ("width" : Str), ("names" : Str), ("one" : Str)] [("value" : Str), ("most" : Str), ("width" : Str)] (defScope s__law_is_row) := ⟨rfl, rfl, rfl, by decide +kernel, rfl, by decide +kernel, by decide +kernel⟩
theorem c__law_is_row  (D : Df K mg "_law_is_row" s__law_is_row) (T : Bt mg)  (c__law_is_name : Cal P w K mg base 1 "_law_is_name" ["value"] (sp1 gNm2)) : Cal P w K mg base 2 "_law_is_row" ["value", "most", "width"] (sp3 gLRow) := by
  have sc := sc__law_is_row
  refine cal_mk (k := 1) D sc (fun vs H Q E s => len3 s) (fun _ _ _ _ _ _ us hl => match us, hl with | [_, _, _], _ => rfl) (fun f cdv A outer st H vs Q E hr h => ⟨_, (pss_cons (ps_if ((pw_or (pt_not (pt_val (pe_callB (call_isiK' K) (by rfl) T.b_isinstance (by decide +kernel) (pa_cons (pv 0) (pa_cons (pe_bltn (v := .ty "tuple") (by rfl) T.b_tuple (by decide +kernel) rfl) pa_nil))))) (pw_or1 (pt_cmpR op_gt (pe_callB (call_lenK K) (by rfl) T.b_len (by decide +kernel) (pa_cons (pv 0) pa_nil)) (pv 1) (nomark _))))).pt (pss_one (ps_ret pe_bl)) pss_nil)
    (pss_cons (ps_set (i := 3) sc.nd rfl (Or.inl rfl) (pe_lst pa_nil))
    (pss_cons (ps_for PassesOwn.never rfl (pi_LT K (pv 0)) (pg_name (i := 4) sc.nd rfl (Or.inl rfl)) (pss_cons (ps_if ((pw_or (pt_not (pt_val (pe_callB (call_isiK' K) (by rfl) T.b_isinstance (by decide +kernel) (pa_cons (pv 4) (pa_cons (pe_bltn (v := .ty "tuple") (by rfl) T.b_tuple (by decide +kernel) rfl) pa_nil))))) (pw_or (pt_cmpR (op_neK K hr.units) (pe_callB (call_lenK K) (by rfl) T.b_len (by decide +kernel) (pa_cons (pv 4) pa_nil)) (pv 2) (nomark _)) (pw_or (pt_not (pt_val (pe_cal c__law_is_name hr (by decide) (by rfl) (pa_cons (pe_ix (ix_K K) (pv 4) pe_int (fun _ _ => rfl)) pa_nil)))) (pw_or1 (pt_cmpR (op_inK K (hu65 hr)) (pe_ix (ix_K K) (pv 4) pe_int (fun _ _ => rfl)) (pv 3) (by rfl))))))).pt (pss_one (ps_ret pe_bl)) pss_nil)
    (pss_one (ps_expr (pe_bmK K PySem.F.plainAttrs_list PySem.F.slot_list_append PySem.F.type_list_append mt_append (pv 3) (pa_cons (pe_ix (ix_K K) (pv 4) pe_int (fun _ _ => rfl)) pa_nil))))))
    (pss_one (ps_ret pe_bl))))), wp3 h ?_⟩)
  rintro a _ _ _ ⟨most, width, hn, rfl, rfl, rfl⟩
  refine wp_seq ?_
  by_cases ht : isTup a = true
  case neg =>
    have ht : isTup a = false := by simpa using ht
    refine' wp_if (et_or0 (a := true) (b := true) ?e1 (fun z => by cases z)) (fun _ => ?_) (fun z => by cases z)
    case e1 =>
      have := et_not (et_test (ev_isi (K := K) (ρ := [.val (.d a), .val (.d (.int most)), .val (.d (.int (width + 1 : Nat))), .non, .non]) (ev_var (i := 0) rfl) (kit_tup a)))
      rw [ht] at this
      exact this
    refine' wp_ret ev_bl ?_
    show _ = _
    cases a <;> first | (cases ht; done) | rfl
  obtain ⟨ds, rfl⟩ := tup_of ht
  have er : rowB (.tuple ds) most (width + 1 : Nat) = (decide ((ds.length : Int) ≤ most) && (ds.all (fun d => rowOkB d (width + 1 : Nat)) && decide ((ds.map nm).Nodup))) := rfl
  refine' wp_if (et_or0 (a := false) (b := decide ((most : Int) < ds.length)) (et_not (b := true) (et_test (ev_isi (ev_var rfl) (kit_tup _)))) (fun _ => et_b (ev_op (ev_cb1 (ev_var rfl) cd_lenT) (ev_var rfl) opd_gt))) (fun q => ?_) (fun q => ?_)
  · have q := of_decide_eq_true q
    refine' wp_ret ev_bl ?_
    show _ = _
    rw [er, decide_eq_false (by omega)]
    rfl
  have q := of_decide_eq_false q
  have le : decide ((ds.length : Int) ≤ most) = true := decide_eq_true (by omega)
  rw [le, Bool.true_and] at er
  rw [er]
  have hlen : ds.length < 100000 := by
    have := hn.1
    simp only [tame, Bool.and_eq_true, decide_eq_true_eq] at this
    exact this.1
  refine wp_next ?_
  show WP _ _ _
  refine wp_seq ?_
  refine' wp_asgO (eo_lst (ds := []) ea_nil (by decide)) ?_
  show WP _ _ _
  refine wp_seq ?_
  refine' wp_for (fun i ρ => ∃ s4, ρ = [.val (.d (.tuple ds)), .val (.d (.int most)), .val (.d (.int (width + 1 : Nat))), .own true (.lst ((ds.take i).map fun d => .str (nm d))), s4] ∧ (∀ d ∈ ds.take i, rowOkB d (width + 1 : Nat) = true) ∧ ((ds.take i).map nm).Nodup) (ei_or2 (ei_tup (ev_var rfl))) ⟨_, rfl, fun d h => by simp at h, by simp⟩ ?body ?done
  case body =>
    rintro i x _ hx ⟨s4, rfl, hall, hnd⟩
    obtain ⟨d, hdi, rfl⟩ := at_map hx
    have hi : i < ds.length := (List.getElem?_eq_some_iff.mp hdi).1
    have nd : Nice 9 d := hn.part rfl (List.mem_of_getElem? hdi)
    have tk : ds.take (i + 1) = ds.take i ++ [d] := by rw [List.take_add_one, hdi]; rfl
    have shn : SeqAt.shaped (.list ((ds.take i).map fun d => .str (nm d))) = true := by
      have := shaped_names (zs := (ds.take i).map nm) fun z hz => by
        obtain ⟨y, hy, rfl⟩ := List.mem_map.mp hz
        have ny : Nice 9 y := hn.part rfl (List.mem_of_mem_take hy)
        have o1 := hall y hy
        simp only [rowOkB, Bool.and_eq_true] at o1
        obtain ⟨z, ez⟩ := name_str o1.2.2
        have := ny.at0.1
        rw [ez] at this
        simp only [nm, ez]
        exact this
      rw [List.map_map] at this
      exact this
    refine ⟨_, gt_name, ?_⟩
    show WP _ [.val (.d (.tuple ds)), .val (.d (.int most)), .val (.d (.int (width + 1 : Nat))), .own true (.lst ((ds.take i).map fun d => .str (nm d))), .val (.d d)] _
    refine wp_seq ?_
    have at0e : ∀ es : List PyData, es.length = width + 1 → es[0]? = some (at0 (.tuple es)) := fun es h => by
      have : 0 < es.length := by omega
      simp [at0, seqOf, this]
    refine' wp_if (b := !isTup d || (!decide (((partsD d).length : Int) = (width + 1 : Nat)) || (!nameZ (at0 d) || ((ds.take i).map fun d => PyData.str (nm d)).any fun z => PyData.eqv z (at0 d)))) (et_or0 (et_not (et_test (ev_isi (ev_var rfl) (kit_tup d)))) (fun h1 => ?c2)) (fun b => ?_) (fun b => wp_next ?_)
    case c2 =>
      have h1 : isTup d = true := by simpa using h1
      obtain ⟨es, rfl⟩ := tup_of h1
      refine' et_or0 (et_b (ev_op (ev_cb1 (ev_var rfl) cd_lenT) (ev_var rfl) opd_ne_int)) (fun h2 => ?_)
      have h2 : es.length = width + 1 := by
        by_cases z : ((es.length : Nat) : Int) = (width + 1 : Nat)
        · omega
        · exfalso
          have h2 : (!decide (((es.length : Nat) : Int) = (width + 1 : Nat))) = false := h2
          rw [decide_eq_false z] at h2
          cases h2
      have ix := opd_ixT (K := K) (Pw.atI_nat (i := 0) (at0e es h2))
      exact et_or0 (et_not (et_test (ev_c1 (ev_op (ev_var rfl) ev_int ix) ⟨nd.at0.smS, rfl⟩))) (fun h3 => et_b (ev_inO (ev_op (ev_var rfl) ev_int ix) rfl (nd.at0.shaped (by decide)) shn))
    · refine' wp_ret ev_bl ?_
      show _ = _
      have bad : (ds.all (fun d => rowOkB d (width + 1 : Nat)) && decide ((ds.map nm).Nodup)) = false := by
        cases z : (ds.all (fun d => rowOkB d (width + 1 : Nat)) && decide ((ds.map nm).Nodup)) with
        | false => rfl
        | true =>
          exfalso
          simp only [Bool.and_eq_true, decide_eq_true_eq] at z
          have od := List.all_eq_true.mp z.1 d (List.mem_of_getElem? hdi)
          simp only [rowOkB, Bool.and_eq_true] at od
          obtain ⟨es, rfl⟩ := tup_of od.1
          have wl : (((partsD (.tuple es)).length : Nat) : Int) = (width + 1 : Nat) := of_decide_eq_true od.2.1
          obtain ⟨s, hs⟩ := name_str od.2.2
          rw [od.1, od.2.2, decide_eq_true wl] at b
          have b : (((ds.take i).map fun d => PyData.str (nm d)).any fun z => PyData.eqv z (at0 (.tuple es))) = true := by simpa using b
          obtain ⟨y, hy, ey⟩ := List.any_eq_true.mp b
          obtain ⟨d2, hd2, rfl⟩ := List.mem_map.mp hy
          have ey := eqv_str ey
          have en : nm (.tuple es) = nm d2 := by simp [nm, ey]
          have nd2 := z.2
          rw [show ds = ds.take (i + 1) ++ ds.drop (i + 1) by rw [List.take_append_drop], tk, List.map_append, List.map_append, List.nodup_append, List.nodup_append] at nd2
          exact nd2.1.2.2 _ (List.mem_map.mpr ⟨d2, hd2, rfl⟩) _ (by simp) en.symm
      rw [bad]
    · have g1 : isTup d = true ∧ decide (((partsD d).length : Int) = (width + 1 : Nat)) = true ∧ nameZ (at0 d) = true ∧ (((ds.take i).map fun d => PyData.str (nm d)).any fun z => PyData.eqv z (at0 d)) = false := by
        cases y1 : isTup d <;> cases y2 : decide (((partsD d).length : Int) = (width + 1 : Nat)) <;> cases y3 : nameZ (at0 d) <;> cases y4 : (((ds.take i).map fun d => PyData.str (nm d)).any fun z => PyData.eqv z (at0 d)) <;> first | exact ⟨rfl, rfl, rfl, rfl⟩ | (rw [y1, y2, y3, y4] at b; exact absurd b (by decide))
      obtain ⟨h1, h2, h3, h4⟩ := g1
      obtain ⟨es, rfl⟩ := tup_of h1
      have h2' : es.length = width + 1 := by have := of_decide_eq_true h2; have : (((es.length : Nat) : Int)) = (width + 1 : Nat) := this; omega
      obtain ⟨s, hs⟩ := name_str h3
      have en : at0 (.tuple es) = .str (nm (.tuple es)) := by rw [nm, hs]
      have ix := opd_ixT (K := K) (Pw.atI_nat (i := 0) (at0e es h2'))
      show WP _ _ _
      refine' wp_append rfl (ev_op (ev_var rfl) ev_int ix) rfl (by rw [List.length_map, List.length_take, PySem.sizeLine_eq]; omega) ?_
      refine ⟨_, by rw [tk, List.map_append, en]; rfl, fun y hy => ?_, ?_⟩
      · rw [tk] at hy
        rcases List.mem_append.mp hy with hy | hy
        · exact hall y hy
        · rw [List.mem_singleton.mp hy]
          simp only [rowOkB, h1, h3, Bool.true_and, Bool.and_true]
          exact h2
      · rw [tk, List.map_append, List.nodup_append]
        refine ⟨hnd, by simp, fun u hu v hv e => ?_⟩
        have hv : v = nm (.tuple es) := by simpa using hv
        obtain ⟨d2, hd2, rfl⟩ := List.mem_map.mp hu
        have : (((ds.take i).map fun d => PyData.str (nm d)).any fun z => PyData.eqv z (at0 (.tuple es))) = true :=
          List.any_eq_true.mpr ⟨_, List.mem_map.mpr ⟨d2, hd2, rfl⟩, by rw [en, e, hv]; simp [PyData.eqv]⟩
        rw [this] at h4
        cases h4
  case done =>
    rintro _ ⟨s4, rfl, hall, hnd⟩
    rw [List.length_map, List.take_length] at hall hnd
    show WP _ _ _
    refine' wp_ret ev_bl ?_
    show _ = _
    rw [List.all_eq_true.mpr hall, decide_eq_true hnd]
    rfl
end

end Pv

set_option Elab.async false
set_option linter.all false
set_option maxRecDepth 100000
set_option maxHeartbeats 4000000
open PySem L2 Pw Hd
namespace Pv

section
variable {P : Program} {w : World} {K : PySem.W.Frag} {mg : Str → Option Value} {base : Heap}
theorem sc__law_is_map : FnScope [("value" : Str), ("one" : Str), ("names" : Str), ("count" : Str), ("place" : Str)] [("value" : Str)] (defScope s__law_is_map) := ⟨rfl, rfl, rfl, by decide +kernel, rfl, by decide +kernel, by decide +kernel⟩
theorem c__law_is_map  (D : Df K mg "_law_is_map" s__law_is_map) (T : Bt mg)  (c__law_is_number : Cal P w K mg base 2 "_law_is_number" ["value", "limit"] (sp2 gNum)) (c__law_is_row : Cal P w K mg base 2 "_law_is_row" ["value", "most", "width"] (sp3 gLRow)) : Cal P w K mg base 3 "_law_is_map" ["value"] (sp1 gLMap) := by
  have sc := sc__law_is_map
  refine cal_mk (k := 2) D sc (fun vs H Q E s => len1 s) (fun _ _ _ _ _ _ us hl => match us, hl with | [_], _ => rfl) (fun f cdv A outer st H vs Q E hr h => ⟨_, (pss_cons (ps_if ((pw_or (pt_not (pt_val (pe_callB (call_isiK' K) (by rfl) T.b_isinstance (by decide +kernel) (pa_cons (pv 0) (pa_cons (pe_bltn (v := .ty "tuple") (by rfl) T.b_tuple (by decide +kernel) rfl) pa_nil))))) (pw_or1 (pt_cmpR (op_neK K hr.units) (pe_callB (call_lenK K) (by rfl) T.b_len (by decide +kernel) (pa_cons (pv 0) pa_nil)) pe_int (nomark _))))).pt (pss_one (ps_ret pe_bl)) pss_nil)
    (pss_cons (ps_if ((pw_or (pt_not (pt_val (pe_cal c__law_is_row hr (by decide) (by rfl) (pa_cons (pe_ix (ix_K K) (pv 0) pe_int (fun _ _ => rfl)) (pa_cons pe_int (pa_cons pe_int pa_nil)))))) (pw_or (pt_not (pt_val (pe_cal c__law_is_row hr (by decide) (by rfl) (pa_cons (pe_ix (ix_K K) (pv 0) pe_int (fun _ _ => rfl)) (pa_cons pe_int (pa_cons pe_int pa_nil)))))) (pw_or1 (pt_not (pt_val (pe_cal c__law_is_row hr (by decide) (by rfl) (pa_cons (pe_ix (ix_K K) (pv 0) pe_int (fun _ _ => rfl)) (pa_cons pe_int (pa_cons pe_int pa_nil)))))))))).pt (pss_one (ps_ret pe_bl)) pss_nil)
    (pss_cons (ps_for PassesOwn.never rfl (pi_LT K (pe_op (op_plusK K) (pe_ix (ix_K K) (pv 0) pe_int (fun _ _ => rfl)) (pe_ix (ix_K K) (pv 0) pe_int (fun _ _ => rfl)))) (pg_name (i := 1) sc.nd rfl (Or.inl rfl)) (pss_one (ps_if ((pw_or (pt_not (pt_val (pe_cal c__law_is_number hr (by decide) (by rfl) (pa_cons (pe_ix (ix_K K) (pv 1) pe_int (fun _ _ => rfl)) (pa_cons (pe_op op_pow pe_int pe_int) pa_nil))))) (pw_or1 (pt_not (pt_val (pe_cal c__law_is_number hr (by decide) (by rfl) (pa_cons (pe_ix (ix_K K) (pv 1) pe_int (fun _ _ => rfl)) (pa_cons (pe_op op_pow pe_int pe_int) pa_nil)))))))).pt (pss_one (ps_ret pe_bl)) pss_nil)))
    (pss_cons (ps_for PassesOwn.never rfl (pi_LT K (pe_ix (ix_K K) (pv 0) pe_int (fun _ _ => rfl))) (pg_name (i := 1) sc.nd rfl (Or.inl rfl)) (pss_one (ps_if ((pw_or (pt_not (pt_val (pe_cal c__law_is_number hr (by decide) (by rfl) (pa_cons (pe_ix (ix_K K) (pv 1) pe_int (fun _ _ => rfl)) (pa_cons (pe_op op_pow pe_int pe_int) pa_nil))))) (pw_or (pt_not (pt_val (pe_cal c__law_is_number hr (by decide) (by rfl) (pa_cons (pe_ix (ix_K K) (pv 1) pe_int (fun _ _ => rfl)) (pa_cons (pe_op op_pow pe_int pe_int) pa_nil))))) (pw_or (pt_cmpR op_lt (pe_ix (ix_K K) (pv 1) pe_int (fun _ _ => rfl)) pe_int (nomark _)) (pw_or1 (pt_cmpR op_lt (pe_ix (ix_K K) (pv 1) pe_int (fun _ _ => rfl)) pe_int (nomark _))))))).pt (pss_one (ps_ret pe_bl)) pss_nil)))
    (pss_cons (ps_setLc (i := 2) (own := [("one", 1)]) rfl sc.nd rfl rfl (sw_true rfl rfl rfl (by decide +kernel)) (pi_LT K (pe_ix (ix_K K) (pv 0) pe_int (fun _ _ => rfl))) (blkOk_by (by rfl)) (fun _ _ _ _ _ => (pg_name (i := 1) sc.nd rfl (Or.inl rfl))) (fun _ _ _ _ _ => pts_nil) (fun _ _ _ _ _ => (pe_ix (ix_K K) (pv 1) pe_int (fun _ _ => rfl))))
    (pss_cons (ps_set (i := 3) sc.nd rfl (Or.inl rfl) pe_int)
    (pss_cons (ps_for PassesOwn.never rfl (pi_LT K (pe_ix (ix_K K) (pv 0) pe_int (fun _ _ => rfl))) (pg_name (i := 1) sc.nd rfl (Or.inl rfl)) (pss_cons (ps_if ((pw_or (pt_cmpR (op_notInK K (hu65 hr)) (pe_ix (ix_K K) (pv 1) pe_int (fun _ _ => rfl)) (pv 2) (by rfl)) (pw_or (pt_cmpR (op_notInK K (hu65 hr)) (pe_ix (ix_K K) (pv 1) pe_int (fun _ _ => rfl)) (pv 2) (by rfl)) (pw_or1 (pt_cmpR (op_eqK K hr.units) (pe_ix (ix_K K) (pv 1) pe_int (fun _ _ => rfl)) (pe_ix (ix_K K) (pv 1) pe_int (fun _ _ => rfl)) (nomark _)))))).pt (pss_one (ps_ret pe_bl)) pss_nil)
    (pss_cons (ps_if ((pw_or (pt_not (pt_val (pe_callB (call_isiK' K) (by rfl) T.b_isinstance (by decide +kernel) (pa_cons (pe_ix (ix_K K) (pv 1) pe_int (fun _ _ => rfl)) (pa_cons (pe_bltn (v := .ty "tuple") (by rfl) T.b_tuple (by decide +kernel) rfl) pa_nil))))) (pw_or1 (pt_cmpR op_gt (pe_callB (call_lenK K) (by rfl) T.b_len (by decide +kernel) (pa_cons (pe_ix (ix_K K) (pv 1) pe_int (fun _ _ => rfl)) pa_nil)) pe_int (nomark _))))).pt (pss_one (ps_ret pe_bl)) pss_nil)
    (pss_cons (ps_set (i := 3) sc.nd rfl (Or.inl rfl) (pe_op (op_plusK K) (pv 3) (pe_callB (call_lenK K) (by rfl) T.b_len (by decide +kernel) (pa_cons (pe_ix (ix_K K) (pv 1) pe_int (fun _ _ => rfl)) pa_nil))))
    (pss_one (ps_for PassesOwn.never rfl (pi_LT K (pe_ix (ix_K K) (pv 1) pe_int (fun _ _ => rfl))) (pg_name (i := 4) sc.nd rfl (Or.inl rfl)) (pss_cons (ps_if ((pw_or (pt_not (pt_val (pe_callB (call_isiK' K) (by rfl) T.b_isinstance (by decide +kernel) (pa_cons (pv 4) (pa_cons (pe_bltn (v := .ty "tuple") (by rfl) T.b_tuple (by decide +kernel) rfl) pa_nil))))) (pw_or1 (pt_cmpR (op_neK K hr.units) (pe_callB (call_lenK K) (by rfl) T.b_len (by decide +kernel) (pa_cons (pv 4) pa_nil)) pe_int (nomark _))))).pt (pss_one (ps_ret pe_bl)) pss_nil)
    (pss_one (ps_if ((pw_or (pt_not (pt_val (pe_cal c__law_is_number hr (by decide) (by rfl) (pa_cons (pe_ix (ix_K K) (pv 4) pe_int (fun _ _ => rfl)) (pa_cons (pe_op op_pow pe_int pe_int) pa_nil))))) (pw_or1 (pt_not (pt_val (pe_cal c__law_is_number hr (by decide) (by rfl) (pa_cons (pe_ix (ix_K K) (pv 4) pe_int (fun _ _ => rfl)) (pa_cons (pe_op op_pow pe_int pe_int) pa_nil)))))))).pt (pss_one (ps_ret pe_bl)) pss_nil)))))))))
    (pss_one (ps_ret (pe_cmpR op_le (pv 3) pe_int (nomark _))))))))))), wp1 h ?_⟩)
  rintro a _ ⟨hn, rfl⟩
  refine wp_seq ?_
  by_cases ht : isTup a = true
  case neg =>
    have ht : isTup a = false := by simpa using ht
    refine' wp_if (et_or0 (a := true) (b := true) ?e1 (fun z => by cases z)) (fun _ => ?_) (fun z => by cases z)
    case e1 =>
      have := et_not (et_test (ev_isi (K := K) (ρ := [.val (.d a), .non, .non, .non, .non]) (ev_var (i := 0) rfl) (kit_tup a)))
      rw [ht] at this
      exact this
    refine' wp_ret ev_bl ?_
    show _ = _
    unfold lawB
    rw [ht]
    rfl
  obtain ⟨xs, rfl⟩ := tup_of ht
  refine' wp_if (et_or0 (a := false) (b := !decide ((xs.length : Int) = 3)) (et_not (b := true) (et_test (ev_isi (ev_var rfl) (kit_tup _)))) (fun _ => et_b (ev_op (ev_cb1 (ev_var rfl) cd_lenT) ev_int opd_ne_int))) (fun q => ?_) (fun q => ?_)
  · refine' wp_ret ev_bl ?_
    show _ = _
    have e : rowZ (.tuple xs) 3 = decide ((xs.length : Int) = 3) := rfl
    have q : decide ((xs.length : Int) = 3) = false := by simpa using q
    unfold lawB
    rw [e, q]
    rfl
  have hl : xs.length = 3 := by
    by_cases z : (xs.length : Int) = 3
    · omega
    · rw [decide_eq_false z] at q; cases q
  match xs, hl with
  | [x0, x1, x2], _ =>
  have n0 : Nice 9 x0 := hn.part rfl (by simp)
  have n1 : Nice 9 x1 := hn.part rfl (by simp)
  have n2 : Nice 9 x2 := hn.part rfl (by simp)
  have key := law_three x0 x1 x2
  refine wp_next ?_
  show WP _ [.val (.d (.tuple [x0, x1, x2])), .non, .non, .non, .non] _
  refine wp_seq ?_
  refine' wp_if (b := !rowB x0 16 3 || (!rowB x1 16 4 || !rowB x2 10 5)) (et_or0 (et_not (et_test (ev_c3 (ev_op (ev_var rfl) ev_int opd_ix0T) ev_int ev_int ⟨16, 2, n0, rfl, rfl, rfl⟩))) (fun _ => et_or0 (et_not (et_test (ev_c3 (ev_op (ev_var rfl) ev_int opd_ix1T) ev_int ev_int ⟨16, 3, n1, rfl, rfl, rfl⟩))) (fun _ => et_not (et_test (ev_c3 (ev_op (ev_var rfl) ev_int opd_ix2T) ev_int ev_int ⟨10, 4, n2, rfl, rfl, rfl⟩))))) (fun q => ?_) (fun q => ?_)
  · refine' wp_ret ev_bl ?_
    show _ = _
    rw [key]
    cases y0 : rowB x0 16 3 <;> cases y1 : rowB x1 16 4 <;> cases y2 : rowB x2 10 5 <;> first | rfl | (rw [y0, y1, y2] at q; exact absurd q (by decide))
  have rows : rowB x0 16 3 = true ∧ rowB x1 16 4 = true ∧ rowB x2 10 5 = true := by
    cases y0 : rowB x0 16 3 <;> cases y1 : rowB x1 16 4 <;> cases y2 : rowB x2 10 5 <;> first | exact ⟨rfl, rfl, rfl⟩ | (rw [y0, y1, y2] at q; exact absurd q (by decide))
  obtain ⟨r0, r1, r2⟩ := rows
  rw [r0, r1, r2] at key
  obtain ⟨ds0, rfl, l0, p0⟩ := row_parts r0
  obtain ⟨ds1, rfl, l1, p1⟩ := row_parts r1
  obtain ⟨ds2, rfl, l2, p2⟩ := row_parts r2
  have q0 : partsD (.tuple ds0) = ds0 := rfl
  have q1 : partsD (.tuple ds1) = ds1 := rfl
  have q2 : partsD (.tuple ds2) = ds2 := rfl
  rw [q0, q1, q2] at key
  simp only [Bool.true_and] at key
  rw [key]
  refine wp_next ?_
  show WP _ [.val (.d (.tuple [.tuple ds0, .tuple ds1, .tuple ds2])), .non, .non, .non, .non] _
  refine wp_seq ?_
  refine' wp_for (fun i ρ => ∃ s1, ρ = [.val (.d (.tuple [.tuple ds0, .tuple ds1, .tuple ds2])), s1, .non, .non, .non] ∧ (∀ l c, s1 ≠ .own l c) ∧ ∀ d ∈ (ds0 ++ ds2).take i, numOk d = true) (ei_or2 (ei_tup (ev_op (ev_op (ev_var rfl) ev_int opd_ix0T) (ev_op (ev_var rfl) ev_int opd_ix2T) (opd_cat_tup (by rw [PySem.sizeLine_eq]; omega))))) ⟨_, rfl, fun l c z => (by cases z), fun d h => by simp at h⟩ ?b1 ?d1
  case b1 =>
    rintro i x _ hx ⟨s1, rfl, no1, hall⟩
    obtain ⟨d, hdi, rfl⟩ := at_map hx
    have hm := List.mem_of_getElem? hdi
    obtain ⟨es, rfl, le⟩ : ∃ es, d = .tuple es ∧ 3 ≤ es.length := by
      rcases List.mem_append.mp hm with h | h
      · obtain ⟨es, s, rfl, h, _⟩ := p0 d h; exact ⟨es, rfl, by omega⟩
      · obtain ⟨es, s, rfl, h, _⟩ := p2 d h; exact ⟨es, rfl, by omega⟩
    have i1 := opd_ixT (K := K) (Pw.atI_nat (i := 1) (at_part (es := es) (by omega)))
    have i2 := opd_ixT (K := K) (Pw.atI_nat (i := 2) (at_part (es := es) (by omega)))
    refine ⟨_, gt_name, ?_⟩
    show WP _ [.val (.d (.tuple [.tuple ds0, .tuple ds1, .tuple ds2])), .val (.d (.tuple es)), .non, .non, .non] _
    refine' wp_if (b := !betZ (partD (.tuple es) 1) (-1000000000) 1000000000 || !betZ (partD (.tuple es) 2) (-1000000000) 1000000000) (et_or0 (et_not (et_test (ev_c2 (ev_op (ev_var rfl) ev_int i1) ev_pow9 ⟨_, rfl, rfl⟩))) (fun _ => et_not (et_test (ev_c2 (ev_op (ev_var rfl) ev_int i2) ev_pow9 ⟨_, rfl, rfl⟩)))) (fun q => ?_) (fun q => wp_next ⟨_, rfl, fun l c z => (by cases z), fun y hy => ?_⟩)
    · refine' wp_ret ev_bl ?_
      show _ = _
      rw [all_false hm (by unfold numOk; cases y0 : betZ (partD (.tuple es) 1) (-1000000000) 1000000000 <;> cases y1 : betZ (partD (.tuple es) 2) (-1000000000) 1000000000 <;> first | rfl | (rw [y0, y1] at q; exact absurd q (by decide)))]
      rfl
    · rw [List.take_add_one, hdi] at hy
      rcases List.mem_append.mp hy with hy | hy
      · exact hall y hy
      · have : y = .tuple es := by simpa using hy
        subst this
        unfold numOk
        cases y0 : betZ (partD (.tuple es) 1) (-1000000000) 1000000000 <;> cases y1 : betZ (partD (.tuple es) 2) (-1000000000) 1000000000 <;> first | rfl | (rw [y0, y1] at q; exact absurd q (by decide))
  case d1 =>
  rintro _ ⟨s1, rfl, no1, hall⟩
  rw [List.length_map, List.take_length] at hall
  rw [List.all_eq_true.mpr hall, Bool.true_and]
  show WP _ _ _
  refine wp_seq ?_
  refine' wp_for (fun i ρ => ∃ s1, ρ = [.val (.d (.tuple [.tuple ds0, .tuple ds1, .tuple ds2])), s1, .non, .non, .non] ∧ (∀ l c, s1 ≠ .own l c) ∧ ∀ d ∈ ds2.take i, labOk d = true) (ei_or2 (ei_tup (ev_op (ev_var rfl) ev_int opd_ix2T))) ⟨_, rfl, no1, fun d h => by simp at h⟩ ?b2 ?d2
  case b2 =>
    rintro i x _ hx ⟨s1, rfl, no1, hall2⟩
    obtain ⟨d, hdi, rfl⟩ := at_map hx
    have hm := List.mem_of_getElem? hdi
    obtain ⟨es, s, rfl, h5, _⟩ := p2 d hm
    have i3 := opd_ixT (K := K) (Pw.atI_nat (i := 3) (at_part (es := es) (by omega)))
    have i4 := opd_ixT (K := K) (Pw.atI_nat (i := 4) (at_part (es := es) (by omega)))
    refine ⟨_, gt_name, ?_⟩
    show WP _ [.val (.d (.tuple [.tuple ds0, .tuple ds1, .tuple ds2])), .val (.d (.tuple es)), .non, .non, .non] _
    have lab : labOk (.tuple es) = ((betZ (partD (.tuple es) 3) (-1000000) 1000000 && !negB (partD (.tuple es) 3)) && (betZ (partD (.tuple es) 4) (-1000000) 1000000 && !negB (partD (.tuple es) 4))) := by
      unfold labOk
      rw [bet_low, bet_low (d := partD (.tuple es) 4)]
    generalize partD (.tuple es) 3 = u at i3 lab
    generalize partD (.tuple es) 4 = v at i4 lab
    refine' wp_if (b := !betZ u (-1000000) 1000000 || (!betZ v (-1000000) 1000000 || (negB u || negB v))) (et_or0 (et_not (et_test (ev_c2 (ev_op (ev_var rfl) ev_int i3) ev_pow6 ⟨_, rfl, rfl⟩))) (fun h1 => et_or0 (et_not (et_test (ev_c2 (ev_op (ev_var rfl) ev_int i4) ev_pow6 ⟨_, rfl, rfl⟩))) (fun h2 => ?neg))) (fun q => ?_) (fun q => wp_next ⟨_, rfl, fun l c z => (by cases z), fun y hy => ?_⟩)
    case neg =>
      obtain ⟨a, rfl, _⟩ := bet_int (d := u) (by simpa using h1)
      obtain ⟨b, rfl, _⟩ := bet_int (d := v) (by simpa using h2)
      exact et_or0 (et_b (ev_op (ev_op (ev_var rfl) ev_int i3) ev_int opd_lt)) (fun _ => et_b (ev_op (ev_op (ev_var rfl) ev_int i4) ev_int opd_lt))
    · refine' wp_ret ev_bl ?_
      show _ = _
      rw [all_false hm (by rw [lab]; cases y0 : betZ u (-1000000) 1000000 <;> cases y1 : betZ v (-1000000) 1000000 <;> cases y2 : negB u <;> cases y3 : negB v <;> first | rfl | (rw [y0, y1, y2, y3] at q; exact absurd q (by decide)))]
      rfl
    · rw [List.take_add_one, hdi] at hy
      rcases List.mem_append.mp hy with hy | hy
      · exact hall2 y hy
      · have : y = .tuple es := by simpa using hy
        subst this
        rw [lab]
        cases y0 : betZ u (-1000000) 1000000 <;> cases y1 : betZ v (-1000000) 1000000 <;> cases y2 : negB u <;> cases y3 : negB v <;> first | rfl | (rw [y0, y1, y2, y3] at q; exact absurd q (by decide))
  case d2 =>
  rintro _ ⟨s2, rfl, no2, hall2⟩
  rw [List.length_map, List.take_length] at hall2
  rw [List.all_eq_true.mpr hall2, Bool.true_and]
  show WP _ _ _
  refine wp_seq ?_
  refine' wp_asg (EO.vl (eo_lc1 (vs := [1]) ds0 (fun d => .d d) (fun d => .str (nm d)) (fun d => [.d d]) (EI.c (ei_or2 (ei_tup (ev_op (ev_var rfl) ev_int opd_ix0T)))) (is := [1]) (fun j h => h) ?no (size4000 (by omega)) (fun z hz => ⟨gt_name, ?nmz⟩))) ?_
  case no =>
    intro j hj l c h
    have : j = 1 := by simpa using hj
    subst this
    cases h
    exact no2 l c rfl
  case nmz =>
    obtain ⟨es, s, rfl, h3, hs⟩ := p0 z hz
    have i0 := opd_ixT (K := K) (Pw.atI_nat (i := 0) (at_part (es := es) (by omega)))
    have e : partD (.tuple es) 0 = .str (nm (.tuple es)) := by rw [nm, hs]; exact hs
    rw [e] at i0
    exact ev_op (ev_var rfl) ev_int i0
  have enm : (ds0.map fun d => PyData.str (nm d)) = (namesZ (.tuple ds0)).map .str := by rw [namesZ, q0, List.map_map]; rfl
  rw [enm]
  have shn : SeqAt.shaped (.list ((namesZ (.tuple ds0)).map .str)) = true := shaped_names fun z hz => by
    rw [namesZ, q0] at hz
    obtain ⟨d, hd, rfl⟩ := List.mem_map.mp hz
    obtain ⟨es, s, rfl, _, hs⟩ := p0 d hd
    have := (n0.part rfl hd).at0.1
    rw [hs] at this
    simp only [nm, hs]
    exact this
  generalize hns : namesZ (.tuple ds0) = ns at shn
  show WP _ [.val (.d (.tuple [.tuple ds0, .tuple ds1, .tuple ds2])), s2, .val (.d (.list (ns.map .str))), .non, .non] _
  refine wp_seq ?_
  refine' wp_asg ev_int ?_
  show WP _ [.val (.d (.tuple [.tuple ds0, .tuple ds1, .tuple ds2])), s2, .val (.d (.list (ns.map .str))), .val (.d (.int 0)), .non] _
  refine wp_seq ?_
  refine' wp_for (fun i ρ => ∃ s1 s4, ρ = [.val (.d (.tuple [.tuple ds0, .tuple ds1, .tuple ds2])), s1, .val (.d (.list (ns.map .str))), .val (.d (.int ((ds1.take i).map fun l => ((partsD (partD l 3)).length : Int)).sum)), s4] ∧ ∀ d ∈ ds1.take i, linOk ns d = true) (ei_or2 (ei_tup (ev_op (ev_var rfl) ev_int opd_ix1T))) ⟨_, _, rfl, fun d h => by simp at h⟩ ?b3 ?d3
  case b3 =>
    rintro i x _ hx ⟨s1, s4, rfl, hall3⟩
    obtain ⟨d, hdi, rfl⟩ := at_map hx
    have hm := List.mem_of_getElem? hdi
    obtain ⟨es, s, rfl, h4, _⟩ := p1 d hm
    have nd : Nice 9 (.tuple es) := n1.part rfl hm
    have i1 := opd_ixT (K := K) (Pw.atI_nat (i := 1) (at_part (es := es) (by omega)))
    have i2 := opd_ixT (K := K) (Pw.atI_nat (i := 2) (at_part (es := es) (by omega)))
    have i3 := opd_ixT (K := K) (Pw.atI_nat (i := 3) (at_part (es := es) (by omega)))
    have sh1 := (nd.partD 1).shaped (by decide)
    have sh2 := (nd.partD 2).shaped (by decide)
    have lin : linOk ns (.tuple es) = (memN ns (partD (.tuple es) 1) && (memN ns (partD (.tuple es) 2) && (!PyData.eqv (partD (.tuple es) 1) (partD (.tuple es) 2) && (isTup (partD (.tuple es) 3) && (colZ (partD (.tuple es) 3) 12 && (partsD (partD (.tuple es) 3)).all plOk))))) := rfl
    have sum := sum_snoc (fun l => ((partsD (partD l 3)).length : Int)) hdi
    generalize ((ds1.take i).map fun l => ((partsD (partD l 3)).length : Int)).sum = cn at sum
    refine ⟨_, gt_name, ?_⟩
    show WP _ [.val (.d (.tuple [.tuple ds0, .tuple ds1, .tuple ds2])), .val (.d (.tuple es)), .val (.d (.list (ns.map .str))), .val (.d (.int cn)), s4] _
    have n3 := nd.partD 3
    generalize partD (.tuple es) 1 = u at i1 lin sh1
    generalize partD (.tuple es) 2 = v at i2 lin sh2
    generalize partD (.tuple es) 3 = t at i3 lin sum n3
    refine wp_seq ?_
    refine' wp_if (b := !memN ns u || (!memN ns v || PyData.eqv u v)) (et_or0 (et_b (ev_op (ev_op (ev_var rfl) ev_int i1) (ev_var rfl) (opd_notInL sh1 shn))) (fun _ => et_or0 (et_b (ev_op (ev_op (ev_var rfl) ev_int i2) (ev_var rfl) (opd_notInL sh2 shn))) (fun _ => et_b (ev_op (ev_op (ev_var rfl) ev_int i1) (ev_op (ev_var rfl) ev_int i2) (opd_eqD sh1 sh2))))) (fun q => ?_) (fun q => wp_next ?_)
    · refine' wp_ret ev_bl ?_
      show _ = _
      rw [all_false hm (by rw [lin]; cases y0 : memN ns u <;> cases y1 : memN ns v <;> cases y2 : PyData.eqv u v <;> first | rfl | (rw [y0, y1, y2] at q; exact absurd q (by decide)))]
      rfl
    have g1 : memN ns u = true ∧ memN ns v = true ∧ PyData.eqv u v = false := by
      cases y0 : memN ns u <;> cases y1 : memN ns v <;> cases y2 : PyData.eqv u v <;> first | exact ⟨rfl, rfl, rfl⟩ | (rw [y0, y1, y2] at q; exact absurd q (by decide))
    rw [g1.1, g1.2.1, g1.2.2] at lin
    simp only [Bool.true_and, Bool.not_false] at lin
    show WP _ _ _
    refine wp_seq ?_
    by_cases tt : isTup t = true
    case neg =>
      have tt : isTup t = false := by simpa using tt
      refine' wp_if (et_or0 (a := true) (b := true) ?e2 (fun z => by cases z)) (fun _ => ?_) (fun z => by cases z)
      case e2 =>
        have := et_not (et_test (ev_isi (K := K) (ev_op (ρ := [.val (.d (.tuple [.tuple ds0, .tuple ds1, .tuple ds2])), .val (.d (.tuple es)), .val (.d (.list (ns.map .str))), .val (.d (.int cn)), s4]) (ev_var (i := 1) rfl) (ev_int (i := 3)) i3) (kit_tup t)))
        rw [tt] at this
        exact this
      refine' wp_ret ev_bl ?_
      show _ = _
      rw [all_false hm (by rw [lin, tt]; rfl)]
      rfl
    obtain ⟨cs, rfl⟩ := tup_of tt
    have lin : linOk ns (.tuple es) = (decide ((cs.length : Int) ≤ 12) && cs.all plOk) := by rw [lin]; rfl
    refine' wp_if (et_or0 (a := false) (b := decide ((12 : Int) < cs.length)) (et_not (b := true) (et_test (ev_isi (ev_op (ev_var rfl) ev_int i3) (kit_tup _)))) (fun _ => et_b (ev_op (ev_cb1 (ev_op (ev_var rfl) ev_int i3) cd_lenT) ev_int opd_gt))) (fun q => ?_) (fun q => wp_next ?_)
    · have q := of_decide_eq_true q
      refine' wp_ret ev_bl ?_
      show _ = _
      rw [all_false hm (by rw [lin, decide_eq_false (by omega)]; rfl)]
      rfl
    have q := of_decide_eq_false q
    rw [decide_eq_true (by omega), Bool.true_and] at lin
    show WP _ _ _
    refine wp_seq ?_
    refine' wp_asg (ev_op (ev_var rfl) (ev_cb1 (ev_op (ev_var rfl) ev_int i3) cd_lenT) opd_add) ?_
    have sum : ((ds1.take (i + 1)).map fun l => ((partsD (partD l 3)).length : Int)).sum = cn + cs.length := sum
    show WP _ [.val (.d (.tuple [.tuple ds0, .tuple ds1, .tuple ds2])), .val (.d (.tuple es)), .val (.d (.list (ns.map .str))), .val (.d (.int (cn + cs.length))), s4] _
    refine' wp_for (fun j ρ => ∃ s4, ρ = [.val (.d (.tuple [.tuple ds0, .tuple ds1, .tuple ds2])), .val (.d (.tuple es)), .val (.d (.list (ns.map .str))), .val (.d (.int (cn + cs.length))), s4] ∧ ∀ c ∈ cs.take j, plOk c = true) (ei_or2 (ei_tup (ev_op (ev_var rfl) ev_int i3))) ⟨_, rfl, fun c h => by simp at h⟩ ?b4 ?d4
    case b4 =>
      rintro j y _ hy ⟨s4, rfl, hall4⟩
      obtain ⟨c, hcj, rfl⟩ := at_map hy
      have hmc := List.mem_of_getElem? hcj
      refine ⟨_, gt_name, ?_⟩
      show WP _ [.val (.d (.tuple [.tuple ds0, .tuple ds1, .tuple ds2])), .val (.d (.tuple es)), .val (.d (.list (ns.map .str))), .val (.d (.int (cn + cs.length))), .val (.d c)] _
      have bad : ∀ c ∈ cs, plOk c = false → linOk ns (.tuple es) = false := fun c hc e => by rw [lin]; exact all_false hc e
      refine wp_seq ?_
      by_cases tc : isTup c = true
      case neg =>
        have tc : isTup c = false := by simpa using tc
        refine' wp_if (et_or0 (a := true) (b := true) ?e3 (fun z => by cases z)) (fun _ => ?_) (fun z => by cases z)
        case e3 =>
          have := et_not (et_test (ev_isi (K := K) (ρ := [.val (.d (.tuple [.tuple ds0, .tuple ds1, .tuple ds2])), .val (.d (.tuple es)), .val (.d (.list (ns.map .str))), .val (.d (.int (cn + cs.length))), .val (.d c)]) (ev_var (i := 4) rfl) (kit_tup c)))
          rw [tc] at this
          exact this
        refine' wp_ret ev_bl ?_
        show _ = _
        rw [all_false hm (bad c hmc (by unfold plOk; rw [tc]; rfl))]
        rfl
      obtain ⟨fs, rfl⟩ := tup_of tc
      have pl : plOk (.tuple fs) = (decide ((fs.length : Int) = 2) && (betZ (partD (.tuple fs) 0) (-1000000000) 1000000000 && betZ (partD (.tuple fs) 1) (-1000000000) 1000000000)) := rfl
      refine' wp_if (et_or0 (a := false) (b := !decide ((fs.length : Int) = 2)) (et_not (b := true) (et_test (ev_isi (ev_var rfl) (kit_tup _)))) (fun _ => et_b (ev_op (ev_cb1 (ev_var rfl) cd_lenT) ev_int opd_ne_int))) (fun q => ?_) (fun q => wp_next ?_)
      · have q : decide ((fs.length : Int) = 2) = false := by
          cases z : decide ((fs.length : Int) = 2) with
          | false => rfl
          | true => rw [z] at q; cases q
        refine' wp_ret ev_bl ?_
        show _ = _
        rw [all_false hm (bad _ hmc (by rw [pl, q]; rfl))]
        rfl
      have q : decide ((fs.length : Int) = 2) = true := by
        cases z : decide ((fs.length : Int) = 2) with
        | true => rfl
        | false => rw [z] at q; cases q
      have lf := of_decide_eq_true q
      rw [q, Bool.true_and] at pl
      have j0 := opd_ixT (K := K) (Pw.atI_nat (i := 0) (at_part (es := fs) (by omega)))
      have j1 := opd_ixT (K := K) (Pw.atI_nat (i := 1) (at_part (es := fs) (by omega)))
      show WP _ _ _
      refine' wp_if (b := !betZ (partD (.tuple fs) 0) (-1000000000) 1000000000 || !betZ (partD (.tuple fs) 1) (-1000000000) 1000000000) (et_or0 (et_not (et_test (ev_c2 (ev_op (ev_var rfl) ev_int j0) ev_pow9 ⟨_, rfl, rfl⟩))) (fun _ => et_not (et_test (ev_c2 (ev_op (ev_var rfl) ev_int j1) ev_pow9 ⟨_, rfl, rfl⟩)))) (fun q => ?_) (fun q => wp_next ⟨_, rfl, fun y hy => ?_⟩)
      · refine' wp_ret ev_bl ?_
        show _ = _
        rw [all_false hm (bad _ hmc (by rw [pl]; cases y0 : betZ (partD (.tuple fs) 0) (-1000000000) 1000000000 <;> cases y1 : betZ (partD (.tuple fs) 1) (-1000000000) 1000000000 <;> first | rfl | (rw [y0, y1] at q; exact absurd q (by decide))))]
        rfl
      · rw [List.take_add_one, hcj] at hy
        rcases List.mem_append.mp hy with hy | hy
        · exact hall4 y hy
        · have : y = .tuple fs := by simpa using hy
          subst this
          rw [pl]
          cases y0 : betZ (partD (.tuple fs) 0) (-1000000000) 1000000000 <;> cases y1 : betZ (partD (.tuple fs) 1) (-1000000000) 1000000000 <;> first | rfl | (rw [y0, y1] at q; exact absurd q (by decide))
    case d4 =>
      rintro _ ⟨s4, rfl, hall4⟩
      rw [List.length_map, List.take_length] at hall4
      refine ⟨_, _, by rw [sum], fun y hy => ?_⟩
      rw [List.take_add_one, hdi] at hy
      rcases List.mem_append.mp hy with hy | hy
      · exact hall3 y hy
      · have : y = .tuple es := by simpa using hy
        subst this
        rw [lin]
        exact List.all_eq_true.mpr hall4
  case d3 =>
  rintro _ ⟨s1, s4, rfl, hall3⟩
  rw [List.length_map, List.take_length] at hall3
  rw [List.all_eq_true.mpr hall3, Bool.true_and]
  show WP _ _ _
  refine' wp_ret (ev_op (ev_var rfl) ev_int opd_le) ?_
  show _ = _
  rw [List.length_map, List.take_length]
  rfl
end

end Pv

set_option Elab.async false
set_option linter.all false
set_option maxRecDepth 100000
set_option maxHeartbeats 4000000
open PySem L2 Pw Hd
namespace Pv

section
variable {P : Program} {w : World} {K : PySem.W.Frag} {mg : Str → Option Value} {base : Heap}
theorem sc__law_name : FnScope [("row" : Str), ("spot" : Str), ("used" : Str), ("made" : Str), ("k" : Str), ("at" : Str)] [("row" : Str), ("spot" : Str), ("used" : Str)] (defScope s__law_name) := ⟨rfl, rfl, rfl, by decide +kernel, rfl, by decide +kernel, by decide +kernel⟩
theorem c__law_name  (D : Df K mg "_law_name" s__law_name) (T : Bt mg)  (c__law_take : Cal P w K mg base 2 "_law_take" ["row", "spot", "limit"] (spG gTake)) : Cal P w K mg base 3 "_law_name" ["row", "spot", "used"] (spG gName) := by
  have sc := sc__law_name
  refine cal_mk (k := 2) D sc (fun vs H Q E s => lenName s) (fun _ _ _ _ _ _ us hl => match us, hl with | [_, _, _], _ => rfl) (fun f cdv A outer st H vs Q E hr h => ⟨_, (pss_cons (ps_set (i := 3) sc.nd rfl (Or.inl rfl) pe_str)
    (pss_cons (ps_for PassesOwn.never rfl (pi_range1 (by rfl) T.b_range (pa_cons (pe_op (op_plusK K) pe_int (pe_cal c__law_take hr (by decide) (by rfl) (pa_cons (pv 0) (pa_cons (pv 1) (pa_cons (pe_ifExp (pt_cmpR op_gt (pe_cal c__law_take hr (by decide) (by rfl) (pa_cons (pv 0) (pa_cons (pv 1) (pa_cons pe_int pa_nil)))) pe_int (nomark _)) pe_int pe_int) pa_nil))))) pa_nil)) (pg_name (i := 4) sc.nd rfl (Or.inl rfl)) (pss_cons (ps_set (i := 5) sc.nd rfl (Or.inl rfl) (pe_cal c__law_take hr (by decide) (by rfl) (pa_cons (pv 0) (pa_cons (pv 1) (pa_cons pe_int pa_nil)))))
    (pss_one (ps_set (i := 3) sc.nd rfl (Or.inl rfl) (pe_op (op_plusK K) (pv 3) (pe_ix (ix_K K) pe_str (pv 5) (fun _ _ => rfl)))))))
    (pss_cons (ps_for PassesOwn.never rfl (pi_range1 (by rfl) T.b_range (pa_cons pe_int pa_nil)) (pg_name (i := 4) sc.nd rfl (Or.inl rfl)) (pss_cons (ps_if (pt_cmp (pc_dnotin (hu_of hr) (pv 3) (pv 2))) (pss_one ps_break) pss_nil)
    (pss_cons (ps_set (i := 3) sc.nd rfl (Or.inl rfl) (pe_op (op_plusK K) (pe_slice (sl_K K) (pv 3) po_none (po_some pe_int)) (pe_ix (ix_K K) pe_str (pe_op op_mod (pv 4) pe_int) (fun _ _ => rfl))))
    (pss_one (ps_if (pt_cmpR op_gt (pv 4) pe_int (nomark _)) (pss_one (ps_set (i := 3) sc.nd rfl (Or.inl rfl) (pe_op (op_plusK K) (pe_slice (sl_K K) (pv 3) (po_some pe_int) po_none) pe_str))) pss_nil)))))
    (pss_cons (ps_dput (hu_of hr) (pv 2) (pv 3) pe_bl rfl)
    (pss_one (ps_ret (pv 3))))))), wp_def h ?_⟩)
  rintro as ret outs ⟨row, n, used, rfl, hr, hn, hu, rfl, ho1, ho2⟩ _
  obtain ⟨n0, n1⟩ := hn
  have ll := nameLen_le row n
  refine wp_seq ?_
  refine' wp_asg (x := .d (.str (tx []))) ev_str ?_
  show WP _ [.val (.d (intsD row)), .own false (.lst [.int n]), .own false (.dk (usedKvs used)), .val (.d (.str (tx []))), .non, .non] _
  refine wp_seq ?_
  have lim0 : (0 : Int) < (if 0 < drawZ row n 9 then 3 else 8) := by split <;> decide
  have d0 := drawZ_lo (row := row) (a := n + 1) lim0
  have d1 := drawZ_hi (row := row) (a := n + 1) lim0
  have l8 : (if 0 < drawZ row n 9 then (3 : Int) else 8) ≤ 8 := by split <;> decide
  refine' wp_for (fun i ρ => ∃ s4 s5, ρ = [.val (.d (intsD row)), .own false (.lst [.int (n + 2 + (i : Int))]), .own false (.dk (usedKvs used)), .val (.d (.str (tx (baseC row (n + 2) i)))), s4, s5]) (ei_range1 (j := 1 + drawZ row (n + 1) (if 0 < drawZ row n 9 then 3 else 8)) (ea_cons (ev_op ev_int (ev_take (n := n + 1) (l := false) (ρ1 := [.val (.d (intsD row)), .own false (.lst [.int (n + 1)]), .own false (.dk (usedKvs used)), .val (.d (.str (tx []))), .non, .non]) (ev_var rfl) ⟨_, _, rfl⟩ (ev_if (b := decide (0 < drawZ row n 9)) (et_b (ev_op (ev_take (n := n) (ev_var rfl) ⟨_, _, rfl⟩ ev_int rfl hr ⟨by omega, by omega⟩ (by decide)) ev_int opd_gt)) (fun q => ?t3) (fun q => ?t8)) rfl hr ⟨by omega, by omega⟩ lim0) opd_add) ea_nil) (by omega) (by omega)) ?start ?body ?done
  case t3 =>
    rw [if_pos (of_decide_eq_true q)]
    exact ev_int
  case t8 =>
    rw [if_neg (of_decide_eq_false q)]
    exact ev_int
  case start =>
    refine ⟨.non, .non, ?_⟩
    have e : n + 1 + 1 = n + 2 + ((0 : Nat) : Int) := by omega
    show [Pw.Slot.val (.d (intsD row)), .own false (.lst [.int (n + 1 + 1)]), .own false (.dk (usedKvs used)), .val (.d (.str (tx []))), .non, .non] = _
    rw [e]
    rfl
  case body =>
    rintro i x _ hx ⟨s4, s5, rfl⟩
    obtain ⟨hi, rfl⟩ := at_range hx
    have hi : i < nameLen row n := hi
    refine ⟨_, gt_name, ?_⟩
    show WP _ [.val (.d (intsD row)), .own false (.lst [.int (n + 2 + (i : Int))]), .own false (.dk (usedKvs used)), .val (.d (.str (tx (baseC row (n + 2) i)))), .val (.d (.int (0 + (i : Int)))), s5] _
    refine wp_seq ?_
    refine' wp_asg (ev_take (ev_var rfl) ⟨_, _, rfl⟩ ev_int rfl hr ⟨by omega, by omega⟩ (by decide)) ?_
    show WP _ [.val (.d (intsD row)), .own false (.lst [.int (n + 2 + (i : Int) + 1)]), .own false (.dk (usedKvs used)), .val (.d (.str (tx (baseC row (n + 2) i)))), .val (.d (.int (0 + (i : Int)))), .val (.d (.int (drawZ row (n + 2 + (i : Int)) 26)))] _
    have k0 := drawZ_lo (row := row) (a := n + 2 + (i : Int)) (lim := 26) (by decide)
    have k1 := drawZ_hi (row := row) (a := n + 2 + (i : Int)) (lim := 26) (by decide)
    refine' wp_asg (x := .d (.str (tx (baseC row (n + 2) i) ++ tx [letC (drawZ row (n + 2 + (i : Int)) 26).toNat]))) (ev_op (ev_var rfl) (ev_op ev_str (ev_var rfl) (opd_ixS (show (26 : Nat) ≤ sizeLine by decide) (at_letter k0 k1))) (opd_cat_str (by rw [tx_len, baseC_len, PySem.sizeLine_eq]; show i + 1 ≤ _; omega))) ?_
    refine ⟨.val (.d (.int (0 + (i : Int)))), .val (.d (.int (drawZ row (n + 2 + (i : Int)) 26))), ?_⟩
    have e : n + 2 + (i : Int) + 1 = n + 2 + ((i + 1 : Nat) : Int) := by omega
    rw [tx_app, e]
    rfl
  case done =>
  rintro _ ⟨s4, s5, rfl⟩
  have elen : (rangeD 0 (1 + drawZ row (n + 1) (if 0 < drawZ row n 9 then 3 else 8)).toNat).length = nameLen row n := by simp [rangeD, nameLen]
  rw [elen]
  have ee : n + 2 + (nameLen row n : Int) = nameEnd row n := rfl
  rw [ee]
  have hname : fixC used 60 0 (baseC row (n + 2) (nameLen row n)) = nameC row n used := rfl
  have bn := base_nm row n
  generalize baseC row (n + 2) (nameLen row n) = c0 at hname bn
  have fr := fresh (row := row) (n := n) (used := used) hu
  have last : ∀ (s4 s5 : Pw.Slot), WP (tSeq (sDPut (tVar 2) (tVar 3) (tC (.bl true))) (tRet (tVar 3))) [.val (.d (intsD row)), .own false (.lst [.int (nameEnd row n)]), .own false (.dk (usedKvs used)), .val (.d (.str (nameF row n used))), s4, s5] (Good [.d (.d (intsD row)), .r (.lst [.int n]), .r (.dk (usedKvs used))] (.v (.d (.str (nameF row n used)))) outs) := by
    intro s4 s5
    refine wp_seq ?_
    refine' wp_dputK (i := 2) (l := false) (k0 := .inr (nameF row n used)) ev_bl rfl (ev_var rfl) rfl (by simp [usedKvs]; rw [PySem.sizeLine_eq]; omega) ?_
    rw [used_put fr]
    show WP _ [.val (.d (intsD row)), .own false (.lst [.int (nameEnd row n)]), .own false (.dk (usedKvs (used ++ [nameF row n used]))), .val (.d (.str (nameF row n used))), s4, s5] _
    refine' wp_ret (ev_var rfl) ?_
    refine ⟨rfl, fun i c h => ?_⟩
    match i, h with
    | 0, h => cases h
    | 1, h => rw [ho1]; rfl
    | 2, h => rw [ho2]; rfl
    | i + 3, h => simp at h
  show WP _ _ _
  refine wp_seq ?_
  refine' wp_for (fun k ρ => ∃ s4 s5 c, ρ = [.val (.d (intsD row)), .own false (.lst [.int (nameEnd row n)]), .own false (.dk (usedKvs used)), .val (.d (.str (tx c))), s4, s5] ∧ fixC used (60 - k) k c = nameC row n used ∧ NmC c) (ei_range1 (ea_cons ev_int ea_nil) (by decide) (by decide)) ⟨_, _, c0, rfl, hname, bn⟩ ?b2 ?d2
  case b2 =>
    rintro k x _ hx ⟨s4, s5, c, rfl, hf, hc⟩
    obtain ⟨hk, rfl⟩ := at_range hx
    have hk : k < 60 := hk
    have e60 : 60 - k = (60 - (k + 1)) + 1 := by omega
    rw [e60] at hf
    unfold fixC at hf
    refine ⟨_, gt_name, ?_⟩
    show WP _ [.val (.d (intsD row)), .own false (.lst [.int (nameEnd row n)]), .own false (.dk (usedKvs used)), .val (.d (.str (tx c))), .val (.d (.int (0 + (k : Int)))), s5] _
    refine wp_seq ?_
    have ni := ev_dniK (kvs := usedKvs used) (k0 := .inr (tx c)) (ρ := [.val (.d (intsD row)), .own false (.lst [.int (nameEnd row n)]), .own false (.dk (usedKvs used)), .val (.d (.str (tx c))), .val (.d (.int (0 + (k : Int)))), s5]) (ev_var (i := 3) rfl) (ew_var (i := 2) rfl)
    rw [used_is] at ni
    refine' wp_if (et_b ni) (fun q => ?_) (fun q => wp_next ?_)
    · have q : tx c ∉ used := by simpa using q
      rw [if_neg q] at hf
      refine wp_break ?_
      show WP _ _ _
      rw [hf]
      exact last _ _
    have q : tx c ∈ used := by simpa using q
    rw [if_pos q] at hf
    have hs := step_nm (k := k) hc
    have m0 : (0 : Int) ≤ (0 + (k : Int)) % 26 := Int.emod_nonneg _ (by decide)
    have m1 : (0 + (k : Int)) % 26 < 26 := Int.emod_lt_of_pos _ (by decide)
    have em : ((0 + (k : Int)) % 26).toNat = k % 26 := by rw [Int.zero_add]; omega
    have lx := at_letter m0 m1
    rw [em] at lx
    show WP _ _ _
    refine wp_seq ?_
    have sl := ev_slS (K := K) (tl := tNoPart) (ρ := [.val (.d (intsD row)), .own false (.lst [.int (nameEnd row n)]), .own false (.dk (usedKvs used)), .val (.d (.str (tx c))), .val (.d (.int (0 + (k : Int)))), s5]) (zs := tx c) (by rw [tx_len, PySem.sizeLine_eq]; have := hc.2.1; omega) (ev_var (i := 3) rfl) eo_none (eo_some (ev_int (i := 7)))
    rw [tx_cut7] at sl
    refine' wp_asg (x := .d (.str (tx (c.take 7) ++ tx [letC (k % 26)]))) (ev_op sl (ev_op ev_str (ev_op (ev_var rfl) ev_int (opd_mod (by decide))) (opd_ixS (show (26 : Nat) ≤ sizeLine by decide) lx)) (opd_cat_str (by rw [tx_len, List.length_take, PySem.sizeLine_eq]; show min 7 c.length + 1 ≤ _; omega))) ?_
    rw [tx_app]
    show WP _ [.val (.d (intsD row)), .own false (.lst [.int (nameEnd row n)]), .own false (.dk (usedKvs used)), .val (.d (.str (tx (c.take 7 ++ [letC (k % 26)])))), .val (.d (.int (0 + (k : Int)))), s5] _
    refine' wp_if (et_b (ev_op (ev_var rfl) ev_int opd_gt)) (fun q => ?_) (fun q => wp_next ?_)
    · have q : (26 : Int) < 0 + (k : Int) := of_decide_eq_true q
      have es : stepC k c = (c.take 7 ++ [letC (k % 26)]).drop 1 ++ [122] := by unfold stepC; rw [if_pos (by omega)]
      have sl2 := ev_slS (K := K) (th := tNoPart) (ρ := [.val (.d (intsD row)), .own false (.lst [.int (nameEnd row n)]), .own false (.dk (usedKvs used)), .val (.d (.str (tx (c.take 7 ++ [letC (k % 26)])))), .val (.d (.int (0 + (k : Int)))), s5]) (zs := tx (c.take 7 ++ [letC (k % 26)])) (by rw [tx_len, PySem.sizeLine_eq]; simp; omega) (ev_var (i := 3) rfl) (eo_some (ev_int (i := 1))) eo_none
      rw [tx_cut1] at sl2
      refine' wp_asg (x := .d (.str (tx ((c.take 7 ++ [letC (k % 26)]).drop 1) ++ tx [122]))) (ev_op sl2 ev_str (opd_cat_str (by rw [tx_len, PySem.sizeLine_eq, List.length_drop, List.length_append, List.length_take]; show min 7 c.length + 1 - 1 + 1 ≤ _; omega))) ?_
      rw [tx_app, ← es]
      exact ⟨_, _, stepC k c, rfl, hf, hs⟩
    · have q : ¬ (26 : Int) < 0 + (k : Int) := of_decide_eq_false q
      have es : stepC k c = c.take 7 ++ [letC (k % 26)] := by unfold stepC; rw [if_neg (by omega)]
      rw [← es]
      exact ⟨_, _, stepC k c, rfl, hf, hs⟩
  case d2 =>
    rintro _ ⟨s4, s5, c, rfl, hf, hc⟩
    have hf : c = nameC row n used := hf
    subst hf
    show WP _ _ _
    exact last _ _
theorem sc__law_free_number : FnScope [("row" : Str), ("spot" : Str), ("small" : Str), ("great" : Str)] [("row" : Str), ("spot" : Str)] (defScope s__law_free_number) := ⟨rfl, rfl, rfl, by decide +kernel, rfl, by decide +kernel, by decide +kernel⟩
theorem c__law_free_number  (D : Df K mg "_law_free_number" s__law_free_number) (T : Bt mg)  (c__law_take : Cal P w K mg base 2 "_law_take" ["row", "spot", "limit"] (spG gTake)) (c__law_wide : Cal P w K mg base 3 "_law_wide" ["row", "spot", "limit"] (spG gWide)) : Cal P w K mg base 4 "_law_free_number" ["row", "spot"] (spG gFree) := by
  have sc := sc__law_free_number
  refine cal_mk (k := 3) D sc (fun vs H Q E s => lenFree s) (fun _ _ _ _ _ _ us hl => match us, hl with | [_, _], _ => rfl) (fun f cdv A outer st H vs Q E hr h => ⟨_, (pss_cons (ps_set (i := 2) sc.nd rfl (Or.inl rfl) (pe_op op_sub (pe_cal c__law_take hr (by decide) (by rfl) (pa_cons (pv 0) (pa_cons (pv 1) (pa_cons pe_int pa_nil)))) pe_int))
    (pss_cons (ps_set (i := 3) sc.nd rfl (Or.inl rfl) (pe_cal c__law_wide hr (by decide) (by rfl) (pa_cons (pv 0) (pa_cons (pv 1) (pa_cons pe_int pa_nil)))))
    (pss_one (ps_ret (pe_ix (ix_K K) (pe_lst (pa_cons (pv 2) (pa_cons (pv 2) (pa_cons (pv 3) (pa_cons (pe_un un_neg (pv 3)) (pa_cons (pe_op op_pow pe_int pe_int) (pa_cons (pe_un un_neg (pe_op op_pow pe_int pe_int)) (pa_cons pe_int pa_nil)))))))) (pe_cal c__law_take hr (by decide) (by rfl) (pa_cons (pv 0) (pa_cons (pv 1) (pa_cons pe_int pa_nil)))) (fun _ _ => rfl)))))), wp_def h ?_⟩)
  rintro as ret outs ⟨row, n, rfl, hr, hn, rfl, ho1⟩ _
  obtain ⟨n0, n1⟩ := hn
  refine wp_seq ?_
  refine' wp_asg (ev_op (ev_take (ev_var rfl) ⟨_, _, rfl⟩ ev_int rfl hr ⟨by omega, by omega⟩ (by decide)) ev_int opd_sub) ?_
  show WP _ [.val (.d (intsD row)), .own false (.lst [.int (n + 1)]), .val (.d (.int (drawZ row n 41 - 20))), .non] _
  refine wp_seq ?_
  refine' wp_asg (ev_draws (n := n + 1) (n' := n + 1 + 1 + 1 + 1) (ev_var rfl) ⟨_, _, rfl⟩ ev_int rfl ⟨row, n + 1, 991026973, rfl, hr, ⟨by omega, by omega⟩, by decide, rfl, rfl⟩) ?_
  show WP _ [.val (.d (intsD row)), .own false (.lst [.int (n + 1 + 1 + 1 + 1)]), .val (.d (.int (drawZ row n 41 - 20))), .val (.d (.int (wideZ row (n + 1) 991026973)))] _
  have e4 : n + 1 + 1 + 1 + 1 = n + 4 := by omega
  rw [e4]
  have d0 := drawZ_lo (row := row) (a := n + 4) (lim := 7) (by decide)
  have d1 := drawZ_hi (row := row) (a := n + 4) (lim := 7) (by decide)
  have ix : atI [PyData.int (drawZ row n 41 - 20), .int (drawZ row n 41 - 20), .int (wideZ row (n + 1) 991026973), .int (-(wideZ row (n + 1) 991026973)), .int 1000000000, .int (-1000000000), .int 0] (drawZ row (n + 4) 7) = some (.int (freeZ row n)) := free_at d0 d1
  refine' wp_ret (ev_op (EO.vl (eo_lst (ds := [.int _, .int _, .int _, .int _, .int _, .int _, .int _]) (ea_cons (ev_var rfl) (ea_cons (ev_var rfl) (ea_cons (ev_var rfl) (ea_cons (ev_un (ev_var rfl) und_neg) (ea_cons ev_pow9 (ea_cons (ev_un ev_pow9 und_neg) (ea_cons ev_int ea_nil))))))) (show 7 ≤ sizeLine by decide))) (ev_take (ev_var rfl) ⟨_, _, rfl⟩ ev_int rfl hr ⟨by omega, by omega⟩ (by decide)) (opd_ixL ix)) ?_
  refine ⟨rfl, fun i c h => ?_⟩
  match i, h with
  | 0, h => cases h
  | 1, h =>
    rw [ho1]
    show some (Pw.Slot.own false (.lst [.int (n + 4 + 1)])) = _
    rw [show n + 4 + 1 = n + 5 by omega]
  | i + 2, h => simp at h
theorem sc__law_handed : FnScope [("row" : Str), ("spot" : Str), ("value" : Str)] [("row" : Str), ("spot" : Str), ("value" : Str)] (defScope s__law_handed) := ⟨rfl, rfl, rfl, by decide +kernel, rfl, by decide +kernel, by decide +kernel⟩
theorem c__law_handed  (D : Df K mg "_law_handed" s__law_handed) (T : Bt mg)  (c__law_take : Cal P w K mg base 2 "_law_take" ["row", "spot", "limit"] (spG gTake)) (c__law_listed : Cal P w K mg base 11 "_law_listed" ["value"] (sp1 (gLis 10))) : Cal P w K mg base 12 "_law_handed" ["row", "spot", "value"] (spG gHanded) := by
  have sc := sc__law_handed
  refine cal_mk (k := 11) D sc (fun vs H Q E s => lenHanded s) (fun _ _ _ _ _ _ us hl => match us, hl with | [_, _, _], _ => rfl) (fun f cdv A outer st H vs Q E hr h => ⟨_, (pss_one (ps_ret (pe_ifExp (pt_cmpR (op_eqK K hr.units) (pe_cal c__law_take hr (by decide) (by rfl) (pa_cons (pv 0) (pa_cons (pv 1) (pa_cons pe_int pa_nil)))) pe_int (nomark _)) (pe_cal c__law_listed hr (by decide) (by rfl) (pa_cons (pv 2) pa_nil)) (pv 2)))), wp_def h ?_⟩)
  rintro as ret outs ⟨row, n, v, rfl, hr, hn, hv, rfl, ho1⟩ _
  obtain ⟨n0, n1⟩ := hn
  refine' wp_ret (ev_if (x := .d (if drawZ row n 2 = 0 then lisZ v else v)) (ρ2 := [.val (.d (intsD row)), .own false (.lst [.int (n + 1)]), .val (.d v)]) (b := decide (drawZ row n 2 = 0)) (et_b (ev_op (ev_take (n := n) (ev_var rfl) ⟨_, _, rfl⟩ ev_int rfl hr ⟨by omega, by omega⟩ (by decide)) ev_int opd_eq_int)) (fun q => ?a) (fun q => ?b)) ?gd
  case a =>
    rw [if_pos (of_decide_eq_true q)]
    exact ev_c1 (ev_var rfl) ⟨by have := depD_le v; have := hv.2; omega, tame_smD hv.1, rfl⟩
  case b =>
    rw [if_neg (of_decide_eq_false q)]
    exact ev_var rfl
  case gd =>
    refine ⟨rfl, fun i c h => ?_⟩
    match i, h with
    | 0, h => cases h
    | 1, h => rw [ho1]; rfl
    | 2, h => cases h
    | i + 3, h => simp at h
end

end Pv

set_option Elab.async false
set_option linter.all false
set_option maxRecDepth 100000
set_option maxHeartbeats 4000000
open PySem L2 Pw Hd
namespace Pv

section
variable {P : Program} {w : World} {K : PySem.W.Frag} {mg : Str → Option Value} {base : Heap}
theorem sc__law_free_map : FnScope [("row" : Str), ("spot" : Str), ("used" : Str), ("nodes" : Str), ("k" : Str), ("lines" : Str), ("count" : Str), ("start" : Str), ("end" : Str), ("many" : Str), ("corners" : Str), ("marks" : Str), ("room" : Str), ("at" : Str)] [("row" : Str), ("spot" : Str)] (defScope s__law_free_map) := ⟨rfl, rfl, rfl, by decide +kernel, rfl, by decide +kernel, by decide +kernel⟩
theorem c__law_free_map  (D : Df K mg "_law_free_map" s__law_free_map) (T : Bt mg)  (c__law_take : Cal P w K mg base 2 "_law_take" ["row", "spot", "limit"] (spG gTake)) (c__law_free_number : Cal P w K mg base 4 "_law_free_number" ["row", "spot"] (spG gFree)) (c__law_name : Cal P w K mg base 3 "_law_name" ["row", "spot", "used"] (spG gName)) (c__law_wide : Cal P w K mg base 3 "_law_wide" ["row", "spot", "limit"] (spG gWide)) : Cal P w K mg base 5 "_law_free_map" ["row", "spot"] (spG gFreeMap) := by
  have sc := sc__law_free_map
  refine cal_mk (k := 4) D sc (fun vs H Q E s => lenFreeMap s) (fun _ _ _ _ _ _ us hl => match us, hl with | [_, _], _ => rfl) (fun f cdv A outer st H vs Q E hr h => ⟨_, (pss_cons (ps_set (i := 2) sc.nd rfl (Or.inl rfl) pe_dnewK)
    (pss_cons (ps_set (i := 3) sc.nd rfl (Or.inl rfl) (pe_lst pa_nil))
    (pss_cons (ps_for PassesOwn.never rfl (pi_range1 (by rfl) T.b_range (pa_cons (pe_cal c__law_take hr (by decide) (by rfl) (pa_cons (pv 0) (pa_cons (pv 1) (pa_cons (pe_ifExp (pt_cmpR (op_eqK K hr.units) (pe_cal c__law_take hr (by decide) (by rfl) (pa_cons (pv 0) (pa_cons (pv 1) (pa_cons pe_int pa_nil)))) pe_int (nomark _)) pe_int pe_int) pa_nil)))) pa_nil)) (pg_name (i := 4) sc.nd rfl (Or.inl rfl)) (pss_one (ps_expr (pe_bmK K PySem.F.plainAttrs_list PySem.F.slot_list_append PySem.F.type_list_append mt_append (pv 3) (pa_cons (pe_tup (pa_cons (pe_cal c__law_name hr (by decide) (by rfl) (pa_cons (pv 0) (pa_cons (pv 1) (pa_cons (pv 2) pa_nil)))) (pa_cons (pe_cal c__law_free_number hr (by decide) (by rfl) (pa_cons (pv 0) (pa_cons (pv 1) pa_nil))) (pa_cons (pe_cal c__law_free_number hr (by decide) (by rfl) (pa_cons (pv 0) (pa_cons (pv 1) pa_nil))) pa_nil)))) pa_nil)))))
    (pss_cons (ps_set (i := 2) sc.nd rfl (Or.inl rfl) pe_dnewK)
    (pss_cons (ps_set (i := 5) sc.nd rfl (Or.inl rfl) (pe_lst pa_nil))
    (pss_cons (ps_set (i := 6) sc.nd rfl (Or.inl rfl) pe_int)
    (pss_cons (ps_for PassesOwn.never rfl (pi_range1 (by rfl) T.b_range (pa_cons (pe_ifExp (pt_cmpR op_gt (pe_callB (call_lenK K) (by rfl) T.b_len (by decide +kernel) (pa_cons (pv 3) pa_nil)) pe_int (nomark _)) (pe_ifExp (pt_cmpR (op_eqK K hr.units) (pe_cal c__law_take hr (by decide) (by rfl) (pa_cons (pv 0) (pa_cons (pv 1) (pa_cons pe_int pa_nil)))) pe_int (nomark _)) (pe_cal c__law_take hr (by decide) (by rfl) (pa_cons (pv 0) (pa_cons (pv 1) (pa_cons pe_int pa_nil)))) (pe_cal c__law_take hr (by decide) (by rfl) (pa_cons (pv 0) (pa_cons (pv 1) (pa_cons pe_int pa_nil))))) pe_int) pa_nil)) (pg_name (i := 4) sc.nd rfl (Or.inl rfl)) (pss_cons (ps_set (i := 7) sc.nd rfl (Or.inl rfl) (pe_cal c__law_take hr (by decide) (by rfl) (pa_cons (pv 0) (pa_cons (pv 1) (pa_cons (pe_callB (call_lenK K) (by rfl) T.b_len (by decide +kernel) (pa_cons (pv 3) pa_nil)) pa_nil)))))
    (pss_cons (ps_set (i := 8) sc.nd rfl (Or.inl rfl) (pe_op op_mod (pe_callTy call_int1 (by rfl) T.b_int (by decide +kernel) (pa_cons (pe_op (op_plusK K) (pe_op (op_plusK K) (pv 7) pe_int) (pe_cal c__law_take hr (by decide) (by rfl) (pa_cons (pv 0) (pa_cons (pv 1) (pa_cons (pe_op op_sub (pe_callB (call_lenK K) (by rfl) T.b_len (by decide +kernel) (pa_cons (pv 3) pa_nil)) pe_int) pa_nil))))) pa_nil)) (pe_callB (call_lenK K) (by rfl) T.b_len (by decide +kernel) (pa_cons (pv 3) pa_nil))))
    (pss_cons (ps_set (i := 9) sc.nd rfl (Or.inl rfl) (pe_callB (call_min2 rfl) (by rfl) T.b_min (by decide +kernel) (pa_cons (pe_op op_sub pe_int (pv 6)) (pa_cons (pe_cal c__law_take hr (by decide) (by rfl) (pa_cons (pv 0) (pa_cons (pv 1) (pa_cons (pe_ifExp (pt_cmpR (op_eqK K hr.units) (pe_cal c__law_take hr (by decide) (by rfl) (pa_cons (pv 0) (pa_cons (pv 1) (pa_cons pe_int pa_nil)))) pe_int (nomark _)) pe_int pe_int) pa_nil)))) pa_nil))))
    (pss_cons (ps_set (i := 10) sc.nd rfl (Or.inl rfl) (pe_callTy (call_tupK K) (by rfl) T.b_tuple (by decide +kernel) (pa_cons (pe_lc (own := [("at", 13)]) rfl sc.nd (pi_range1 (by rfl) T.b_range (pa_cons (pv 9) pa_nil)) (blkOk_by (by rfl)) (fun _ _ _ _ _ => (pg_name (i := 13) sc.nd rfl (Or.inl rfl))) (fun _ _ _ _ _ => pts_nil) (fun _ _ _ _ _ => (pe_tup (pa_cons (pe_cal c__law_free_number hr (by decide) (by rfl) (pa_cons (pv 0) (pa_cons (pv 1) pa_nil))) (pa_cons (pe_cal c__law_free_number hr (by decide) (by rfl) (pa_cons (pv 0) (pa_cons (pv 1) pa_nil))) pa_nil))))) pa_nil)))
    (pss_cons (ps_expr (pe_bmK K PySem.F.plainAttrs_list PySem.F.slot_list_append PySem.F.type_list_append mt_append (pv 5) (pa_cons (pe_tup (pa_cons (pe_cal c__law_name hr (by decide) (by rfl) (pa_cons (pv 0) (pa_cons (pv 1) (pa_cons (pv 2) pa_nil)))) (pa_cons (pe_ix (ix_K K) (pe_ix (ix_K K) (pv 3) (pv 7) (fun _ _ => rfl)) pe_int (fun _ _ => rfl)) (pa_cons (pe_ix (ix_K K) (pe_ix (ix_K K) (pv 3) (pv 8) (fun _ _ => rfl)) pe_int (fun _ _ => rfl)) (pa_cons (pv 10) pa_nil))))) pa_nil)))
    (pss_one (ps_set (i := 6) sc.nd rfl (Or.inl rfl) (pe_op (op_plusK K) (pv 6) (pv 9))))))))))
    (pss_cons (ps_set (i := 2) sc.nd rfl (Or.inl rfl) pe_dnewK)
    (pss_cons (ps_set (i := 11) sc.nd rfl (Or.inl rfl) (pe_lst pa_nil))
    (pss_cons (ps_for PassesOwn.never rfl (pi_range1 (by rfl) T.b_range (pa_cons (pe_cal c__law_take hr (by decide) (by rfl) (pa_cons (pv 0) (pa_cons (pv 1) (pa_cons (pe_ifExp (pt_cmpR (op_eqK K hr.units) (pe_cal c__law_take hr (by decide) (by rfl) (pa_cons (pv 0) (pa_cons (pv 1) (pa_cons pe_int pa_nil)))) pe_int (nomark _)) pe_int pe_int) pa_nil)))) pa_nil)) (pg_name (i := 4) sc.nd rfl (Or.inl rfl)) (pss_cons (ps_set (i := 12) sc.nd rfl (Or.inl rfl) (pe_tup (pa_cons (pe_cal c__law_wide hr (by decide) (by rfl) (pa_cons (pv 0) (pa_cons (pv 1) (pa_cons pe_int pa_nil)))) (pa_cons (pe_ix (ix_K K) (pe_lst (pa_cons pe_int (pa_cons (pe_op op_pow pe_int pe_int) (pa_cons (pe_cal c__law_take hr (by decide) (by rfl) (pa_cons (pv 0) (pa_cons (pv 1) (pa_cons pe_int pa_nil)))) pa_nil)))) (pe_cal c__law_take hr (by decide) (by rfl) (pa_cons (pv 0) (pa_cons (pv 1) (pa_cons pe_int pa_nil)))) (fun _ _ => rfl)) pa_nil))))
    (pss_one (ps_expr (pe_bmK K PySem.F.plainAttrs_list PySem.F.slot_list_append PySem.F.type_list_append mt_append (pv 11) (pa_cons (pe_op (op_plusK K) (pe_tup (pa_cons (pe_cal c__law_name hr (by decide) (by rfl) (pa_cons (pv 0) (pa_cons (pv 1) (pa_cons (pv 2) pa_nil)))) (pa_cons (pe_cal c__law_free_number hr (by decide) (by rfl) (pa_cons (pv 0) (pa_cons (pv 1) pa_nil))) (pa_cons (pe_cal c__law_free_number hr (by decide) (by rfl) (pa_cons (pv 0) (pa_cons (pv 1) pa_nil))) pa_nil)))) (pv 12)) pa_nil))))))
    (pss_one (ps_ret (pe_tup (pa_cons (pe_callTy (call_tupK K) (by rfl) T.b_tuple (by decide +kernel) (pa_cons (pv 3) pa_nil)) (pa_cons (pe_callTy (call_tupK K) (by rfl) T.b_tuple (by decide +kernel) (pa_cons (pv 5) pa_nil)) (pa_cons (pe_callTy (call_tupK K) (by rfl) T.b_tuple (by decide +kernel) (pa_cons (pv 11) pa_nil)) pa_nil)))))))))))))))), wp_def h ?_⟩)
  rintro as ret outs ⟨row, n, rfl, hr, ⟨hn0, hn1⟩, rfl, ho1⟩ _
  have fe := freeEnd_le row n
  refine wp_seq ?_
  refine' wp_asgO eo_dk ?_
  show WP _ [.val (.d (intsD row)), .own false (.lst [.int (n)]), .own true (.dk []), .non, .non, .non, .non, .non, .non, .non, .non, .non, .non, .non] _
  refine wp_seq ?_
  refine' wp_asgO (eo_lst (ds := []) ea_nil (by decide)) ?_
  show WP _ [.val (.d (intsD row)), .own false (.lst [.int (n)]), .own true (.dk []), .own true (.lst []), .non, .non, .non, .non, .non, .non, .non, .non, .non, .non] _
  have ca : cnt2 row n 17 5 ≤ 16 := cnt2_le row n (a := 17) (b := 5) (m := 16) (by omega)
  refine wp_seq ?_
  refine' wp_for (fun i ρ => ∃ s4, ρ = [.val (.d (intsD row)), .own false (.lst [.int ((nodesAt row (n + 2) i).2)]), .own true (.dk (usedKvs ((nodesAt row (n + 2) i).1.map (·.name)))), .own true (.lst ((nodesAt row (n + 2) i).1.map ndD)), s4, .non, .non, .non, .non, .non, .non, .non, .non, .non]) (ei_range1 (j := drawZ row (n + 1) (if drawZ row (n) 4 = 0 then 17 else 5)) (ea_cons (ev_tk (n := n + 1) (n + 2) (l := false) (ρ1 := [.val (.d (intsD row)), .own false (.lst [.int (n + 1)]), .own true (.dk []), .own true (.lst []), .non, .non, .non, .non, .non, .non, .non, .non, .non, .non]) (ev_var rfl) ⟨_, _, rfl⟩ (ev_pick (n := n) (l := false) (n + 1) (et_b (ev_op (ev_tk (n := n) (n + 1) (ev_var rfl) ⟨_, _, rfl⟩ ev_int rfl hr ⟨by omega, by omega⟩ (by decide) rfl) ev_int opd_eq_int))) rfl hr ⟨by omega, by omega⟩ (by split <;> decide) (by omega)) ea_nil) (by have := draw_bd row (n + 1) (if drawZ row (n) 4 = 0 then 17 else 5) (by split <;> decide); omega) (by have := draw_bd row (n + 1) (if drawZ row (n) 4 = 0 then 17 else 5) (by split <;> decide); have : (if drawZ row (n) 4 = 0 then (17 : Int) else 5) ≤ 17 := (by split <;> decide); omega)) ⟨_, rfl⟩ ?b1 ?d1
  case b1 =>
    rintro i x _ hx ⟨s4, rfl⟩
    obtain ⟨hi, rfl⟩ := at_range hx
    have hi : i < cnt2 row n 17 5 := hi
    refine ⟨_, gt_name, ?_⟩
    have l1 := nodesAt_len row (n + 2) i
    have l2 := nodesAt_n row (n + 2) i
    simp only [nodesAt]
    generalize nodesAt row (n + 2) i = s at l1 l2
    have l3 := end_le row s.2
    show WP _ [.val (.d (intsD row)), .own false (.lst [.int (s.2)]), .own true (.dk (usedKvs (s.1.map (·.name)))), .own true (.lst (s.1.map ndD)), .val (.d (.int (0 + (i : Int)))), .non, .non, .non, .non, .non, .non, .non, .non, .non] _
    refine' wp_append rfl (ev_tup (ds := [.str _, .int _, .int _]) (ea_cons (ev_name (n := s.2) (ev_var rfl) rfl rfl (by decide) hr ⟨by omega, by omega⟩ (by rw [List.length_map]; omega)) (ea_cons (ev_free (n := nameEnd row s.2) (ev_var rfl) rfl hr ⟨by omega, by omega⟩) (ea_cons (ev_free (n := nameEnd row s.2 + 5) (ev_var rfl) rfl hr ⟨by omega, by omega⟩) ea_nil))) (show 3 ≤ sizeLine by decide)) rfl (by rw [List.length_map]; exact size4000 (by omega)) ?_
    refine ⟨.val (.d (.int (0 + (i : Int)))), ?_⟩
    simp only [List.map_append, List.map_cons, List.map_nil]
    rfl
  case d1 =>
  rintro _ ⟨s4, rfl⟩
  have el : (rangeD 0 (drawZ row (n + 1) (if drawZ row n 4 = 0 then 17 else 5)).toNat).length = cnt2 row n 17 5 := by rw [rangeD, List.length_map, List.length_range]; rfl
  rw [el]
  have eN : nodesAt row (n + 2) (cnt2 row n 17 5) = fNodes row n := rfl
  rw [eN]
  have lN : (fNodes row n).1.length ≤ 16 := by rw [fNodes, nodesAt_len]; exact ca
  have nN : n ≤ (fNodes row n).2 ∧ (fNodes row n).2 ≤ n + 400 := by have := nodesAt_n row (n + 2) (cnt2 row n 17 5); rw [eN] at this; omega
  have dN : ((fNodes row n).1.map (·.name)).Nodup := (nodesAt_ok row (n + 2) (cnt2 row n 17 5) (by omega)).1
  have eL : fLines row n = linesAt row (fNodes row n).1 (if 1 < (fNodes row n).1.length then (fNodes row n).2 + 2 else (fNodes row n).2) (if 1 < (fNodes row n).1.length then (if drawZ row (fNodes row n).2 4 = 0 then drawZ row ((fNodes row n).2 + 1) 17 else drawZ row ((fNodes row n).2 + 1) 4) else 0).toNat := by
    unfold fLines
    split
    · congr 1
      unfold lineCnt
      split <;> rfl
    · rfl
  have eR : (Val.d (mpD (freeMap row n))) = .d (.tuple [.tuple ((fNodes row n).1.map ndD), .tuple ((fLines row n).ls.map lnD), .tuple ((fMarks row n).1.map mkD)]) := rfl
  have eE : freeEnd row n = (fMarks row n).2 := rfl
  have eM : fMarks row n = marksAt row ((fLines row n).n + 2) (cnt2 row (fLines row n).n 11 3) := rfl
  have lc := lineCnt_le row (fNodes row n).2
  have cC : (if 1 < (fNodes row n).1.length then (if drawZ row (fNodes row n).2 4 = 0 then drawZ row ((fNodes row n).2 + 1) 17 else drawZ row ((fNodes row n).2 + 1) 4) else 0) ≤ 16 ∧ 0 ≤ (if 1 < (fNodes row n).1.length then (if drawZ row (fNodes row n).2 4 = 0 then drawZ row ((fNodes row n).2 + 1) 17 else drawZ row ((fNodes row n).2 + 1) 4) else 0) := by
    have := draw_bd row ((fNodes row n).2 + 1) 17 (by decide)
    have := draw_bd row ((fNodes row n).2 + 1) 4 (by decide)
    split
    · split <;> omega
    · omega
  rw [eR]
  rw [eE] at ho1 fe
  rw [eM] at ho1 fe ⊢
  rw [eL] at ho1 fe ⊢
  generalize (fNodes row n).2 = n2 at nN cC eL ho1 fe ⊢
  generalize (fNodes row n).1 = N0 at lN dN cC eL ho1 fe ⊢
  clear eR eE eM eL eN lc
  show WP _ [.val (.d (intsD row)), .own false (.lst [.int (n2)]), .own true (.dk (usedKvs (N0.map (·.name)))), .own true (.lst (N0.map ndD)), s4, .non, .non, .non, .non, .non, .non, .non, .non, .non] _
  refine wp_seq ?_
  refine' wp_asgO eo_dk ?_
  refine wp_seq ?_
  refine' wp_asgO (eo_lst (ds := []) ea_nil (by decide)) ?_
  refine wp_seq ?_
  refine' wp_asg ev_int ?_
  show WP _ [.val (.d (intsD row)), .own false (.lst [.int (n2)]), .own true (.dk []), .own true (.lst (N0.map ndD)), s4, .own true (.lst []), .val (.d (.int 0)), .non, .non, .non, .non, .non, .non, .non] _
  refine wp_seq ?_
  generalize hC : (if 1 < N0.length then (if drawZ row n2 4 = 0 then drawZ row (n2 + 1) 17 else drawZ row (n2 + 1) 4) else 0) = C at cC ho1 fe ⊢
  generalize hB : (if 1 < N0.length then n2 + 2 else n2) = B at ho1 fe ⊢
  have bB : n2 ≤ B ∧ B ≤ n2 + 2 := by rw [← hB]; split <;> omega
  refine' wp_for (ρ1 := [.val (.d (intsD row)), .own false (.lst [.int (B)]), .own true (.dk []), .own true (.lst (N0.map ndD)), s4, .own true (.lst []), .val (.d (.int 0)), .non, .non, .non, .non, .non, .non, .non]) (xs := rangeD 0 C.toNat) (fun i ρ => ∃ s4 s7 s8 s9 s10, ρ = [.val (.d (intsD row)), .own false (.lst [.int ((linesAt row N0 B i).n)]), .own true (.dk (usedKvs ((linesAt row N0 B i).ls.map (·.name)))), .own true (.lst (N0.map ndD)), s4, .own true (.lst ((linesAt row N0 B i).ls.map lnD)), .val (.d (.int ((linesAt row N0 B i).c))), s7, s8, s9, s10, .non, .non, .non]) ?src2 ⟨_, _, _, _, _, rfl⟩ ?b2 ?d2
  case src2 =>
    by_cases q1 : 1 < N0.length
    · rw [if_pos q1] at hC hB
      subst hB
      refine' ei_range1 (j := C) (ea_cons (ev_if (ρ1 := [.val (.d (intsD row)), .own false (.lst [.int (n2)]), .own true (.dk []), .own true (.lst (N0.map ndD)), s4, .own true (.lst []), .val (.d (.int 0)), .non, .non, .non, .non, .non, .non, .non]) (b := true) ?t1 (fun _ => ?x1) (fun z => by cases z)) ea_nil) (by omega) (by omega)
      case t1 =>
        have z := et_b (ρ := [.val (.d (intsD row)), .own false (.lst [.int (n2)]), .own true (.dk []), .own true (.lst (N0.map ndD)), s4, .own true (.lst []), .val (.d (.int 0)), .non, .non, .non, .non, .non, .non, .non]) (ρ1 := [.val (.d (intsD row)), .own false (.lst [.int (n2)]), .own true (.dk []), .own true (.lst (N0.map ndD)), s4, .own true (.lst []), .val (.d (.int 0)), .non, .non, .non, .non, .non, .non, .non]) (ev_op (ev_cw (ew_var (i := 3) rfl) (cw_len (K := K))) (ev_int (i := 1)) opd_gt)
        rw [List.length_map, decide_eq_true (by omega)] at z
        exact z
      case x1 =>
        refine' ev_if (b := decide (drawZ row n2 4 = 0)) (et_b (ev_op (ev_take (n := n2) (l := false) (ev_var rfl) ⟨_, _, rfl⟩ ev_int rfl hr ⟨by omega, by omega⟩ (by decide)) ev_int opd_eq_int)) (fun q => ?u1) (fun q => ?u2)
        case u1 =>
          rw [if_pos (of_decide_eq_true q)] at hC
          subst hC
          have z := ev_take (E := E) (ta := tVar 0) (ρ := [.val (.d (intsD row)), .own false (.lst [.int (n2 + 1)]), .own true (.dk []), .own true (.lst (N0.map ndD)), s4, .own true (.lst []), .val (.d (.int 0)), .non, .non, .non, .non, .non, .non, .non]) (n := n2 + 1) (l := false) (i := 1) (tc := tC (.int 17)) (ev_var rfl) ⟨_, _, rfl⟩ ev_int rfl hr ⟨by omega, by omega⟩ (by decide)
          rw [show n2 + 1 + 1 = n2 + 2 by omega] at z
          exact z
        case u2 =>
          rw [if_neg (of_decide_eq_false q)] at hC
          subst hC
          have z := ev_take (E := E) (ta := tVar 0) (ρ := [.val (.d (intsD row)), .own false (.lst [.int (n2 + 1)]), .own true (.dk []), .own true (.lst (N0.map ndD)), s4, .own true (.lst []), .val (.d (.int 0)), .non, .non, .non, .non, .non, .non, .non]) (n := n2 + 1) (l := false) (i := 1) (tc := tC (.int 4)) (ev_var rfl) ⟨_, _, rfl⟩ ev_int rfl hr ⟨by omega, by omega⟩ (by decide)
          rw [show n2 + 1 + 1 = n2 + 2 by omega] at z
          exact z
    · rw [if_neg q1] at hC hB
      subst hB hC
      refine' ei_range1 (j := 0) (ea_cons (ev_if (ρ1 := [.val (.d (intsD row)), .own false (.lst [.int (n2)]), .own true (.dk []), .own true (.lst (N0.map ndD)), s4, .own true (.lst []), .val (.d (.int 0)), .non, .non, .non, .non, .non, .non, .non]) (b := false) ?t1 (fun z => by cases z) (fun _ => ev_int)) ea_nil) (by omega) (by omega)
      case t1 =>
        have z := et_b (ρ := [.val (.d (intsD row)), .own false (.lst [.int (n2)]), .own true (.dk []), .own true (.lst (N0.map ndD)), s4, .own true (.lst []), .val (.d (.int 0)), .non, .non, .non, .non, .non, .non, .non]) (ρ1 := [.val (.d (intsD row)), .own false (.lst [.int (n2)]), .own true (.dk []), .own true (.lst (N0.map ndD)), s4, .own true (.lst []), .val (.d (.int 0)), .non, .non, .non, .non, .non, .non, .non]) (ev_op (ev_cw (ew_var (i := 3) rfl) (cw_len (K := K))) (ev_int (i := 1)) opd_gt)
        rw [List.length_map, decide_eq_false (by omega)] at z
        exact z
  case b2 =>
    rintro i x _ hx ⟨s4, s7, s8, s9, s10, rfl⟩
    obtain ⟨hi, rfl⟩ := at_range hx
    have q1 : 1 < N0.length := by
      by_cases q1 : 1 < N0.length
      · exact q1
      · rw [if_neg q1] at hC; omega
    have hi : i < 16 := by omega
    refine ⟨_, gt_name, ?_⟩
    have l1 := linesAt_len row N0 B i
    have l2 := linesAt_n row N0 B i
    have l4 := linesAt_c row N0 B i
    simp only [linesAt]
    generalize linesAt row N0 B i = s at l1 l2 l4
    have d1 := draw_bd row s.n N0.length (by omega)
    have d2 := draw_bd row (s.n + 1) (N0.length - 1) (by omega)
    have df := ends_differ d1 d2
    have hm := many_le (row := row) (n := s.n) l4
    have l3 := end_le row (s.n + 4 + 10 * manyOf row s.n s.c)
    show WP _ [.val (.d (intsD row)), .own false (.lst [.int (s.n)]), .own true (.dk (usedKvs (s.ls.map (·.name)))), .own true (.lst (N0.map ndD)), .val (.d (.int (0 + (i : Int)))), .own true (.lst (s.ls.map lnD)), .val (.d (.int (s.c))), s7, s8, s9, s10, .non, .non, .non] _
    refine wp_seq ?_
    have t1 := ev_take (E := E) (ta := tVar 0) (ρ := [.val (.d (intsD row)), .own false (.lst [.int (s.n)]), .own true (.dk (usedKvs (s.ls.map (·.name)))), .own true (.lst (N0.map ndD)), .val (.d (.int (0 + (i : Int)))), .own true (.lst (s.ls.map lnD)), .val (.d (.int (s.c))), s7, s8, s9, s10, .non, .non, .non]) (n := s.n) (lim := N0.length) (l := false) (i := 1) (ev_var rfl) ⟨_, _, rfl⟩ (by have z := ev_cw (ρ := [.val (.d (intsD row)), .own false (.lst [.int (s.n)]), .own true (.dk (usedKvs (s.ls.map (·.name)))), .own true (.lst (N0.map ndD)), .val (.d (.int (0 + (i : Int)))), .own true (.lst (s.ls.map lnD)), .val (.d (.int (s.c))), s7, s8, s9, s10, .non, .non, .non]) (ew_var (i := 3) rfl) (cw_len (K := K)); rw [List.length_map] at z; exact z) rfl hr ⟨by omega, by omega⟩ (by omega)
    refine' wp_asg t1 ?_
    show WP _ [.val (.d (intsD row)), .own false (.lst [.int (s.n + 1)]), .own true (.dk (usedKvs (s.ls.map (·.name)))), .own true (.lst (N0.map ndD)), .val (.d (.int (0 + (i : Int)))), .own true (.lst (s.ls.map lnD)), .val (.d (.int (s.c))), .val (.d (.int (drawZ row s.n N0.length))), s8, s9, s10, .non, .non, .non] _
    refine wp_seq ?_
    have t2 := ev_tk (E := E) (ta := tVar 0) (ρ := [.val (.d (intsD row)), .own false (.lst [.int (s.n + 1)]), .own true (.dk (usedKvs (s.ls.map (·.name)))), .own true (.lst (N0.map ndD)), .val (.d (.int (0 + (i : Int)))), .own true (.lst (s.ls.map lnD)), .val (.d (.int (s.c))), .val (.d (.int (drawZ row s.n N0.length))), s8, s9, s10, .non, .non, .non]) (n := s.n + 1) (s.n + 2) (lim := N0.length - 1) (l := false) (i := 1) (ev_var rfl) ⟨_, _, rfl⟩ (by have z := ev_op (ev_cw (ρ := [.val (.d (intsD row)), .own false (.lst [.int (s.n + 1)]), .own true (.dk (usedKvs (s.ls.map (·.name)))), .own true (.lst (N0.map ndD)), .val (.d (.int (0 + (i : Int)))), .own true (.lst (s.ls.map lnD)), .val (.d (.int (s.c))), .val (.d (.int (drawZ row s.n N0.length))), s8, s9, s10, .non, .non, .non]) (ew_var (i := 3) rfl) (cw_len (K := K))) (ev_int (i := 1)) opd_sub; rw [List.length_map] at z; exact z) rfl hr ⟨by omega, by omega⟩ (by omega) (by omega)
    refine' wp_asg (ev_op (ev_cb1 (ev_op (ev_op (ev_var rfl) ev_int opd_add) t2 opd_add) cd_int) (ev_cw (ew_var rfl) cw_len) (opd_mod (by rw [List.length_map]; omega))) ?_
    rw [List.length_map]
    show WP _ [.val (.d (intsD row)), .own false (.lst [.int (s.n + 2)]), .own true (.dk (usedKvs (s.ls.map (·.name)))), .own true (.lst (N0.map ndD)), .val (.d (.int (0 + (i : Int)))), .own true (.lst (s.ls.map lnD)), .val (.d (.int (s.c))), .val (.d (.int (drawZ row s.n N0.length))), .val (.d (.int ((drawZ row s.n N0.length + 1 + drawZ row (s.n + 1) (N0.length - 1)) % N0.length))), s9, s10, .non, .non, .non] _
    refine wp_seq ?_
    have l13 : (0 : Int) < (if drawZ row (s.n + 2) 4 = 0 then 13 else 4) := by split <;> decide
    refine' wp_asg (x := .d (.int (manyOf row s.n s.c))) (ev_cb2 (ev_op ev_int (ev_var rfl) opd_sub) (ev_tk (n := s.n + 3) (s.n + 4) (l := false) (ρ1 := [.val (.d (intsD row)), .own false (.lst [.int (s.n + 3)]), .own true (.dk (usedKvs (s.ls.map (·.name)))), .own true (.lst (N0.map ndD)), .val (.d (.int (0 + (i : Int)))), .own true (.lst (s.ls.map lnD)), .val (.d (.int (s.c))), .val (.d (.int (drawZ row s.n N0.length))), .val (.d (.int ((drawZ row s.n N0.length + 1 + drawZ row (s.n + 1) (N0.length - 1)) % N0.length))), s9, s10, .non, .non, .non]) (ev_var rfl) ⟨_, _, rfl⟩ (ev_pick (n := s.n + 2) (l := false) (s.n + 3) (et_b (ev_op (ev_tk (n := s.n + 2) (s.n + 3) (ev_var rfl) ⟨_, _, rfl⟩ ev_int rfl hr ⟨by omega, by omega⟩ (by decide) (by omega)) ev_int opd_eq_int))) rfl hr ⟨by omega, by omega⟩ l13 (by omega)) cd_min2) ?_
    show WP _ [.val (.d (intsD row)), .own false (.lst [.int (s.n + 4)]), .own true (.dk (usedKvs (s.ls.map (·.name)))), .own true (.lst (N0.map ndD)), .val (.d (.int (0 + (i : Int)))), .own true (.lst (s.ls.map lnD)), .val (.d (.int (s.c))), .val (.d (.int (drawZ row s.n N0.length))), .val (.d (.int ((drawZ row s.n N0.length + 1 + drawZ row (s.n + 1) (N0.length - 1)) % N0.length))), .val (.d (.int (manyOf row s.n s.c))), s10, .non, .non, .non] _
    refine wp_seq ?_
    generalize hmm : manyOf row s.n s.c = m at hm l3 ⊢
    obtain ⟨k, rfl⟩ := Int.eq_ofNat_of_zero_le hm.1
    have e0 : s.n + 4 = s.n + 4 + 10 * ((0 : Nat) : Int) := by omega
    refine' wp_asg (ev_cw (EO.w (eo_lcN (xs := rangeD 0 k) k (by simp [rangeD]) (fun j : Nat => [.val (.d (intsD row)), .own false (.lst [.int (s.n + 4 + 10 * (j : Int))]), .own true (.dk (usedKvs (s.ls.map (·.name)))), .own true (.lst (N0.map ndD)), .val (.d (.int (0 + (i : Int)))), .own true (.lst (s.ls.map lnD)), .val (.d (.int (s.c))), .val (.d (.int (drawZ row s.n N0.length))), .val (.d (.int ((drawZ row s.n N0.length + 1 + drawZ row (s.n + 1) (N0.length - 1)) % N0.length))), .val (.d (.int (k : Int))), s10, .non, .non, .non]) (fun j => (csOf row (s.n + 4) j).map ptD) ?src rfl ?hv (fun _ => rfl) (by rw [PySem.sizeLine_eq]; omega) ?turn)) cw_tuple) ?_
    case src =>
      show EI _ _ _ [.val (.d (intsD row)), .own false (.lst [.int (s.n + 4 + 10 * ((0 : Nat) : Int))]), .own true (.dk (usedKvs (s.ls.map (·.name)))), .own true (.lst (N0.map ndD)), .val (.d (.int (0 + (i : Int)))), .own true (.lst (s.ls.map lnD)), .val (.d (.int (s.c))), .val (.d (.int (drawZ row s.n N0.length))), .val (.d (.int ((drawZ row s.n N0.length + 1 + drawZ row (s.n + 1) (N0.length - 1)) % N0.length))), .val (.d (.int (k : Int))), s10, .non, .non, .non]
      rw [← e0]
      exact ei_range1 (j := (k : Int)) (ea_cons (ev_var rfl) ea_nil) (by omega) (by omega)
    case hv =>
      intro i j hj
      have hj : j = 13 := by simpa using hj
      subst hj
      exact ⟨rfl, fun l c h => by cases h⟩
    case turn =>
      intro j x hx
      obtain ⟨hj, rfl⟩ := at_range hx
      have e1 : s.n + 4 + 10 * ((j + 1 : Nat) : Int) = s.n + 4 + 10 * (j : Int) + 5 + 5 := by omega
      refine ⟨⟨[13], [_], true, _, fun i h => h, gt_name, et_yes, ?_⟩⟩
      rw [if_pos rfl]
      refine ⟨_, _, ev_tup (ds := [.int _, .int _]) (ea_cons (ev_free (n := s.n + 4 + 10 * (j : Int)) (ev_var rfl) rfl hr ⟨by omega, by omega⟩) (ea_cons (ev_free (n := s.n + 4 + 10 * (j : Int) + 5) (ev_var rfl) rfl hr ⟨by omega, by omega⟩) ea_nil)) (show 2 ≤ sizeLine by decide), csOf_snoc row (s.n + 4) j, fun a ha => ?_⟩
      rw [e1]
      match a, ha with
      | 0, _ => rfl
      | 1, _ => rfl
      | 2, _ => rfl
      | 3, _ => rfl
      | 4, _ => rfl
      | 5, _ => rfl
      | 6, _ => rfl
      | 7, _ => rfl
      | 8, _ => rfl
      | 9, _ => rfl
      | 10, _ => rfl
      | 11, _ => rfl
      | 12, _ => rfl
      | 13, h => exact absurd (by simp) h
      | a + 14, _ => rfl
    show WP _ [.val (.d (intsD row)), .own false (.lst [.int (s.n + 4 + 10 * (k : Int))]), .own true (.dk (usedKvs (s.ls.map (·.name)))), .own true (.lst (N0.map ndD)), .val (.d (.int (0 + (i : Int)))), .own true (.lst (s.ls.map lnD)), .val (.d (.int (s.c))), .val (.d (.int (drawZ row s.n N0.length))), .val (.d (.int ((drawZ row s.n N0.length + 1 + drawZ row (s.n + 1) (N0.length - 1)) % N0.length))), .val (.d (.int (k : Int))), .val (.d (.tuple ((csOf row (s.n + 4) k).map ptD))), .non, .non, .non] _
    obtain ⟨u1, u2, a1⟩ := at_nd (ns := N0) d1
    obtain ⟨u3, u4, a2⟩ := at_nd (ns := N0) df.1
    refine wp_seq ?_
    refine' wp_append rfl (ev_tup (ds := [.str _, .str _, .str _, .tuple _]) (ea_cons (ev_name (n := s.n + 4 + 10 * (k : Int)) (ev_var rfl) rfl rfl (by decide) hr ⟨by omega, by omega⟩ (by rw [List.length_map]; omega)) (ea_cons (ev_op (ev_ixO (ev_var rfl) ⟨_, _, rfl⟩ rfl a1) ev_int opd_ix0T) (ea_cons (ev_op (ev_ixO (ev_var rfl) ⟨_, _, rfl⟩ rfl a2) ev_int opd_ix0T) (ea_cons (ev_var rfl) ea_nil)))) (show 4 ≤ sizeLine by decide)) rfl (by rw [List.length_map]; exact size4000 (by omega)) ?_
    refine' wp_asg (ev_op (ev_var rfl) (ev_var rfl) opd_add) ?_
    refine ⟨.val (.d (.int (0 + (i : Int)))), .val (.d (.int (drawZ row s.n N0.length))), .val (.d (.int ((drawZ row s.n N0.length + 1 + drawZ row (s.n + 1) (N0.length - 1)) % N0.length))), .val (.d (.int (k : Int))), .val (.d (.tuple ((csOf row (s.n + 4) k).map ptD))), ?_⟩
    simp only [List.map_append, List.map_cons, List.map_nil]
    rfl
  case d2 =>
  rintro _ ⟨s4, s7, s8, s9, s10, rfl⟩
  have el : (rangeD 0 C.toNat).length = C.toNat := by rw [rangeD, List.length_map, List.length_range]
  rw [el]
  have l2 := linesAt_n row N0 B C.toNat
  have l1 := linesAt_len row N0 B C.toNat
  generalize linesAt row N0 B C.toNat = s at l1 l2 ho1 fe ⊢
  have b2 : n ≤ s.n ∧ s.n ≤ n + 3000 := by omega
  clear hC hB l2
  show WP _ [.val (.d (intsD row)), .own false (.lst [.int (s.n)]), .own true (.dk (usedKvs (s.ls.map (·.name)))), .own true (.lst (N0.map ndD)), s4, .own true (.lst (s.ls.map lnD)), .val (.d (.int (s.c))), s7, s8, s9, s10, .non, .non, .non] _
  refine wp_seq ?_
  refine' wp_asgO eo_dk ?_
  refine wp_seq ?_
  refine' wp_asgO (eo_lst (ds := []) ea_nil (by decide)) ?_
  show WP _ [.val (.d (intsD row)), .own false (.lst [.int (s.n)]), .own true (.dk []), .own true (.lst (N0.map ndD)), s4, .own true (.lst (s.ls.map lnD)), .val (.d (.int (s.c))), s7, s8, s9, s10, .own true (.lst []), .non, .non] _
  have cd : cnt2 row s.n 11 3 ≤ 10 := cnt2_le row s.n (a := 11) (b := 3) (m := 10) (by omega)
  refine wp_seq ?_
  refine' wp_for (fun i ρ => ∃ s4 s12, ρ = [.val (.d (intsD row)), .own false (.lst [.int ((marksAt row (s.n + 2) i).2)]), .own true (.dk (usedKvs ((marksAt row (s.n + 2) i).1.map (·.name)))), .own true (.lst (N0.map ndD)), s4, .own true (.lst (s.ls.map lnD)), .val (.d (.int (s.c))), s7, s8, s9, s10, .own true (.lst ((marksAt row (s.n + 2) i).1.map mkD)), s12, .non]) (ei_range1 (j := drawZ row (s.n + 1) (if drawZ row (s.n) 4 = 0 then 11 else 3)) (ea_cons (ev_tk (n := s.n + 1) (s.n + 2) (l := false) (ρ1 := [.val (.d (intsD row)), .own false (.lst [.int (s.n + 1)]), .own true (.dk []), .own true (.lst (N0.map ndD)), s4, .own true (.lst (s.ls.map lnD)), .val (.d (.int (s.c))), s7, s8, s9, s10, .own true (.lst []), .non, .non]) (ev_var rfl) ⟨_, _, rfl⟩ (ev_pick (n := s.n) (l := false) (s.n + 1) (et_b (ev_op (ev_tk (n := s.n) (s.n + 1) (ev_var rfl) ⟨_, _, rfl⟩ ev_int rfl hr ⟨by omega, by omega⟩ (by decide) rfl) ev_int opd_eq_int))) rfl hr ⟨by omega, by omega⟩ (by split <;> decide) (by omega)) ea_nil) (by have := draw_bd row (s.n + 1) (if drawZ row (s.n) 4 = 0 then 11 else 3) (by split <;> decide); omega) (by have := draw_bd row (s.n + 1) (if drawZ row (s.n) 4 = 0 then 11 else 3) (by split <;> decide); have : (if drawZ row (s.n) 4 = 0 then (11 : Int) else 3) ≤ 17 := (by split <;> decide); omega)) ⟨_, _, rfl⟩ ?b3 ?d3
  case b3 =>
    rintro i x _ hx ⟨s4, s12, rfl⟩
    obtain ⟨hi, rfl⟩ := at_range hx
    have hi : i < cnt2 row s.n 11 3 := hi
    refine ⟨_, gt_name, ?_⟩
    have m1 := marksAt_len row (s.n + 2) i
    have m2 := marksAt_n row (s.n + 2) i
    simp only [marksAt]
    generalize marksAt row (s.n + 2) i = t at m1 m2
    have m3 := end_le row (t.2 + 5)
    show WP _ [.val (.d (intsD row)), .own false (.lst [.int (t.2)]), .own true (.dk (usedKvs (t.1.map (·.name)))), .own true (.lst (N0.map ndD)), .val (.d (.int (0 + (i : Int)))), .own true (.lst (s.ls.map lnD)), .val (.d (.int (s.c))), s7, s8, s9, s10, .own true (.lst (t.1.map mkD)), s12, .non] _
    refine wp_seq ?_
    refine' wp_asg (ev_tup (ds := [.int (wideZ row t.2 1000001), .int (highOf row (t.2 + 3))]) (ea_cons (ev_wd (n := t.2) (t.2 + 3) (ev_var rfl) ⟨_, _, rfl⟩ ev_int rfl hr ⟨by omega, by omega⟩ (by decide) (by omega)) (ea_cons (ev_op (EO.vl (eo_lst (ds := [.int 0, .int 1000000, .int (drawZ row (t.2 + 3) 9)]) (ea_cons ev_int (ea_cons ev_pow6 (ea_cons (ev_tk (n := t.2 + 3) (t.2 + 4) (ev_var rfl) ⟨_, _, rfl⟩ ev_int rfl hr ⟨by omega, by omega⟩ (by decide) (by omega)) ea_nil))) (show 3 ≤ sizeLine by decide))) (ev_tk (n := t.2 + 4) (t.2 + 5) (ev_var rfl) ⟨_, _, rfl⟩ ev_int rfl hr ⟨by omega, by omega⟩ (by decide) (by omega)) (opd_ixL (high_at (by omega)))) ea_nil)) (show 2 ≤ sizeLine by decide)) ?_
    show WP _ [.val (.d (intsD row)), .own false (.lst [.int (t.2 + 5)]), .own true (.dk (usedKvs (t.1.map (·.name)))), .own true (.lst (N0.map ndD)), .val (.d (.int (0 + (i : Int)))), .own true (.lst (s.ls.map lnD)), .val (.d (.int (s.c))), s7, s8, s9, s10, .own true (.lst (t.1.map mkD)), .val (.d (.tuple [.int (wideZ row t.2 1000001), .int (highOf row (t.2 + 3))])), .non] _
    refine' wp_append rfl (ev_op (ev_tup (ds := [.str _, .int _, .int _]) (ea_cons (ev_name (n := t.2 + 5) (ev_var rfl) rfl rfl (by decide) hr ⟨by omega, by omega⟩ (by rw [List.length_map]; omega)) (ea_cons (ev_free (n := nameEnd row (t.2 + 5)) (ev_var rfl) rfl hr ⟨by omega, by omega⟩) (ea_cons (ev_free (n := nameEnd row (t.2 + 5) + 5) (ev_var rfl) rfl hr ⟨by omega, by omega⟩) ea_nil))) (show 3 ≤ sizeLine by decide)) (ev_var rfl) (opd_cat_tup (show 3 + 2 ≤ sizeLine by decide))) rfl (by rw [List.length_map]; exact size4000 (by omega)) ?_
    refine ⟨.val (.d (.int (0 + (i : Int)))), .val (.d (.tuple [.int (wideZ row t.2 1000001), .int (highOf row (t.2 + 3))])), ?_⟩
    simp only [List.map_append, List.map_cons, List.map_nil]
    rfl
  case d3 =>
  rintro _ ⟨s4, s12, rfl⟩
  have el3 : (rangeD 0 (drawZ row (s.n + 1) (if drawZ row s.n 4 = 0 then 11 else 3)).toNat).length = cnt2 row s.n 11 3 := by rw [rangeD, List.length_map, List.length_range]; rfl
  rw [el3]
  have m1 := marksAt_len row (s.n + 2) (cnt2 row s.n 11 3)
  generalize marksAt row (s.n + 2) (cnt2 row s.n 11 3) = t at m1 ho1 fe ⊢
  show WP _ [.val (.d (intsD row)), .own false (.lst [.int (t.2)]), .own true (.dk (usedKvs (t.1.map (·.name)))), .own true (.lst (N0.map ndD)), s4, .own true (.lst (s.ls.map lnD)), .val (.d (.int (s.c))), s7, s8, s9, s10, .own true (.lst (t.1.map mkD)), s12, .non] _
  refine' wp_ret (ev_tup (ds := [.tuple _, .tuple _, .tuple _]) (ea_cons (ev_cw (ew_var rfl) cw_tuple) (ea_cons (ev_cw (ew_var rfl) cw_tuple) (ea_cons (ev_cw (ew_var rfl) cw_tuple) ea_nil))) (show 3 ≤ sizeLine by decide)) ?_
  refine ⟨rfl, fun i c h => ?_⟩
  match i, h with
  | 0, h => cases h
  | 1, h => rw [ho1]; rfl
  | i + 2, h => simp at h
end

end Pv

set_option Elab.async false
set_option linter.all false
set_option maxRecDepth 100000
set_option maxHeartbeats 4000000
open PySem L2 Pw Hd
namespace Pv

section
variable {P : Program} {w : World} {K : PySem.W.Frag} {mg : Str → Option Value} {base : Heap}
theorem sc__law_numbers : FnScope [("script" : Str), ("row" : Str), ("cell" : Str), ("left" : Str), ("k" : Str), ("mixed" : Str)] [("script" : Str)] (defScope s__law_numbers) := ⟨rfl, rfl, rfl, by decide +kernel, rfl, by decide +kernel, by decide +kernel⟩
theorem c__law_numbers  (D : Df K mg "_law_numbers" s__law_numbers) (T : Bt mg)   : Cal P w K mg base 1 "_law_numbers" ["script"] (spG gNumbers) := by
  have sc := sc__law_numbers
  refine cal_mk (k := 0) D sc (fun vs H Q E s => lenNumbers s) (fun _ _ _ _ _ _ us hl => match us, hl with | [_], _ => rfl) (fun f cdv A outer st H vs Q E hr h => ⟨_, (pss_cons (ps_set (i := 1) sc.nd rfl (Or.inl rfl) (pe_lst pa_nil))
    (pss_cons (ps_for PassesOwn.never rfl (pi_LT K (pe_slice (sl_K K) (pv 0) po_none (po_some pe_int))) (pg_name (i := 2) sc.nd rfl (Or.inl rfl)) (pss_one (ps_if (pt_cmpR op_ge (pv 2) (pe_op op_pow pe_int pe_int) (nomark _)) (pss_cons (ps_set (i := 3) sc.nd rfl (Or.inl rfl) (pv 2))
    (pss_one (ps_for PassesOwn.never rfl (pi_range1 (by rfl) T.b_range (pa_cons pe_int pa_nil)) (pg_name (i := 4) sc.nd rfl (Or.inl rfl)) (pss_cons (ps_if (pt_cmpR (op_eqK K hr.units) (pv 3) pe_int (nomark _)) (pss_one ps_break) pss_nil)
    (pss_cons (ps_expr (pe_bmK K PySem.F.plainAttrs_list PySem.F.slot_list_append PySem.F.type_list_append mt_append (pv 1) (pa_cons (pe_op op_mod (pe_callTy call_int1 (by rfl) T.b_int (by decide +kernel) (pa_cons (pv 3) pa_nil)) pe_int) pa_nil)))
    (pss_one (ps_set (i := 3) sc.nd rfl (Or.inl rfl) (pe_op op_fdiv (pv 3) pe_int)))))))) (pss_one (ps_for PassesOwn.never rfl (pi_range1 (by rfl) T.b_range (pa_cons pe_int pa_nil)) (pg_name (i := 4) sc.nd rfl (Or.inl rfl)) (pss_cons (ps_set (i := 5) sc.nd rfl (Or.inl rfl) (pe_op op_mod (pe_callTy call_int1 (by rfl) T.b_int (by decide +kernel) (pa_cons (pe_op (op_plusK K) (pe_op (op_plusK K) (pe_op op_mul (pv 2) pe_int) (pe_op op_mul (pv 4) pe_int)) pe_int) pa_nil)) pe_int))
    (pss_one (ps_expr (pe_bmK K PySem.F.plainAttrs_list PySem.F.slot_list_append PySem.F.type_list_append mt_append (pv 1) (pa_cons (pe_op op_mod (pe_callTy call_int1 (by rfl) T.b_int (by decide +kernel) (pa_cons (pe_op (op_plusK K) (pe_op op_mul (pv 5) pe_int) (pv 4)) pa_nil)) pe_int) pa_nil))))))))))
    (pss_cons (ps_if (pt_cmpR (op_eqK K hr.units) (pe_callB (call_lenK K) (by rfl) T.b_len (by decide +kernel) (pa_cons (pv 1) pa_nil)) pe_int (nomark _)) (pss_one (ps_expr (pe_bmK K PySem.F.plainAttrs_list PySem.F.slot_list_append PySem.F.type_list_append mt_append (pv 1) (pa_cons pe_int pa_nil)))) pss_nil)
    (pss_one (ps_ret (pv 1)))))), wp_def h ?_⟩)
  rintro as ret outs ⟨ns, rfl, hn, rfl⟩ _
  refine wp_seq ?_
  refine' wp_asgO (eo_lst (ds := []) ea_nil (by decide)) ?_
  show WP _ _ _
  refine wp_seq ?_
  refine' wp_for (fun i ρ => ∃ s2 s3 s4 s5, ρ = [.val (.scr ns), .own true (.lst (((ns.take i).flatMap cellZ).map .int)), s2, s3, s4, s5]) (ei_or1 (ei_list (EO.vl (eo_slScr (ev_var rfl) eo_none (eo_some ev_int))))) ⟨_, _, _, _, rfl⟩ ?body ?done
  case body =>
    rintro i x _ hx ⟨s2, s3, s4, s5, rfl⟩
    rw [cut63 hn] at hx
    obtain ⟨c, hc, rfl⟩ := at_ints hx
    have step := cells_step hc
    have hi : i < ns.length := by
      rcases Nat.lt_or_ge i ns.length with z | z
      · exact z
      · rw [List.getElem?_eq_none z] at hc; cases hc
    have la := cells_len (ns.take i)
    rw [List.length_take, Nat.min_eq_left (Nat.le_of_lt hi)] at la
    generalize (ns.take i).flatMap cellZ = A at la step
    refine ⟨_, gt_name, ?_⟩
    show WP _ [_, _, .val (.d (.int c)), s3, s4, s5] _
    refine' wp_if (et_b (ev_op (ev_var rfl) (ev_op ev_int ev_int (opd_I ?pw)) opd_ge)) ?ht ?hf
    case pw => exact ⟨by decide, by decide, by decide⟩
    case ht =>
      intro hb
      have hb := of_decide_eq_true hb
      have ec : cellZ c = bigZ 60 c := if_pos hb
      refine wp_seq ?_
      refine' wp_asg (ev_var rfl) ?_
      show WP _ _ _
      refine' wp_for (fun j ρ => ∃ pre left s4, bigZ 60 c = pre ++ bigZ (60 - j) left ∧ ρ = [.val (.scr ns), .own true (.lst ((A ++ pre).map .int)), .val (.d (.int c)), .val (.d (.int left)), s4, s5]) (ei_range1 (ea_cons ev_int ea_nil) (by decide) (by decide)) ⟨[], c, _, rfl, by rw [List.append_nil]; rfl⟩ ?b2 ?d2
      case b2 =>
        rintro j x _ hx ⟨pre, left, s4, hp, rfl⟩
        obtain ⟨hj, rfl⟩ := at_range hx
        have hj : j < 60 := hj
        refine ⟨_, gt_name, ?_⟩
        show WP _ [_, _, _, _, .val (.d (.int (0 + (j : Int)))), s5] _
        have e60 : 60 - j = (60 - (j + 1)) + 1 := by omega
        rw [e60] at hp
        have lp : pre.length ≤ 60 := by
          have := bigZ_len 60 c
          rw [hp, List.length_append] at this
          omega
        refine wp_seq ?_
        refine' wp_if (et_b (ev_op (ev_var rfl) ev_int opd_eq_int)) ?t3 ?f3
        case t3 =>
          intro z
          have z := of_decide_eq_true z
          refine wp_break ?_
          have e0 : bigZ (60 - (j + 1) + 1) left = [] := by rw [z]; rfl
          rw [e0, List.append_nil] at hp
          exact ⟨_, _, _, _, by rw [step, ec, hp]⟩
        case f3 =>
          intro z
          have z := of_decide_eq_false z
          refine wp_next ?_
          show WP _ _ _
          refine wp_seq ?_
          refine' wp_append rfl (ev_op (ev_cb1 (ev_var rfl) cd_int) ev_int (opd_mod (by decide))) rfl ?_ ?_
          · rw [List.length_map, List.length_append]; exact size4000 (by omega)
          show WP _ _ _
          refine' wp_asg (ev_op (ev_var rfl) ev_int (opd_fdiv ⟨by decide, by decide⟩)) ?_
          have e1 : bigZ (60 - (j + 1) + 1) left = (left % 997) :: bigZ (60 - (j + 1)) (left / 997) := if_neg z
          refine ⟨pre ++ [left % 997], left / 997, .val (.d (.int (0 + (j : Int)))), by rw [hp, e1, List.append_assoc]; rfl, ?_⟩
          have em : ((A ++ (pre ++ [left % 997])).map PyData.int) = (A ++ pre).map PyData.int ++ [PyData.int (left % 997)] := by simp
          rw [em]
          rfl
      case d2 =>
        rintro _ ⟨pre, left, s4, hp, rfl⟩
        have hp : bigZ 60 c = pre ++ [] := hp
        rw [List.append_nil] at hp
        exact ⟨_, _, _, _, by rw [step, ec, hp]⟩
    case hf =>
      intro hb
      have hb := of_decide_eq_false hb
      have ec : cellZ c = smallZ c := if_neg hb
      refine' wp_for (fun j ρ => ∃ s4 s5, ρ = [.val (.scr ns), .own true (.lst ((A ++ (smallZ c).take j).map .int)), .val (.d (.int c)), s3, s4, s5]) (ei_range1 (ea_cons ev_int ea_nil) (by decide) (by decide)) ⟨_, _, by rw [List.take_zero, List.append_nil]⟩ ?b2 ?d2
      case b2 =>
        rintro j x _ hx ⟨s4, s5, rfl⟩
        obtain ⟨hj, rfl⟩ := at_range hx
        have hj : j < 4 := hj
        refine ⟨_, gt_name, ?_⟩
        show WP _ [_, _, _, _, .val (.d (.int (0 + (j : Int)))), s5] _
        refine wp_seq ?_
        refine' wp_asg (ev_op (ev_cb1 (ev_op (ev_op (ev_op (ev_var rfl) ev_int (opd_mul ?m1)) (ev_op (ev_var rfl) ev_int (opd_mul ?m2)) opd_add) ev_int opd_add) cd_int) ev_int (opd_mod ?m3)) ?k
        case m1 => exact .inr ⟨by decide, by decide⟩
        case m2 => exact .inr ⟨by decide, by decide⟩
        case m3 => decide
        case k =>
          show WP _ _ _
          refine' wp_append rfl (ev_op (ev_cb1 (ev_op (ev_op (ev_var rfl) ev_int (opd_mul ?m1)) (ev_var rfl) opd_add) cd_int) ev_int (opd_mod (by decide))) rfl ?sz ?nx
          case m1 => exact .inr ⟨by decide, by decide⟩
          case sz =>
            rw [List.length_map, List.length_append, List.length_take]
            have : (smallZ c).length = 4 := by simp [smallZ]
            exact size4000 (by omega)
          case nx =>
            refine ⟨.val (.d (.int (0 + (j : Int)))), .val (.d (.int ((c * 48271 + (0 + (j : Int)) * 69621 + 11) % 2147483647))), ?_⟩
            have e : (smallZ c)[j]? = some ((((c * 48271 + (j : Int) * 69621 + 11) % 2147483647) * 16807 + j) % 2147483629) := by
              unfold smallZ
              rw [List.getElem?_map, List.getElem?_range hj]; rfl
            have em : ((A ++ (smallZ c).take (j + 1)).map PyData.int) = (A ++ (smallZ c).take j).map PyData.int ++ [PyData.int ((((c * 48271 + (j : Int) * 69621 + 11) % 2147483647) * 16807 + j) % 2147483629)] := by
              rw [List.take_add_one, e]; simp
            rw [em]
            simp only [Int.zero_add]
            rfl
      case d2 =>
        rintro _ ⟨s4, s5, rfl⟩
        have e4 : (smallZ c).take 4 = smallZ c := List.take_of_length_le (by simp [smallZ])
        exact ⟨.val (.d (.int c)), s3, s4, s5, by rw [step, ec]; show [_, Slot.own true (.lst ((A ++ (smallZ c).take 4).map .int)), _, _, _, _] = _; rw [e4]⟩
  case done =>
    rintro _ ⟨s2, s3, s4, s5, rfl⟩
    have e : ns.take ((cutD (ns.map PyData.int) none (some 63)).map Val.d).length = ns := by
      rw [cut63 hn, List.length_map, List.length_map, List.take_length]
    rw [e]
    show WP _ _ _
    refine wp_seq ?_
    refine' wp_if (et_b (ev_op (ev_cw (ew_var rfl) cw_len) ev_int opd_eq_int)) ?ht ?hf
    case ht =>
      intro z
      have z := of_decide_eq_true z
      rw [List.length_map] at z
      have z : (ns.flatMap cellZ).length = 0 := by omega
      refine' wp_append rfl ev_int rfl ?_ ?_
      · rw [List.length_map, z]; decide
      show WP _ _ _
      refine' wp_retV rfl ?_
      refine ⟨.inr (.inr ⟨_, rfl, ?_⟩), fun i c h => (no1r h).elim⟩
      have e2 : ns.flatMap cellZ = [] := List.eq_nil_of_length_eq_zero z
      simp only [numbersZ, if_pos z, e2]
      rfl
    case hf =>
      intro z
      have z := of_decide_eq_false z
      rw [List.length_map] at z
      have z : ¬ (ns.flatMap cellZ).length = 0 := by omega
      refine wp_next ?_
      show WP _ _ _
      refine' wp_retV rfl ?_
      refine ⟨.inr (.inr ⟨_, rfl, ?_⟩), fun i c h => (no1r h).elim⟩
      simp only [numbersZ, if_neg z]
theorem sc__law_so : FnScope [("found" : Str), ("meant" : Str), ("k" : Str)] [("found" : Str), ("meant" : Str)] (defScope s__law_so) := ⟨rfl, rfl, rfl, by decide +kernel, rfl, by decide +kernel, by decide +kernel⟩
theorem c__law_so (D : Df K mg "_law_so" s__law_so) (T : Bt mg)  : ∀ n : Nat, Cal P w K mg base (n + 1) "_law_so" ["found", "meant"] (sp2 (gSo n))
  | 0 => cal_mk (k := 0) D sc__law_so (fun vs H Q E s => len2 s) (fun _ _ _ _ _ _ us hl => match us, hl with | [_, _], _ => rfl) (fun f cdv A outer st H vs Q E hr h => (no2 (fun a b y h => absurd h.1 (Nat.not_lt_zero _)) h).elim)
  | n + 1 => by
    have c__law_so : Cal P w K mg base (n + 1) "_law_so" ["found", "meant"] (sp2 (gSo n)) := c__law_so D T  n
    have sc := sc__law_so
    refine cal_mk (k := n + 1) D sc (fun vs H Q E s => len2 s) (fun _ _ _ _ _ _ us hl => match us, hl with | [_, _], _ => rfl) (fun f cdv A outer st H vs Q E hr h => ⟨_, (pss_cons (ps_if (pt_cmp (pc_isN (pv 1))) (pss_one (ps_ret (pe_cmp (pc_isN (pv 0))))) pss_nil)
    (pss_cons (ps_if (pt_val (pe_callB (call_isiK' K) (by rfl) T.b_isinstance (by decide +kernel) (pa_cons (pv 1) (pa_cons (pe_bltn (v := .ty "tuple") (by rfl) T.b_tuple (by decide +kernel) rfl) pa_nil)))) (pss_cons (ps_if ((pw_or (pt_not (pt_val (pe_callB (call_isiK' K) (by rfl) T.b_isinstance (by decide +kernel) (pa_cons (pv 0) (pa_cons (pe_bltn (v := .ty "tuple") (by rfl) T.b_tuple (by decide +kernel) rfl) pa_nil))))) (pw_or1 (pt_cmpR (op_neK K hr.units) (pe_callB (call_lenK K) (by rfl) T.b_len (by decide +kernel) (pa_cons (pv 0) pa_nil)) (pe_callB (call_lenK K) (by rfl) T.b_len (by decide +kernel) (pa_cons (pv 1) pa_nil)) (nomark _))))).pt (pss_one (ps_ret pe_bl)) pss_nil)
    (pss_cons (ps_for PassesOwn.never rfl (pi_range1 (by rfl) T.b_range (pa_cons (pe_callB (call_lenK K) (by rfl) T.b_len (by decide +kernel) (pa_cons (pv 1) pa_nil)) pa_nil)) (pg_name (i := 2) sc.nd rfl (Or.inl rfl)) (pss_one (ps_if (pt_not (pt_val (pe_cal c__law_so hr (Nat.le_refl _) (by rfl) (pa_cons (pe_ix (ix_K K) (pv 0) (pv 2) (fun _ _ => rfl)) (pa_cons (pe_ix (ix_K K) (pv 1) (pv 2) (fun _ _ => rfl)) pa_nil))))) (pss_one (ps_ret pe_bl)) pss_nil)))
    (pss_one (ps_ret pe_bl)))) pss_nil)
    (pss_cons (ps_if ((pw_or (pt_val (pe_callB (call_isiK' K) (by rfl) T.b_isinstance (by decide +kernel) (pa_cons (pv 1) (pa_cons (pe_bltn (v := .ty "bool") (by rfl) T.b_bool (by decide +kernel) rfl) pa_nil)))) (pw_or1 (pt_val (pe_callB (call_isiK' K) (by rfl) T.b_isinstance (by decide +kernel) (pa_cons (pv 0) (pa_cons (pe_bltn (v := .ty "bool") (by rfl) T.b_bool (by decide +kernel) rfl) pa_nil))))))).pt (pss_one (ps_ret (pe_and (pe_callB (call_isiK' K) (by rfl) T.b_isinstance (by decide +kernel) (pa_cons (pv 1) (pa_cons (pe_bltn (v := .ty "bool") (by rfl) T.b_bool (by decide +kernel) rfl) pa_nil))) (pe_and (pe_callB (call_isiK' K) (by rfl) T.b_isinstance (by decide +kernel) (pa_cons (pv 0) (pa_cons (pe_bltn (v := .ty "bool") (by rfl) T.b_bool (by decide +kernel) rfl) pa_nil))) (pe_one (pe_cmpR (op_eqK K hr.units) (pv 0) (pv 1) (nomark _))))))) pss_nil)
    (pss_cons (ps_if (pt_val (pe_callB (call_isiK' K) (by rfl) T.b_isinstance (by decide +kernel) (pa_cons (pv 1) (pa_cons (pe_bltn (v := .ty "int") (by rfl) T.b_int (by decide +kernel) rfl) pa_nil)))) (pss_one (ps_ret (pe_and (pe_callB (call_isiK' K) (by rfl) T.b_isinstance (by decide +kernel) (pa_cons (pv 0) (pa_cons (pe_bltn (v := .ty "int") (by rfl) T.b_int (by decide +kernel) rfl) pa_nil))) (pe_one (pe_cmpR (op_eqK K hr.units) (pv 0) (pv 1) (nomark _)))))) pss_nil)
    (pss_one (ps_ret (pe_and (pe_callB (call_isiK' K) (by rfl) T.b_isinstance (by decide +kernel) (pa_cons (pv 1) (pa_cons (pe_bltn (v := .ty "str") (by rfl) T.b_str (by decide +kernel) rfl) pa_nil))) (pe_and (pe_callB (call_isiK' K) (by rfl) T.b_isinstance (by decide +kernel) (pa_cons (pv 0) (pa_cons (pe_bltn (v := .ty "str") (by rfl) T.b_str (by decide +kernel) rfl) pa_nil))) (pe_one (pe_cmpR (op_eqK K hr.units) (pv 0) (pv 1) (nomark _))))))))))), wp2 h ?_⟩)
    rintro a b _ ⟨hd, hm, rfl⟩
    refine wp_seq ?_
    refine' wp_if (et_b (ev_isN (ev_var rfl))) ?ht1 ?hf1
    case ht1 =>
      intro z
      cases b <;> first | (cases z; done) | skip
      refine' wp_ret (ev_isN (ev_var rfl)) ?_
      show _ = _
      simp only [soZ]
    case hf1 =>
      intro z0
      refine wp_next ?_
      show WP _ _ _
      refine wp_seq ?_
      refine' wp_if (et_test (ev_isi (ev_var rfl) (kit_tup b))) ?ht2 ?hf2
      case ht2 =>
        intro z
        cases b <;> first | (cases z; done) | skip
        rename_i ms
        by_cases ha : isTup a = true
        · cases a <;> first | (cases ha; done) | skip
          rename_i fs
          refine wp_seq ?_
          refine' wp_if (et_or0 (b := !decide ((fs.length : Int) = (ms.length : Int))) (et_not (et_test (ev_isi (ev_var rfl) (kit_tup _)))) (fun _ => et_b (ev_op (ev_cb1 (ev_var rfl) cd_lenT) (ev_cb1 (ev_var rfl) cd_lenT) opd_ne_int))) ?ht3 ?hf3
          case ht3 =>
            intro q
            have q : ¬ ((fs.length : Int) = ms.length) := by simpa [isTup] using q
            refine' wp_ret ev_bl ?_
            show _ = _
            have e : soZ (.tuple fs) (.tuple ms) = false := by
              rw [soZ]
              cases r : soAll fs ms with
              | false => rfl
              | true => exact absurd (by rw [soAll_len r]) q
            rw [e]
          case hf3 =>
            intro q
            have q : (fs.length : Int) = ms.length := by simpa [isTup] using q
            have q : fs.length = ms.length := by omega
            refine wp_next ?_
            show WP _ _ _
            refine wp_seq ?_
            refine' wp_for (fun i ρ => ∃ s2, ρ = [.val (.d (.tuple fs)), .val (.d (.tuple ms)), s2] ∧ ∀ (j : Nat) f m, j < i → fs[j]? = some f → ms[j]? = some m → soZ f m = true) (ei_range1 (ea_cons (ev_cb1 (ev_var rfl) cd_lenT) ea_nil) ?r1 ?r2) ⟨_, rfl, fun j f m h => absurd h (Nat.not_lt_zero _)⟩ ?body ?done
            case r1 => omega
            case r2 =>
              simp [smD] at hm
              omega
            case body =>
              rintro i x _ hx ⟨s2, rfl, hs⟩
              obtain ⟨hi, rfl⟩ := at_range hx
              have hi : i < ms.length := by omega
              have hi2 : i < fs.length := by omega
              refine ⟨_, gt_name, ?_⟩
              show WP _ [_, _, .val (.d (.int (0 + (i : Int))))] _
              have e0 : (0 : Int) + (i : Int) = i := by omega
              rw [e0]
              have gm : ms[i]? = some ms[i] := by simp [hi]
              have gf : fs[i]? = some fs[i] := by simp [hi2]
              have hdm : depD ms[i] < n := by
                have h1 := dep_get gm
                simp only [depD] at hd
                omega
              have hmm : smD ms[i] = true := by
                simp [smD] at hm
                exact sm_get hm.2 gm
              refine' wp_if (et_not (et_test (ev_c2 (ev_op (ev_var rfl) (ev_var rfl) (opd_ixT (Pw.atI_nat gf))) (ev_op (ev_var rfl) (ev_var rfl) (opd_ixT (Pw.atI_nat gm))) ⟨hdm, hmm, rfl⟩))) ?ht4 ?hf4
              case ht4 =>
                intro r
                have r : soZ fs[i] ms[i] = false := by simpa using r
                refine' wp_ret ev_bl ?_
                show _ = _
                have e : soZ (.tuple fs) (.tuple ms) = false := by
                  rw [soZ]
                  cases t : soAll fs ms with
                  | false => rfl
                  | true => rw [soAll_get t gf gm] at r; cases r
                rw [e]
              case hf4 =>
                intro r
                have r : soZ fs[i] ms[i] = true := by simpa using r
                refine wp_next ?_
                refine ⟨_, rfl, fun j f m hj h1 h2 => ?_⟩
                rcases Nat.lt_or_eq_of_le (Nat.le_of_lt_succ hj) with hj | hj
                · exact hs j f m hj h1 h2
                · subst hj
                  rw [gf] at h1; rw [gm] at h2
                  cases h1; cases h2; exact r
            case done =>
              rintro _ ⟨s2, rfl, hs⟩
              show WP _ _ _
              refine' wp_ret ev_bl ?_
              show _ = _
              have e : soZ (.tuple fs) (.tuple ms) = true := by
                rw [soZ]
                refine soAll_of q fun i f m h1 h2 => hs i f m ?_ h1 h2
                have : i < fs.length := by
                  rcases Nat.lt_or_ge i fs.length with z | z
                  · exact z
                  · rw [List.getElem?_eq_none z] at h1; cases h1
                simp [rangeD]; omega
              rw [e]
        · have ha : isTup a = false := by simpa using ha
          refine wp_seq ?_
          refine' wp_if (et_or0 (a := true) (b := true) ?e1 (fun z => by cases z)) ?ht5 ?hf5
          case e1 =>
            have := et_not (et_test (ev_isi (K := K) (ρ := [.val (.d a), .val (.d (.tuple ms)), .non]) (ev_var (i := 0) rfl) (kit_tup a)))
            rw [ha] at this
            exact this
          case ht5 =>
            intro _
            refine' wp_ret ev_bl ?_
            show _ = _
            have e : soZ a (.tuple ms) = false := by cases a <;> first | (cases ha; done) | simp [soZ]
            rw [e]
          case hf5 => intro z; cases z
      case hf2 =>
        intro z1
        refine wp_next ?_
        show WP _ _ _
        refine wp_seq ?_
        refine' wp_if (et_or0 (b := isBl a) (et_test (ev_isi (ev_var rfl) (kit_bl b))) (fun _ => et_test (ev_isi (ev_var rfl) (kit_bl a)))) ?ht6 ?hf6
        case ht6 =>
          intro z
          by_cases hb : isBl b = true
          · cases b <;> first | (cases hb; done) | skip
            rename_i m
            by_cases ha : isBl a = true
            · cases a <;> first | (cases ha; done) | skip
              refine' wp_ret (ev_and0 (ev_isi (ev_var rfl) (kit_bl _)) (fun _ => ev_and0 (ev_isi (ev_var rfl) (kit_bl _)) (fun _ => ev_op (ev_var rfl) (ev_var rfl) opd_eq_bl))) ?_
              show _ = _
              simp [soZ, isBl]
            · have ha : isBl a = false := by simpa using ha
              refine' wp_ret (ev_and0 (ev_isi (ev_var rfl) (kit_bl _)) (fun _ => ev_and0 (b := false) (ev_isi (ev_var rfl) (kit_bl _)) (fun q => by rw [ha] at q; cases q))) ?_
              show _ = _
              cases a <;> first | (cases ha; done) | simp [soZ, isBl]
          · have hb : isBl b = false := by simpa using hb
            refine' wp_ret (ev_and0 (b := false) (ev_isi (ev_var rfl) (kit_bl _)) (fun q => by rw [hb] at q; cases q)) ?_
            show _ = _
            have ha : isBl a = true := by simpa [hb] using z
            cases a <;> first | (cases ha; done) | skip
            cases b <;> first | (cases hb; done) | (cases z0; done) | (cases z1; done) | simp [soZ, isBl]
        case hf6 =>
          intro z2
          refine wp_next ?_
          show WP _ _ _
          have hb : isBl b = false := by
            cases r : isBl b with
            | false => rfl
            | true => simp [r] at z2
          have ha : isBl a = false := by
            cases r : isBl a with
            | false => rfl
            | true => simp [r] at z2
          refine wp_seq ?_
          refine' wp_if (et_test (ev_isi (ev_var rfl) (kit_int b))) ?ht7 ?hf7
          case ht7 =>
            intro z3
            cases b <;> first | (cases z3; done) | (cases hb; done) | skip
            by_cases hi : isIntD a = true
            · cases a <;> first | (cases hi; done) | (cases ha; done) | skip
              refine' wp_ret (ev_and0 (ev_isi (ev_var rfl) (kit_int _)) (fun _ => ev_op (ev_var rfl) (ev_var rfl) opd_eq_int)) ?_
              show _ = _
              simp [soZ, isIntD]
            · have hi : isIntD a = false := by simpa using hi
              refine' wp_ret (ev_and0 (b := false) (ev_isi (ev_var rfl) (kit_int _)) (fun q => by rw [hi] at q; cases q)) ?_
              show _ = _
              cases a <;> first | (cases hi; done) | simp [soZ, isIntD]
          case hf7 =>
            intro z3
            refine wp_next ?_
            show WP _ _ _
            by_cases hs : isStrD b = true
            · cases b <;> first | (cases hs; done) | skip
              by_cases hi : isStrD a = true
              · cases a <;> first | (cases hi; done) | skip
                refine' wp_ret (ev_and0 (ev_isi (ev_var rfl) (kit_str _)) (fun _ => ev_and0 (ev_isi (ev_var rfl) (kit_str _)) (fun _ => ev_op (ev_var rfl) (ev_var rfl) opd_eq_str))) ?_
                show _ = _
                simp [soZ, isStrD]
              · have hi : isStrD a = false := by simpa using hi
                refine' wp_ret (ev_and0 (ev_isi (ev_var rfl) (kit_str _)) (fun _ => ev_and0 (b := false) (ev_isi (ev_var rfl) (kit_str _)) (fun q => by rw [hi] at q; cases q))) ?_
                show _ = _
                cases a <;> first | (cases hi; done) | simp [soZ, isStrD]
            · have hs : isStrD b = false := by simpa using hs
              refine' wp_ret (ev_and0 (b := false) (ev_isi (ev_var rfl) (kit_str _)) (fun q => by rw [hs] at q; cases q)) ?_
              show _ = _
              cases b <;> first | (cases hs; done) | (cases z0; done) | (cases z1; done) | (cases hb; done) | (cases z3; done) | simp [soZ, isStrD]
end

end Pv

set_option Elab.async false
set_option linter.all false
set_option maxRecDepth 100000
/-! PwParse5: the law's own reading; a map's text read line by line gives the map. -/
namespace Pv
open PySem L2 Pw TL PySem.NumText
theorem tl_cut_to (z : Str) (b : Nat) : tl (cutS z none (some (b : Int))) = (tl z).take b := by
  unfold cutS
  rw [HT.sIx_nat, HT.sIx_none, len_tl]
  show ((tl z).drop 0).take (min b (tl z).length - 0) = _
  rw [List.drop_zero, Nat.sub_zero]
  by_cases h : b ≤ (tl z).length
  · rw [Nat.min_eq_left h]
  · rw [Nat.min_eq_right (by omega), List.take_length, List.take_of_length_le (by omega)]
theorem tl_cut_from (z : Str) (a : Nat) : tl (cutS z (some (a : Int)) none) = (tl z).drop a := by
  unfold cutS
  rw [HT.sIx_nat, HT.sIx_none, len_tl]
  show ((tl z).drop (min a (tl z).length)).take ((tl z).length - min a (tl z).length) = _
  by_cases h : a ≤ (tl z).length
  · rw [Nat.min_eq_left h, List.take_of_length_le (by rw [List.length_drop]; exact Nat.le_refl _)]
  · rw [Nat.min_eq_right (by omega), List.drop_length, List.drop_of_length_le (l := tl z) (by omega)]
    simp
def negW (w : Str) : Bool := decide ((tl w).take 1 = [45])
theorem bare_neg {w : Str} (h : negW w = true) : bare (tl w) = (tl w).drop 1 := by
  have h : (tl w).take 1 = [45] := of_decide_eq_true h
  cases e : tl w with
  | nil => rw [e] at h; simp at h
  | cons c r =>
    rw [e] at h
    have hc : c = 45 := by simpa using h
    subst hc
    rfl
theorem bare_pos {w : Str} (h : negW w = false) : bare (tl w) = tl w := by
  have h : ¬ (tl w).take 1 = [45] := of_decide_eq_false h
  cases e : tl w with
  | nil => rfl
  | cons c r =>
    rw [e] at h
    have hc : c ≠ 45 := fun q => h (by rw [q]; rfl)
    unfold bare; split
    · rename_i q; injection q with q1 _; exact absurd q1 hc
    · rfl
def intOk (w : Str) : Bool := !(decide (((bare (tl w)).length : Int) = 0) || decide ((12 : Int) < (bare (tl w)).length))
def zeroW (w : Str) : Bool := decide ((bare (tl w)).take 1 = [48]) && (decide ((1 : Int) < (bare (tl w)).length) || negW w)
def intD (w : Str) : PyData := if intOk w = false then .none else if (bare (tl w)).all isDig = false then .none else if zeroW w = true then .none else .int (worthZ (tl w))
def gIntT (a y : PyData) : Prop := ∃ w : Str, a = .str w ∧ w.length ≤ 70000 ∧ y = intD w
theorem nice_int (w : Str) : Nice 0 (intD w) := by
  unfold intD
  split
  · exact Nice.none
  · split
    · exact Nice.none
    · split
      · exact Nice.none
      · exact ⟨rfl, by simp [PyData.depth]⟩
theorem lead (m : Nat) (h : 0 < m) : ((Nat.toDigits 10 m).map Char.toNat).take 1 ≠ [48] := by
  induction m using Nat.strongRecOn with
  | _ m ih =>
    by_cases h10 : m < 10
    · rw [Nat.toDigits_of_lt_base h10]
      have : m = 1 ∨ m = 2 ∨ m = 3 ∨ m = 4 ∨ m = 5 ∨ m = 6 ∨ m = 7 ∨ m = 8 ∨ m = 9 := by omega
      rcases this with rfl | rfl | rfl | rfl | rfl | rfl | rfl | rfl | rfl <;> decide
    · have hm : m % 10 < 10 := Nat.mod_lt m (by decide)
      have t : Nat.toDigits 10 (m / 10) ++ Nat.toDigits 10 (m % 10) = Nat.toDigits 10 (10 * (m / 10) + m % 10) := Nat.toDigits_append_toDigits (by decide) (by omega) hm
      rw [Nat.div_add_mod] at t
      have i := ih (m / 10) (by omega) (by omega)
      rw [← t, List.map_append]
      cases e : (Nat.toDigits 10 (m / 10)).map Char.toNat with
      | nil => exact absurd e (digits_ne _)
      | cons a r =>
        rw [e] at i
        simpa using i
theorem intD_back (n : Int) (h : -1000000000 ≤ n ∧ n ≤ 1000000000) : intD (numS n) = .int n := by
  obtain ⟨h1, h2, h3, h4, _⟩ := numS_facts n ⟨by omega, by omega⟩
  have hp : 0 < (bare (tl (numS n))).length := List.length_pos_iff.mpr h2
  have e1 : intOk (numS n) = true := by
    unfold intOk
    rw [decide_eq_false (by omega), decide_eq_false (by omega)]; rfl
  have e3 : zeroW (numS n) = false := by
    unfold zeroW
    by_cases hn : 0 ≤ n
    · obtain ⟨m, rfl⟩ := Int.eq_ofNat_of_zero_le hn
      have eb : bare (tl (numS (m : Int))) = (Nat.toDigits 10 m).map Char.toNat := by rw [numS_nat]; exact (dig_not45 (digits_all m)).1
      rw [eb]
      by_cases hm : m = 0
      · subst hm
        have : negW (numS ((0 : Nat) : Int)) = false := by unfold negW; rw [numS_nat]; decide
        rw [this]
        decide
      · rw [decide_eq_false (lead m (by omega))]; rfl
    · obtain ⟨m, hm⟩ := Int.eq_ofNat_of_zero_le (a := -n - 1) (by omega)
      have e : n = -((m + 1 : Nat) : Int) := by omega
      have eb : bare (tl (numS n)) = (Nat.toDigits 10 (m + 1)).map Char.toNat := by rw [e, numS_neg]; rfl
      rw [eb, decide_eq_false (lead (m + 1) (by omega))]; rfl
  unfold intD
  rw [if_neg (by rw [e1]; decide), isDig_all.mpr h1, if_neg (by decide), e3, if_neg (by decide), h4]
/-! ### the law's reading of a row -/
def pairs2 (l : List PyData) : List PyData := (List.range (l.length / 2)).map fun k => .tuple [l.getD (2 * k) .none, l.getD (2 * k + 1) .none]
def rowN (ws : List Str) : PyData := .tuple (.str (ws.getD 1 Str.empty) :: (ws.drop 2).map intD)
def rowP (ws : List Str) : PyData := .tuple [.str (ws.getD 1 Str.empty), .str (ws.getD 2 Str.empty), .str (ws.getD 3 Str.empty), .tuple (pairs2 ((ws.drop 4).map intD))]
def isW (s : Str) (n : Int) (ws : List Str) : Bool := decide (ws.getD 0 Str.empty = s) && decide ((ws.length : Int) = n)
def badL (ws : List Str) : Bool := !decide (ws.getD 0 Str.empty = ("line" : Str)) || (decide ((ws.length : Int) < 4) || !decide ((ws.length : Int) / 2 * 2 = ws.length))
def readT (w : W3) (ws : List Str) : Option W3 :=
  if isW ("node" : Str) 4 ws = true then (if (w.b.isEmpty && (w.c.isEmpty && lawB (w.add (rowN ws) 0).d)) = true then some (w.add (rowN ws) 0) else none)
  else if isW ("mark" : Str) 6 ws = true then (if lawB (w.add (rowN ws) 2).d = true then some (w.add (rowN ws) 2) else none)
  else if badL ws = true then none
  else if (w.c.isEmpty && lawB (w.add (rowP ws) 1).d) = true then some (w.add (rowP ws) 1) else none
theorem empty_len (l : List PyData) : decide ((l.length : Int) = 0) = l.isEmpty := by
  cases l with
  | nil => rfl
  | cons a r => exact decide_eq_false (by simp; omega)
def optD : Option W3 → PyData
  | none => .none
  | some w => w.d
def gRead (a b y : PyData) : Prop := ∃ (w : W3) (ws : List Str), a = w.d ∧ b = .list (ws.map PyData.str) ∧ WordsOk ws ∧ (∀ z ∈ ws, tame (.str z) = true) ∧ w.Ok ∧ y = optD (readT w ws)
theorem rowN_nice {ws : List Str} (o : WordsOk ws) (h : ∀ w ∈ ws, tame (.str w) = true) : Nice 3 (rowN ws) := by
  have hl := o.2.1
  refine nice_tup (n := 2) (fun d hd => ?_) (by simp; omega)
  rcases List.mem_cons.mp hd with rfl | hd
  · by_cases g : 1 < ws.length
    · rw [List.getD_eq_getElem?_getD, List.getElem?_eq_getElem g]
      exact (nice_str (h _ (List.getElem_mem g))).mono (by omega)
    · rw [List.getD_eq_getElem?_getD, List.getElem?_eq_none (by omega)]
      exact ⟨by decide +kernel, by simp [PyData.depth]⟩
  · obtain ⟨w, _, rfl⟩ := List.mem_map.mp hd
    exact (nice_int w).mono (by omega)
theorem pairs2_nice {ds : List PyData} (h : ∀ d ∈ ds, Nice 0 d) : ∀ p ∈ pairs2 ds, Nice 1 p := by
  intro p hp
  obtain ⟨k, hk, rfl⟩ := List.mem_map.mp hp
  have hk := List.mem_range.mp hk
  refine nice_tup (fun d hd => ?_) (by simp)
  simp only [List.mem_cons, List.not_mem_nil, or_false] at hd
  rcases hd with rfl | rfl
  · rw [List.getD_eq_getElem?_getD, List.getElem?_eq_getElem (by omega)]; exact h _ (List.getElem_mem _)
  · rw [List.getD_eq_getElem?_getD, List.getElem?_eq_getElem (by omega)]; exact h _ (List.getElem_mem _)
theorem getS_nice {ws : List Str} (h : ∀ w ∈ ws, tame (.str w) = true) (i : Nat) : Nice 0 (.str (ws.getD i Str.empty)) := by
  by_cases g : i < ws.length
  · rw [List.getD_eq_getElem?_getD, List.getElem?_eq_getElem g]
    exact nice_str (h _ (List.getElem_mem g))
  · rw [List.getD_eq_getElem?_getD, List.getElem?_eq_none (by omega)]
    exact ⟨by decide +kernel, by simp [PyData.depth]⟩
theorem rowP_nice {ws : List Str} (o : WordsOk ws) (h : ∀ w ∈ ws, tame (.str w) = true) : Nice 3 (rowP ws) := by
  have hl := o.2.1
  refine nice_tup (n := 2) (fun d hd => ?_) (by simp)
  simp only [List.mem_cons, List.not_mem_nil, or_false] at hd
  rcases hd with rfl | rfl | rfl | rfl
  · exact (getS_nice h 1).mono (by omega)
  · exact (getS_nice h 2).mono (by omega)
  · exact (getS_nice h 3).mono (by omega)
  · refine nice_tup (n := 1) (pairs2_nice fun d hd => ?_) ?_
    · obtain ⟨w, _, rfl⟩ := List.mem_map.mp hd
      exact nice_int w
    · rw [pairs2, List.length_map, List.length_range, List.length_map, List.length_drop]
      omega
theorem law_lens {w : W3} (h : lawB w.d = true) : w.a.length ≤ 16 ∧ w.b.length ≤ 16 ∧ w.c.length ≤ 16 := by
  have h0 := h
  unfold lawB at h0
  simp only [Bool.and_eq_true] at h0
  obtain ⟨_, _, ⟨h1, h2, h3⟩, _⟩ := h0
  have key : ∀ (l : List PyData) (m n : Nat), rowB (.tuple l) m n = true → l.length ≤ m := fun l m n q => by
    have q : (decide ((l.length : Int) ≤ m) && _) = true := q
    have := of_decide_eq_true (Bool.and_eq_true_iff.mp q).1
    omega
  have h1 := key w.a 16 3 h1
  have h2 := key w.b 16 4 h2
  have h3 := key w.c 10 5 h3
  omega
theorem read_ok {w w' : W3} {ws : List Str} (o : w.Ok) (ow : WordsOk ws) (ht : ∀ z ∈ ws, tame (.str z) = true) (h : readT w ws = some w') : w'.Ok := by
  have kN := rowN_nice ow ht
  have kP := rowP_nice ow ht
  have fin : ∀ (d : PyData) (k : Nat), Nice 3 d → lawB (w.add d k).d = true → (w.add d k).Ok := fun d k nd g => by
    obtain ⟨_, _, _, h4, h5, h6⟩ := add_mem o nd k
    obtain ⟨l1, l2, l3⟩ := law_lens g
    exact ⟨l1, l2, l3, h4, h5, h6⟩
  unfold readT at h
  split at h
  · split at h
    · rename_i g
      cases h
      simp only [Bool.and_eq_true] at g
      exact fin _ _ kN g.2.2
    · cases h
  · split at h
    · split at h
      · rename_i g
        cases h
        exact fin _ _ kN g
      · cases h
    · split at h
      · cases h
      · split at h
        · rename_i g
          cases h
          simp only [Bool.and_eq_true] at g
          exact fin _ _ kP g.2
        · cases h
def endD : Nat ⊕ W3 → PyData
  | .inl k => .tuple [.str ("at" : Str), .int (k : Nat)]
  | .inr w => w.d
def gParsed (a y : PyData) : Prop := ∃ t : Str, a = .str t ∧ TextOk t ∧ y = endD (runG readT ((splitS 10 t).map wordsS) 0 ⟨[], [], []⟩)
def gMapText (a y : PyData) : Prop := ∃ m : Mp, m.Ok ∧ Lab m ∧ a = mpD m ∧ y = .str (textS m)
end Pv

set_option Elab.async false
set_option linter.all false
set_option maxRecDepth 100000
set_option maxHeartbeats 4000000
open PySem L2 Pw Hd
namespace Pv

section
variable {P : Program} {w : World} {K : PySem.W.Frag} {mg : Str → Option Value} {base : Heap}
theorem sc__law_integer_of : FnScope [("word" : Str), ("digits" : Str), ("one" : Str)] [("word" : Str)] (defScope s__law_integer_of) := ⟨rfl, rfl, rfl, by decide +kernel, rfl, by decide +kernel, by decide +kernel⟩
theorem c__law_integer_of  (D : Df K mg "_law_integer_of" s__law_integer_of) (T : Bt mg)   : Cal P w K mg base 1 "_law_integer_of" ["word"] (sp1 gIntT) := by
  have sc := sc__law_integer_of
  refine cal_mk (k := 0) D sc (fun vs H Q E s => len1 s) (fun _ _ _ _ _ _ us hl => match us, hl with | [_], _ => rfl) (fun f cdv A outer st H vs Q E hr h => ⟨_, (pss_cons (ps_set (i := 1) sc.nd rfl (Or.inl rfl) (pe_ifExp (pt_cmpR (op_eqK K hr.units) (pe_slice (sl_K K) (pv 0) po_none (po_some pe_int)) pe_str (nomark _)) (pe_slice (sl_K K) (pv 0) (po_some pe_int) po_none) (pv 0)))
    (pss_cons (ps_if ((pw_or (pt_cmpR (op_eqK K hr.units) (pe_callB (call_lenK K) (by rfl) T.b_len (by decide +kernel) (pa_cons (pv 1) pa_nil)) pe_int (nomark _)) (pw_or1 (pt_cmpR op_gt (pe_callB (call_lenK K) (by rfl) T.b_len (by decide +kernel) (pa_cons (pv 1) pa_nil)) pe_int (nomark _))))).pt (pss_one (ps_ret pe_non)) pss_nil)
    (pss_cons (ps_if (pt_cmpR op_gt (pe_callB (call_lenK K) (by rfl) T.b_len (by decide +kernel) (pa_cons (pe_lc (own := [("one", 2)]) rfl sc.nd (pi_LTS K (pv 1)) (blkOk_by (by rfl)) (fun _ _ _ _ _ => (pg_name (i := 2) sc.nd rfl (Or.inl rfl))) (fun _ _ _ _ _ => (pts_one (pt_cmpR (op_notInK K (hu65 hr)) (pv 2) pe_str (by rfl)))) (fun _ _ _ _ _ => (pv 2))) pa_nil)) pe_int (nomark _)) (pss_one (ps_ret pe_non)) pss_nil)
    (pss_cons (ps_if ((pw_and (pt_cmpR (op_eqK K hr.units) (pe_ix (ix_K K) (pv 1) pe_int (fun _ _ => rfl)) pe_str (nomark _)) (pw_and1 ((pw_or (pt_cmpR op_gt (pe_callB (call_lenK K) (by rfl) T.b_len (by decide +kernel) (pa_cons (pv 1) pa_nil)) pe_int (nomark _)) (pw_or1 (pt_cmpR (op_eqK K hr.units) (pe_slice (sl_K K) (pv 0) po_none (po_some pe_int)) pe_str (nomark _))))).pt))).pt (pss_one (ps_ret pe_non)) pss_nil)
    (pss_one (ps_ret (pe_callTy call_intS (by rfl) T.b_int (by decide +kernel) (pa_cons (pv 0) pa_nil)))))))), wp1 h ?_⟩)
  rintro _ _ ⟨w, rfl, hw, rfl⟩
  have hsz : w.length ≤ sizeLine := by rw [PySem.sizeLine_eq]; omega
  have t1 := ev_op (ev_slS (K := K) (ρ := [.val (.d (.str w)), .non, .non]) hsz (ev_var (i := 0) rfl) eo_none (eo_some (ev_int (i := 1)))) (ev_str (s := "-")) (opd_eq_str (K := K))
  have en : decide (cutS w none (some 1) = ("-" : Str)) = negW w := by
    unfold negW
    apply decide_eq_decide.mpr
    have e := tl_cut_to w 1
    rw [show ((1 : Nat) : Int) = 1 from rfl] at e
    have em : TL.tl ("-" : Str) = [45] := by decide +kernel
    constructor
    · intro h; rw [← e, h, em]
    · intro h; exact TL.ext_tl (by rw [e, h, em])
  rw [en] at t1
  have hlb : (bare (TL.tl w)).length ≤ w.length := by
    rw [TL.len_tl]
    unfold bare
    split
    · rename_i e; rw [e]; simp
    · exact Nat.le_refl _
  obtain ⟨g, eg, ge⟩ : ∃ g : Str, TL.tl g = bare (TL.tl w) ∧ EV (tIf (tTest (tOp (rEqU K) (tSl (rSlU K) (tVar 0) tNoPart (tPart (tC (.int 1)))) (tC (.str "-")))) (tSl (rSlU K) (tVar 0) (tPart (tC (.int 1))) tNoPart) (tVar 0)) [.val (.d (.str w)), .non, .non] (.d (.str g)) [.val (.d (.str w)), .non, .non] := by
    cases hn : negW w with
    | true =>
      rw [hn] at t1
      exact ⟨_, by rw [bare_neg hn]; exact tl_cut_from w 1, ev_if (et_test t1) (fun _ => ev_slS hsz (ev_var rfl) (eo_some ev_int) eo_none) (fun z => by cases z)⟩
    | false =>
      rw [hn] at t1
      exact ⟨w, (bare_pos hn).symm, ev_if (et_test t1) (fun z => by cases z) (fun _ => ev_var rfl)⟩
  have lg : g.length = (bare (TL.tl w)).length := by rw [TL.len_tl, eg]
  have gsz : g.length ≤ sizeLine := by omega
  refine wp_seq ?_
  refine' wp_asg ge ?_
  show WP _ [.val (.d (.str w)), .val (.d (.str g)), .non] _
  unfold intD
  refine wp_seq ?_
  refine' wp_if (b := decide (((bare (TL.tl w)).length : Int) = 0) || decide ((12 : Int) < (bare (TL.tl w)).length)) (et_or0 ?c1 (fun _ => ?c2)) (fun q => ?_) (fun q => wp_next ?_)
  case c1 =>
    rw [← lg]
    exact et_test (ev_op (ev_cb1 (ev_var rfl) (cd_lenS gsz)) ev_int opd_eq_int)
  case c2 =>
    rw [← lg]
    exact et_b (ev_op (ev_cb1 (ev_var rfl) (cd_lenS gsz)) ev_int opd_gt)
  · rw [if_pos (by unfold intOk; rw [q]; rfl)]
    exact wp_ret ev_non rfl
  have e1 : intOk w = true := by unfold intOk; rw [q]; rfl
  rw [if_neg (by rw [e1]; decide)]
  simp only [Bool.or_eq_false_iff, decide_eq_false_iff_not] at q
  show WP _ [.val (.d (.str w)), .val (.d (.str g)), .non] _
  refine wp_seq ?_
  have lc := eo_lc0 (ρ := [.val (.d (.str w)), .val (.d (.str g)), .non]) (ρ1 := [.val (.d (.str w)), .val (.d (.str g)), .non]) (wi := iOr (iOr (iList K (tVar 1)) (iTup K (tVar 1))) (iStr (tVar 1))) (g := L2.gName 2) (tt := tTest (tOp (rNotInU K) (tVar 2) (tC (.str "0123456789")))) (te := tVar 2) (vs := [2]) g.cps.toList (fun c => .d (.str ⟨#[c]⟩)) (fun c => !decide (c ∈ digitL)) (fun c => .str ⟨#[c]⟩) (fun c => [.d (.str ⟨#[c]⟩)]) (EI.c (ei_or2 (ei_str (ev_var (i := 1) rfl)))) (is := [2]) (fun j h => h) (fun j hj l c h => by simp only [List.mem_cons, List.not_mem_nil, or_false] at hj; subst hj; cases h) (by rw [PySem.sizeLine_eq]; show (TL.tl g).length < _; rw [eg]; omega) (fun c _ => ⟨gt_name, et_test (ev_op (ev_var (i := 2) rfl) (ev_str (s := "0123456789")) (opd_notSign (K := K))), fun _ => ev_var (i := 2) rfl⟩)
  have lcn : decide ((0 : Int) < ((g.cps.toList.filter fun c => !decide (c ∈ digitL)).map fun c => PyData.str ⟨#[c]⟩).length) = !(bare (TL.tl w)).all isDig := by
    have e : (g.cps.toList.filter fun c => !decide (c ∈ digitL)) = (bare (TL.tl w)).filter fun c => !isDig c := by
      show (TL.tl g).filter _ = _
      rw [eg]
      congr 1
      funext c
      rw [digit_mem]
    rw [e, List.length_map]
    cases h : (bare (TL.tl w)).all isDig with
    | true =>
      have : ((bare (TL.tl w)).filter fun c => !isDig c) = [] := List.filter_eq_nil_iff.mpr fun c hc => by
        have := List.all_eq_true.mp h c hc
        rw [this]; decide
      rw [this]; rfl
    | false =>
      have : ((bare (TL.tl w)).filter fun c => !isDig c) ≠ [] := fun z => by
        have : (bare (TL.tl w)).all isDig = true := List.all_eq_true.mpr fun c hc => by
          have := List.filter_eq_nil_iff.mp z c hc
          simpa using this
        rw [this] at h; cases h
      have := List.length_pos_iff.mpr this
      exact decide_eq_true (by omega)
  refine' wp_if (b := !(bare (TL.tl w)).all isDig) ?c3 (fun z => ?_) (fun z => wp_next ?_)
  case c3 =>
    rw [← lcn]
    exact et_test (ev_op (ev_cb1 lc.vl cd_lenL) ev_int opd_gt)
  · rw [if_pos (by simpa using z)]
    exact wp_ret ev_non rfl
  have z : (bare (TL.tl w)).all isDig = true := by simpa using z
  rw [if_neg (by rw [z]; decide)]
  have ad := isDig_all.mp z
  show WP _ [.val (.d (.str w)), .val (.d (.str g)), .non] _
  have ne : bare (TL.tl w) ≠ [] := fun e => q.1 (by rw [e]; rfl)
  obtain ⟨c0, r0, eb⟩ : ∃ c r, bare (TL.tl w) = c :: r := by
    cases e : bare (TL.tl w) with
    | nil => exact absurd e ne
    | cons c r => exact ⟨c, r, rfl⟩
  have ix := ev_op (ev_op (ρ := [.val (.d (.str w)), .val (.d (.str g)), .non]) (ev_var (i := 1) rfl) (ev_int (i := 0)) (opd_ixS (K := K) (z := g) (c := c0) gsz (Pw.atI_nat (i := 0) (by show (TL.tl g)[0]? = _; rw [eg, eb]; rfl)))) (ev_str (s := "0")) (opd_eq_str (K := K))
  have ex : decide ((⟨#[c0]⟩ : Str) = ("0" : Str)) = decide ((bare (TL.tl w)).take 1 = [48]) := by
    apply decide_eq_decide.mpr
    have em : TL.tl ("0" : Str) = [48] := by decide +kernel
    have e0 : TL.tl (⟨#[c0]⟩ : Str) = [c0] := rfl
    rw [eb]
    constructor
    · intro h
      have := congrArg TL.tl h
      rw [em, e0] at this
      simpa using this
    · intro h
      refine TL.ext_tl ?_
      rw [em, e0]
      simpa using h
  rw [ex] at ix
  have t2 := ev_op (ev_slS (K := K) (ρ := [.val (.d (.str w)), .val (.d (.str g)), .non]) hsz (ev_var (i := 0) rfl) eo_none (eo_some (ev_int (i := 1)))) (ev_str (s := "-")) (opd_eq_str (K := K))
  rw [en] at t2
  refine wp_seq ?_
  refine' wp_if (b := zeroW w) (et_and0 (et_test ix) (fun _ => et_or0 ?c4 (fun _ => et_test t2))) (fun z => ?_) (fun z => wp_next ?_)
  case c4 =>
    rw [← lg]
    exact et_b (ev_op (ev_cb1 (ev_var rfl) (cd_lenS gsz)) ev_int opd_gt)
  · rw [if_pos z]
    exact wp_ret ev_non rfl
  rw [if_neg (by rw [z]; decide)]
  show WP _ [.val (.d (.str w)), .val (.d (.str g)), .non] _
  have w13 : w.length ≤ 13 := by
    rw [TL.len_tl]
    have : (TL.tl w).length ≤ (bare (TL.tl w)).length + 1 := by
      unfold bare
      split
      · rename_i e; rw [e]; simp
      · exact Nat.le_succ _
    omega
  exact wp_ret (ev_cb1 (ev_var rfl) (cd_intS (int_reads ad ne (by omega)) (by omega))) rfl
end

end Pv

set_option Elab.async false
set_option linter.all false
set_option maxRecDepth 100000
set_option maxHeartbeats 4000000
open PySem L2 Pw Hd
namespace Pv

section
variable {P : Program} {w : World} {K : PySem.W.Frag} {mg : Str → Option Value} {base : Heap}
theorem sc__law_read_line : FnScope [("world" : Str), ("words" : Str), ("nodes" : Str), ("lines" : Str), ("marks" : Str), ("numbers" : Str), ("made" : Str), ("corners" : Str), ("word" : Str), ("k" : Str)] [("world" : Str), ("words" : Str)] (defScope s__law_read_line) := ⟨rfl, rfl, rfl, by decide +kernel, rfl, by decide +kernel, by decide +kernel⟩
theorem c__law_read_line  (D : Df K mg "_law_read_line" s__law_read_line) (T : Bt mg)  (c__law_is_map : Cal P w K mg base 3 "_law_is_map" ["value"] (sp1 gLMap)) (c__law_integer_of : Cal P w K mg base 1 "_law_integer_of" ["word"] (sp1 gIntT)) : Cal P w K mg base 4 "_law_read_line" ["world", "words"] (sp2 gRead) := by
  have sc := sc__law_read_line
  refine cal_mk (k := 3) D sc (fun vs H Q E s => len2 s) (fun _ _ _ _ _ _ us hl => match us, hl with | [_, _], _ => rfl) (fun f cdv A outer st H vs Q E hr h => ⟨_, (pss_cons (ps_asg (pv 0) (pg_TL (n := 3) K rfl (pgs_cons (pg_name (i := 2) sc.nd rfl (Or.inl rfl)) (pgs_cons (pg_name (i := 3) sc.nd rfl (Or.inl rfl)) (pgs_cons (pg_name (i := 4) sc.nd rfl (Or.inl rfl)) pgs_nil)))))
    (pss_cons (ps_if ((pw_and (pt_cmpR (op_eqK K hr.units) (pe_ix (ix_K K) (pv 1) pe_int (fun _ _ => rfl)) pe_str (nomark _)) (pw_and1 (pt_cmpR (op_eqK K hr.units) (pe_callB (call_lenK K) (by rfl) T.b_len (by decide +kernel) (pa_cons (pv 1) pa_nil)) pe_int (nomark _))))).pt (pss_cons (ps_set (i := 5) sc.nd rfl (Or.inr rfl) (pe_lc (own := [("word", 8)]) rfl sc.nd (pi_LT K (pe_slice (sl_K K) (pv 1) (po_some pe_int) po_none)) (blkOk_by (by rfl)) (fun _ _ _ _ _ => (pg_name (i := 8) sc.nd rfl (Or.inl rfl))) (fun _ _ _ _ _ => pts_nil) (fun _ _ _ _ _ => (pe_cal c__law_integer_of hr (by decide) (by rfl) (pa_cons (pv 8) pa_nil)))))
    (pss_cons (ps_set (i := 6) sc.nd rfl (Or.inl rfl) (pe_tup (pa_cons (pe_op (op_plusK K) (pv 2) (pe_tup (pa_cons (pe_op (op_plusK K) (pe_tup (pa_cons (pe_ix (ix_K K) (pv 1) pe_int (fun _ _ => rfl)) pa_nil)) (pe_callTy (call_tupK K) (by rfl) T.b_tuple (by decide +kernel) (pa_cons (pv 5) pa_nil))) pa_nil))) (pa_cons (pv 3) (pa_cons (pv 4) pa_nil)))))
    (pss_one (ps_ret (pe_ifExp ((pw_and (pt_cmpR (op_eqK K hr.units) (pe_callB (call_lenK K) (by rfl) T.b_len (by decide +kernel) (pa_cons (pv 3) pa_nil)) pe_int (nomark _)) (pw_and (pt_cmpR (op_eqK K hr.units) (pe_callB (call_lenK K) (by rfl) T.b_len (by decide +kernel) (pa_cons (pv 4) pa_nil)) pe_int (nomark _)) (pw_and1 (pt_val (pe_cal c__law_is_map hr (by decide) (by rfl) (pa_cons (pv 6) pa_nil))))))).pt (pv 6) pe_non))))) pss_nil)
    (pss_cons (ps_if ((pw_and (pt_cmpR (op_eqK K hr.units) (pe_ix (ix_K K) (pv 1) pe_int (fun _ _ => rfl)) pe_str (nomark _)) (pw_and1 (pt_cmpR (op_eqK K hr.units) (pe_callB (call_lenK K) (by rfl) T.b_len (by decide +kernel) (pa_cons (pv 1) pa_nil)) pe_int (nomark _))))).pt (pss_cons (ps_set (i := 5) sc.nd rfl (Or.inr rfl) (pe_lc (own := [("word", 8)]) rfl sc.nd (pi_LT K (pe_slice (sl_K K) (pv 1) (po_some pe_int) po_none)) (blkOk_by (by rfl)) (fun _ _ _ _ _ => (pg_name (i := 8) sc.nd rfl (Or.inl rfl))) (fun _ _ _ _ _ => pts_nil) (fun _ _ _ _ _ => (pe_cal c__law_integer_of hr (by decide) (by rfl) (pa_cons (pv 8) pa_nil)))))
    (pss_cons (ps_set (i := 6) sc.nd rfl (Or.inl rfl) (pe_tup (pa_cons (pv 2) (pa_cons (pv 3) (pa_cons (pe_op (op_plusK K) (pv 4) (pe_tup (pa_cons (pe_op (op_plusK K) (pe_tup (pa_cons (pe_ix (ix_K K) (pv 1) pe_int (fun _ _ => rfl)) pa_nil)) (pe_callTy (call_tupK K) (by rfl) T.b_tuple (by decide +kernel) (pa_cons (pv 5) pa_nil))) pa_nil))) pa_nil)))))
    (pss_one (ps_ret (pe_ifExp (pt_val (pe_cal c__law_is_map hr (by decide) (by rfl) (pa_cons (pv 6) pa_nil))) (pv 6) pe_non))))) pss_nil)
    (pss_cons (ps_if ((pw_or (pt_cmpR (op_neK K hr.units) (pe_ix (ix_K K) (pv 1) pe_int (fun _ _ => rfl)) pe_str (nomark _)) (pw_or (pt_cmpR op_lt (pe_callB (call_lenK K) (by rfl) T.b_len (by decide +kernel) (pa_cons (pv 1) pa_nil)) pe_int (nomark _)) (pw_or1 (pt_cmpR (op_neK K hr.units) (pe_op op_mul (pe_op op_fdiv (pe_callB (call_lenK K) (by rfl) T.b_len (by decide +kernel) (pa_cons (pv 1) pa_nil)) pe_int) pe_int) (pe_callB (call_lenK K) (by rfl) T.b_len (by decide +kernel) (pa_cons (pv 1) pa_nil)) (nomark _)))))).pt (pss_one (ps_ret pe_non)) pss_nil)
    (pss_cons (ps_set (i := 5) sc.nd rfl (Or.inr rfl) (pe_lc (own := [("word", 8)]) rfl sc.nd (pi_LT K (pe_slice (sl_K K) (pv 1) (po_some pe_int) po_none)) (blkOk_by (by rfl)) (fun _ _ _ _ _ => (pg_name (i := 8) sc.nd rfl (Or.inl rfl))) (fun _ _ _ _ _ => pts_nil) (fun _ _ _ _ _ => (pe_cal c__law_integer_of hr (by decide) (by rfl) (pa_cons (pv 8) pa_nil)))))
    (pss_cons (ps_set (i := 7) sc.nd rfl (Or.inl rfl) (pe_callTy (call_tupK K) (by rfl) T.b_tuple (by decide +kernel) (pa_cons (pe_lc (own := [("k", 9)]) rfl sc.nd (pi_range1 (by rfl) T.b_range (pa_cons (pe_op op_fdiv (pe_callB (call_lenK K) (by rfl) T.b_len (by decide +kernel) (pa_cons (pv 5) pa_nil)) pe_int) pa_nil)) (blkOk_by (by rfl)) (fun _ _ _ _ _ => (pg_name (i := 9) sc.nd rfl (Or.inl rfl))) (fun _ _ _ _ _ => pts_nil) (fun _ _ _ _ _ => (pe_tup (pa_cons (pe_ix (ix_K K) (pv 5) (pe_op op_mul pe_int (pv 9)) (fun _ _ => rfl)) (pa_cons (pe_ix (ix_K K) (pv 5) (pe_op (op_plusK K) (pe_op op_mul pe_int (pv 9)) pe_int) (fun _ _ => rfl)) pa_nil))))) pa_nil)))
    (pss_cons (ps_set (i := 6) sc.nd rfl (Or.inl rfl) (pe_tup (pa_cons (pv 2) (pa_cons (pe_op (op_plusK K) (pv 3) (pe_tup (pa_cons (pe_tup (pa_cons (pe_ix (ix_K K) (pv 1) pe_int (fun _ _ => rfl)) (pa_cons (pe_ix (ix_K K) (pv 1) pe_int (fun _ _ => rfl)) (pa_cons (pe_ix (ix_K K) (pv 1) pe_int (fun _ _ => rfl)) (pa_cons (pv 7) pa_nil))))) pa_nil))) (pa_cons (pv 4) pa_nil)))))
    (pss_one (ps_ret (pe_ifExp ((pw_and (pt_cmpR (op_eqK K hr.units) (pe_callB (call_lenK K) (by rfl) T.b_len (by decide +kernel) (pa_cons (pv 4) pa_nil)) pe_int (nomark _)) (pw_and1 (pt_val (pe_cal c__law_is_map hr (by decide) (by rfl) (pa_cons (pv 6) pa_nil)))))).pt (pv 6) pe_non)))))))))), wp2 h ?_⟩)
  rintro _ _ _ ⟨w, ws, rfl, rfl, ok, ht, ow, rfl⟩
  have hlen := ok.2.1
  have hne := ok.1
  have sz : ∀ n : Nat, n ≤ 90000 → n < sizeLine := fun n h => by rw [PySem.sizeLine_eq]; omega
  have la := ow.la
  have lb := ow.lb
  have lc := ow.lc
  have nN := rowN_nice ok ht
  have nP := rowP_nice ok ht
  obtain ⟨w0, r, hws⟩ : ∃ w0 r, ws = w0 :: r := by
    cases ws with
    | nil => exact absurd rfl hne
    | cons a b => exact ⟨a, b, rfl⟩
  have g0 : ws.getD 0 Str.empty = w0 := by rw [hws]; rfl
  have at0 : atI (ws.map PyData.str) 0 = some (.str w0) := by rw [hws]; exact Pw.atI_nat (i := 0) rfl
  have atk : ∀ k : Nat, k < ws.length → atI (ws.map PyData.str) (k : Int) = some (.str (ws.getD k Str.empty)) := fun k hk => Pw.atI_nat (by
    rw [List.getElem?_map, List.getElem?_eq_getElem hk, List.getD_eq_getElem?_getD, List.getElem?_eq_getElem hk]; rfl)
  have nums : ∀ (k : Nat) (ρ : List Slot), ρ.length = 10 → ρ[1]? = some (.val (.d (.list (ws.map PyData.str)))) → (∀ l c, ρ[8]? ≠ some (.own l c)) →
      EV (tLc (iOr (iList K (tSl (rSlU K) (tVar 1) (tPart (tC (.int (k : Int)))) tNoPart)) (iTup K (tSl (rSlU K) (tVar 1) (tPart (tC (.int (k : Int)))) tNoPart))) (L2.gName 8) tYes (tCall (sp1 gIntT) [] E (tCons (tVar 8) tNil)) [8]) ρ (.d (.list ((ws.drop k).map intD))) ρ := by
    intro k ρ hl h1 hno
    have s2 := eo_slL (K := K) (ρ := ρ) (ev_var (i := 1) h1) (eo_some (ev_int (i := (k : Int)))) eo_none
    rw [cut_nat0, ← List.map_drop] at s2
    have src := ei_or1 (b := iTup K (tSl (rSlU K) (tVar 1) (tPart (tC (.int (k : Int)))) tNoPart)) (ei_list (K := K) s2.vl)
    rw [List.map_map] at src
    refine EO.vl (eo_lc1 (vs := [8]) (ws.drop k) (fun w => .d (.str w)) intD (fun w => [.d (.str w)]) (EI.c src) (is := [8]) (fun j h => h) (fun j hj l c => ?_) (sz _ (by rw [List.length_drop]; omega)) (fun w hm => ⟨gt_name, ev_c1 (ev_var (i := 8) ?_) ⟨w, rfl, ok.2.2 w (List.mem_of_mem_drop hm), rfl⟩⟩))
    · simp only [List.mem_cons, List.not_mem_nil, or_false] at hj; subst hj; exact hno l c
    · match ρ, hl with
      | [_, _, _, _, _, _, _, _, _, _], _ => rfl
  refine wp_seq ?_
  refine' wp_asgG (ev_var rfl) (gt_or1 (gt_tup (ds := [.tuple w.a, .tuple w.b, .tuple w.c]) (gts_cons gt_name (gts_cons gt_name (gts_cons gt_name gts_nil))) rfl)) ?_
  show WP _ [.val (.d w.d), .val (.d (.list (ws.map PyData.str))), .val (.d (.tuple w.a)), .val (.d (.tuple w.b)), .val (.d (.tuple w.c)), .non, .non, .non, .non, .non] _
  have isw : ∀ (s : Str) (n : Int), ET (tAnd (tTest (tOp (rEqU K) (tOp (rIx K) (tVar 1) (tC (.int 0))) (tC (.str s)))) (tTest (tOp (rEqU K) (tCB (Pw.rLen K) (tCons (tVar 1) tNil)) (tC (.int n))))) [.val (.d w.d), .val (.d (.list (ws.map PyData.str))), .val (.d (.tuple w.a)), .val (.d (.tuple w.b)), .val (.d (.tuple w.c)), .non, .non, .non, .non, .non] (isW s n ws) [.val (.d w.d), .val (.d (.list (ws.map PyData.str))), .val (.d (.tuple w.a)), .val (.d (.tuple w.b)), .val (.d (.tuple w.c)), .non, .non, .non, .non, .non] := fun s n => by
    have z := et_and0 (ρ := [.val (.d w.d), .val (.d (.list (ws.map PyData.str))), .val (.d (.tuple w.a)), .val (.d (.tuple w.b)), .val (.d (.tuple w.c)), .non, .non, .non, .non, .non]) (et_test (ev_op (ev_op (ev_var (i := 1) rfl) (ev_int (i := 0)) (opd_ixL (K := K) at0)) (ev_str (s := s)) (opd_eq_str (K := K)))) (fun _ => et_test (ev_op (ev_cb1 (ev_var (i := 1) rfl) (cd_lenL (K := K))) (ev_int (i := n)) (opd_eq_int (K := K))))
    rw [List.length_map] at z
    unfold isW
    rw [g0]
    exact z
  unfold readT
  refine wp_seq ?_
  refine' wp_if (isw "node" 4) (fun q => ?node) (fun q => wp_next ?_)
  case node =>
    rw [if_pos q]
    have q2 := q
    unfold isW at q2
    have l4 : ws.length = 4 := by have := of_decide_eq_true (Bool.and_eq_true_iff.mp q2).2; omega
    refine wp_seq ?_
    refine' wp_asg (nums 2 _ rfl rfl (fun l c h => by cases h)) ?_
    show WP _ [.val (.d w.d), .val (.d (.list (ws.map PyData.str))), .val (.d (.tuple w.a)), .val (.d (.tuple w.b)), .val (.d (.tuple w.c)), .val (.d (.list ((ws.drop 2).map intD))), .non, .non, .non, .non] _
    refine wp_seq ?_
    refine' wp_asg (x := .d (w.add (rowN ws) 0).d) (ev_tup (ds := [.tuple (w.a ++ [rowN ws]), .tuple w.b, .tuple w.c]) (ea_cons (ev_op (ev_var rfl) (ev_tup (ds := [rowN ws]) (ea_cons (ev_op (ev_tup (ds := [.str (ws.getD 1 Str.empty)]) (ea_cons (ev_op (ev_var rfl) ev_int (opd_ixL (atk 1 (by omega)))) ea_nil) (show 1 ≤ sizeLine by decide)) (ev_cw (EV.wl (ev_var rfl)) (cw_tuple (K := K))) (opd_cat_tup (by rw [PySem.sizeLine_eq]; simp; omega))) ea_nil) (show 1 ≤ sizeLine by decide)) (opd_cat_tup (by rw [PySem.sizeLine_eq]; simp; omega))) (ea_cons (ev_var rfl) (ea_cons (ev_var rfl) ea_nil))) (show 3 ≤ sizeLine by decide)) ?_
    show WP _ [.val (.d w.d), .val (.d (.list (ws.map PyData.str))), .val (.d (.tuple w.a)), .val (.d (.tuple w.b)), .val (.d (.tuple w.c)), .val (.d (.list ((ws.drop 2).map intD))), .val (.d (w.add (rowN ws) 0).d), .non, .non, .non] _
    obtain ⟨h1, h2, h3, h4, h5, h6⟩ := add_mem ow nN 0
    have nz := W3.nice h1 h2 h3 h4 h5 h6
    have t := et_and0 (ρ := [.val (.d w.d), .val (.d (.list (ws.map PyData.str))), .val (.d (.tuple w.a)), .val (.d (.tuple w.b)), .val (.d (.tuple w.c)), .val (.d (.list ((ws.drop 2).map intD))), .val (.d (w.add (rowN ws) 0).d), .non, .non, .non]) (et_test (ev_op (ev_cb1 (ev_var (i := 3) rfl) (cd_lenT (K := K))) (ev_int (i := 0)) (opd_eq_int (K := K)))) (fun _ => et_and0 (et_test (ev_op (ev_cb1 (ev_var (i := 4) rfl) (cd_lenT (K := K))) (ev_int (i := 0)) (opd_eq_int (K := K)))) (fun _ => et_test (ev_c1 (E := E) (f := gLMap) (ev_var (i := 6) rfl) ⟨nz, rfl⟩)))
    rw [empty_len, empty_len] at t
    by_cases z : (w.b.isEmpty && (w.c.isEmpty && lawB (w.add (rowN ws) 0).d)) = true
    · rw [if_pos z]; rw [z] at t
      exact wp_ret (ev_if t (fun _ => ev_var rfl) (fun z => by cases z)) rfl
    · rw [if_neg z]; rw [show (w.b.isEmpty && (w.c.isEmpty && lawB (w.add (rowN ws) 0).d)) = false by simpa using z] at t
      exact wp_ret (ev_if t (fun z => by cases z) (fun _ => ev_non)) rfl
  rw [if_neg (by rw [q]; decide)]
  show WP _ [.val (.d w.d), .val (.d (.list (ws.map PyData.str))), .val (.d (.tuple w.a)), .val (.d (.tuple w.b)), .val (.d (.tuple w.c)), .non, .non, .non, .non, .non] _
  refine wp_seq ?_
  refine' wp_if (isw "mark" 6) (fun q => ?mark) (fun q => wp_next ?_)
  case mark =>
    rw [if_pos q]
    have q2 := q
    unfold isW at q2
    have l6 : ws.length = 6 := by have := of_decide_eq_true (Bool.and_eq_true_iff.mp q2).2; omega
    refine wp_seq ?_
    refine' wp_asg (nums 2 _ rfl rfl (fun l c h => by cases h)) ?_
    show WP _ [.val (.d w.d), .val (.d (.list (ws.map PyData.str))), .val (.d (.tuple w.a)), .val (.d (.tuple w.b)), .val (.d (.tuple w.c)), .val (.d (.list ((ws.drop 2).map intD))), .non, .non, .non, .non] _
    refine wp_seq ?_
    refine' wp_asg (x := .d (w.add (rowN ws) 2).d) (ev_tup (ds := [.tuple w.a, .tuple w.b, .tuple (w.c ++ [rowN ws])]) (ea_cons (ev_var rfl) (ea_cons (ev_var rfl) (ea_cons (ev_op (ev_var rfl) (ev_tup (ds := [rowN ws]) (ea_cons (ev_op (ev_tup (ds := [.str (ws.getD 1 Str.empty)]) (ea_cons (ev_op (ev_var rfl) ev_int (opd_ixL (atk 1 (by omega)))) ea_nil) (show 1 ≤ sizeLine by decide)) (ev_cw (EV.wl (ev_var rfl)) (cw_tuple (K := K))) (opd_cat_tup (by rw [PySem.sizeLine_eq]; simp; omega))) ea_nil) (show 1 ≤ sizeLine by decide)) (opd_cat_tup (by rw [PySem.sizeLine_eq]; simp; omega))) ea_nil))) (show 3 ≤ sizeLine by decide)) ?_
    show WP _ [.val (.d w.d), .val (.d (.list (ws.map PyData.str))), .val (.d (.tuple w.a)), .val (.d (.tuple w.b)), .val (.d (.tuple w.c)), .val (.d (.list ((ws.drop 2).map intD))), .val (.d (w.add (rowN ws) 2).d), .non, .non, .non] _
    obtain ⟨h1, h2, h3, h4, h5, h6⟩ := add_mem ow nN 2
    have nz := W3.nice h1 h2 h3 h4 h5 h6
    have t := et_test (ρ := [.val (.d w.d), .val (.d (.list (ws.map PyData.str))), .val (.d (.tuple w.a)), .val (.d (.tuple w.b)), .val (.d (.tuple w.c)), .val (.d (.list ((ws.drop 2).map intD))), .val (.d (w.add (rowN ws) 2).d), .non, .non, .non]) (ev_c1 (E := E) (f := gLMap) (ev_var (i := 6) rfl) ⟨nz, rfl⟩)
    by_cases z : lawB (w.add (rowN ws) 2).d = true
    · rw [if_pos z]; rw [z] at t
      exact wp_ret (ev_if t (fun _ => ev_var rfl) (fun z => by cases z)) rfl
    · rw [if_neg z]; rw [show lawB (w.add (rowN ws) 2).d = false by simpa using z] at t
      exact wp_ret (ev_if t (fun z => by cases z) (fun _ => ev_non)) rfl
  rw [if_neg (by rw [q]; decide)]
  show WP _ [.val (.d w.d), .val (.d (.list (ws.map PyData.str))), .val (.d (.tuple w.a)), .val (.d (.tuple w.b)), .val (.d (.tuple w.c)), .non, .non, .non, .non, .non] _
  refine wp_seq ?_
  refine' wp_if (b := badL ws) ?badt (fun q => ?_) (fun q => wp_next ?_)
  case badt =>
    unfold badL
    rw [g0]
    refine' et_or0 (et_test (ev_op (ev_op (ev_var rfl) ev_int (opd_ixL at0)) ev_str opd_ne_str)) (fun _ => et_or0 ?b1 (fun _ => ?b2))
    case b1 =>
      have z := et_b (ρ := [.val (.d w.d), .val (.d (.list (ws.map PyData.str))), .val (.d (.tuple w.a)), .val (.d (.tuple w.b)), .val (.d (.tuple w.c)), .non, .non, .non, .non, .non]) (ev_op (ev_cb1 (ev_var (i := 1) rfl) (cd_lenL (K := K))) (ev_int (i := 4)) opd_lt)
      rw [List.length_map] at z
      exact z
    case b2 =>
      have z := et_test (ρ := [.val (.d w.d), .val (.d (.list (ws.map PyData.str))), .val (.d (.tuple w.a)), .val (.d (.tuple w.b)), .val (.d (.tuple w.c)), .non, .non, .non, .non, .non]) (ev_op (ev_op (ev_op (ev_cb1 (ev_var (i := 1) rfl) (cd_lenL (K := K) (ds := ws.map PyData.str))) (ev_int (i := 2)) (opd_fdiv ?d1)) (ev_int (i := 2)) (opd_mul ?d2)) (ev_cb1 (ev_var (i := 1) rfl) (cd_lenL (K := K))) (opd_ne_int (K := K)))
      case d1 => exact ⟨by decide, by decide⟩
      case d2 => exact .inl ⟨by rw [List.length_map]; omega, by rw [List.length_map]; omega⟩
      rw [List.length_map] at z
      exact z
  · rw [if_pos q]
    exact wp_ret ev_non rfl
  rw [if_neg (by rw [q]; decide)]
  have q2 := q
  unfold badL at q2
  simp only [Bool.or_eq_false_iff, decide_eq_false_iff_not, Bool.not_eq_false', decide_eq_true_eq] at q2
  obtain ⟨_, l4, ev⟩ := q2
  show WP _ [.val (.d w.d), .val (.d (.list (ws.map PyData.str))), .val (.d (.tuple w.a)), .val (.d (.tuple w.b)), .val (.d (.tuple w.c)), .non, .non, .non, .non, .non] _
  refine wp_seq ?_
  refine' wp_asg (nums 4 _ rfl rfl (fun l c h => by cases h)) ?_
  have nl : ((ws.drop 4).map intD).length ≤ 70000 := by rw [List.length_map, List.length_drop]; omega
  have eP : rowP ws = .tuple [.str (ws.getD 1 Str.empty), .str (ws.getD 2 Str.empty), .str (ws.getD 3 Str.empty), .tuple (pairs2 ((ws.drop 4).map intD))] := rfl
  generalize (ws.drop 4).map intD = N at nl eP
  show WP _ [.val (.d w.d), .val (.d (.list (ws.map PyData.str))), .val (.d (.tuple w.a)), .val (.d (.tuple w.b)), .val (.d (.tuple w.c)), .val (.d (.list N)), .non, .non, .non, .non] _
  refine wp_seq ?_
  refine' wp_asg (x := .d (.tuple (pairs2 N))) (ev_tupOf ?cs) ?_
  case cs =>
    have src := ei_range1 (ρ := [.val (.d w.d), .val (.d (.list (ws.map PyData.str))), .val (.d (.tuple w.a)), .val (.d (.tuple w.b)), .val (.d (.tuple w.c)), .val (.d (.list N)), .non, .non, .non, .non]) (j := ((N.length / 2 : Nat) : Int)) (ea_cons (by
      have z := ev_op (ρ := [.val (.d w.d), .val (.d (.list (ws.map PyData.str))), .val (.d (.tuple w.a)), .val (.d (.tuple w.b)), .val (.d (.tuple w.c)), .val (.d (.list N)), .non, .non, .non, .non]) (ev_cb1 (ev_var (i := 5) rfl) (cd_lenL (K := K) (ds := N))) (ev_int (i := 2)) (opd_fdiv ⟨by decide, by decide⟩)
      rw [show (N.length : Int) / 2 = ((N.length / 2 : Nat) : Int) by omega] at z
      exact z) ea_nil) (by omega) (by omega)
    unfold rangeD at src
    rw [Int.toNat_natCast] at src
    refine' eo_lc1 (ρ := [.val (.d w.d), .val (.d (.list (ws.map PyData.str))), .val (.d (.tuple w.a)), .val (.d (.tuple w.b)), .val (.d (.tuple w.c)), .val (.d (.list N)), .non, .non, .non, .non]) (ρ1 := [.val (.d w.d), .val (.d (.list (ws.map PyData.str))), .val (.d (.tuple w.a)), .val (.d (.tuple w.b)), .val (.d (.tuple w.c)), .val (.d (.list N)), .non, .non, .non, .non]) (vs := [9]) (List.range (N.length / 2)) (fun k : Nat => .d (.int (0 + (k : Int)))) (fun k => PyData.tuple [N.getD (2 * k) .none, N.getD (2 * k + 1) .none]) (fun k : Nat => [.d (.int (0 + (k : Int)))]) (EI.c src) (is := [9]) (fun j h => h) (fun j hj l c h => ?_) (sz _ (by rw [List.length_range]; omega)) (fun k hk => ⟨gt_name, ?_⟩)
    · simp only [List.mem_cons, List.not_mem_nil, or_false] at hj; subst hj; cases h
    · have hk := List.mem_range.mp hk
      have i1 : atI N (2 * (0 + (k : Int))) = some (N.getD (2 * k) .none) := by
        rw [show 2 * (0 + (k : Int)) = ((2 * k : Nat) : Int) by omega]
        exact Pw.atI_nat (by rw [List.getD_eq_getElem?_getD, List.getElem?_eq_getElem (by omega)]; rfl)
      have i2 : atI N (2 * (0 + (k : Int)) + 1) = some (N.getD (2 * k + 1) .none) := by
        rw [show 2 * (0 + (k : Int)) + 1 = ((2 * k + 1 : Nat) : Int) by omega]
        exact Pw.atI_nat (by rw [List.getD_eq_getElem?_getD, List.getElem?_eq_getElem (by omega)]; rfl)
      exact ev_tup (ds := [_, _]) (ea_cons (ev_op (ev_var (i := 5) rfl) (ev_op ev_int (ev_var (i := 9) rfl) (opd_mul (.inl ⟨by omega, by omega⟩))) (opd_ixL i1)) (ea_cons (ev_op (ev_var (i := 5) rfl) (ev_op (ev_op ev_int (ev_var (i := 9) rfl) (opd_mul (.inl ⟨by omega, by omega⟩))) ev_int opd_add) (opd_ixL i2)) ea_nil)) (show 2 ≤ sizeLine by decide)
  show WP _ [.val (.d w.d), .val (.d (.list (ws.map PyData.str))), .val (.d (.tuple w.a)), .val (.d (.tuple w.b)), .val (.d (.tuple w.c)), .val (.d (.list N)), .non, .val (.d (.tuple (pairs2 N))), .non, .non] _
  refine wp_seq ?_
  refine' wp_asg (x := .d (w.add (rowP ws) 1).d) (ev_tup (ρ := [.val (.d w.d), .val (.d (.list (ws.map PyData.str))), .val (.d (.tuple w.a)), .val (.d (.tuple w.b)), .val (.d (.tuple w.c)), .val (.d (.list N)), .non, .val (.d (.tuple (pairs2 N))), .non, .non]) (ds := [.tuple w.a, .tuple (w.b ++ [rowP ws]), .tuple w.c]) (ea_cons (ev_var (i := 2) rfl) (ea_cons (ev_op (ev_var (i := 3) rfl) (ev_tup (ρ1 := [.val (.d w.d), .val (.d (.list (ws.map PyData.str))), .val (.d (.tuple w.a)), .val (.d (.tuple w.b)), .val (.d (.tuple w.c)), .val (.d (.list N)), .non, .val (.d (.tuple (pairs2 N))), .non, .non]) (ds := [rowP ws]) (ea_cons (ρ1 := [.val (.d w.d), .val (.d (.list (ws.map PyData.str))), .val (.d (.tuple w.a)), .val (.d (.tuple w.b)), .val (.d (.tuple w.c)), .val (.d (.list N)), .non, .val (.d (.tuple (pairs2 N))), .non, .non]) ?row ea_nil) (show 1 ≤ sizeLine by decide)) (opd_cat_tup (by rw [PySem.sizeLine_eq]; simp; omega))) (ea_cons (ev_var (i := 4) rfl) ea_nil))) (show 3 ≤ sizeLine by decide)) ?_
  case row =>
    rw [eP]
    exact ev_tup (ds := [_, _, _, _]) (ea_cons (ev_op (ev_var rfl) ev_int (opd_ixL (atk 1 (by omega)))) (ea_cons (ev_op (ev_var rfl) ev_int (opd_ixL (atk 2 (by omega)))) (ea_cons (ev_op (ev_var rfl) ev_int (opd_ixL (atk 3 (by omega)))) (ea_cons (ev_var rfl) ea_nil)))) (show 4 ≤ sizeLine by decide)
  show WP _ [.val (.d w.d), .val (.d (.list (ws.map PyData.str))), .val (.d (.tuple w.a)), .val (.d (.tuple w.b)), .val (.d (.tuple w.c)), .val (.d (.list N)), .val (.d (w.add (rowP ws) 1).d), .val (.d (.tuple (pairs2 N))), .non, .non] _
  obtain ⟨h1, h2, h3, h4, h5, h6⟩ := add_mem ow nP 1
  have nz := W3.nice h1 h2 h3 h4 h5 h6
  have t := et_and0 (ρ := [.val (.d w.d), .val (.d (.list (ws.map PyData.str))), .val (.d (.tuple w.a)), .val (.d (.tuple w.b)), .val (.d (.tuple w.c)), .val (.d (.list N)), .val (.d (w.add (rowP ws) 1).d), .val (.d (.tuple (pairs2 N))), .non, .non]) (et_test (ev_op (ev_cb1 (ev_var (i := 4) rfl) (cd_lenT (K := K))) (ev_int (i := 0)) (opd_eq_int (K := K)))) (fun _ => et_test (ev_c1 (E := E) (f := gLMap) (ev_var (i := 6) rfl) ⟨nz, rfl⟩))
  rw [empty_len] at t
  by_cases z : (w.c.isEmpty && lawB (w.add (rowP ws) 1).d) = true
  · rw [if_pos z]; rw [z] at t
    exact wp_ret (ev_if t (fun _ => ev_var rfl) (fun z => by cases z)) rfl
  · rw [if_neg z]; rw [show (w.c.isEmpty && lawB (w.add (rowP ws) 1).d) = false by simpa using z] at t
    exact wp_ret (ev_if t (fun z => by cases z) (fun _ => ev_non)) rfl
end

end Pv

set_option Elab.async false
set_option linter.all false
set_option maxRecDepth 100000
/-! PwParse6: a text grows word by word. -/
namespace Pv
open PySem L2 Pw TL PySem.NumText
theorem joinL_snoc : ∀ {ps : List (List Nat)} {q : List Nat}, ps ≠ [] → joinL [32] (ps ++ [q]) = joinL [32] ps ++ (32 :: q)
  | [], _, h => absurd rfl h
  | [p], q, _ => by show p ++ ([32] ++ q) = p ++ (32 :: q); rfl
  | p :: r :: s, q, _ => by
    have ih := joinL_snoc (ps := r :: s) (q := q) (by simp)
    show p ++ ([32] ++ joinL [32] ((r :: s) ++ [q])) = (p ++ ([32] ++ joinL [32] (r :: s))) ++ (32 :: q)
    rw [ih]
    simp
def wordsT (ws : List Str) : List Nat := joinL [32] (ws.map tl)
theorem wordsT_snoc {ws : List Str} {w : Str} (h : ws ≠ []) : wordsT (ws ++ [w]) = wordsT ws ++ (32 :: tl w) := by
  unfold wordsT
  rw [List.map_append]
  exact joinL_snoc (by simpa using h)
theorem wordsT_one (w : Str) : wordsT [w] = tl w := rfl
theorem lenA (a b : Str) : (a ++ b).length = a.length + b.length := by
  rw [len_tl, tl_append, List.length_append, ← len_tl, ← len_tl]
theorem len_mkS (l : List Nat) : (mkS l).length = l.length := by rw [len_tl, tl_mkS]
theorem textL_snoc (rs : List (List Str)) (r : List Str) : textL (rs ++ [r]) = textL rs ++ (wordsT r ++ [10]) := by
  unfold textL
  rw [List.flatMap_append]
  simp [rowL, wordsT]
theorem take_snoc {α : Type} {l : List α} {i : Nat} {a : α} (h : l[i]? = some a) : l.take (i + 1) = l.take i ++ [a] := by
  rw [List.take_succ, h]; rfl
theorem tl_node : tl ("node " : Str) = tl ("node" : Str) ++ [32] := by decide +kernel
theorem tl_line : tl ("line " : Str) = tl ("line" : Str) ++ [32] := by decide +kernel
theorem tl_mark : tl ("mark " : Str) = tl ("mark" : Str) ++ [32] := by decide +kernel
theorem len5 : ("node " : Str).length = 5 ∧ ("line " : Str).length = 5 ∧ ("mark " : Str).length = 5 ∧ (" " : Str).length = 1 ∧ ("\n" : Str).length = 1 := by decide +kernel
def numW (p : Pt) : List Str := [numS p.1, numS p.2]
theorem lineW_eq (l : Ln) : lineW l = [("line" : Str), l.name, l.s, l.e] ++ l.cs.flatMap numW := rfl
theorem text_take_len {rs : List (List Str)} (h : ∀ ws ∈ rs, GoodRow ws) (i : Nat) : (textL (rs.take i)).length ≤ rs.length * 340 := by
  have h1 := text_len (rs := rs.take i) fun ws hw => h ws (List.mem_of_mem_take hw)
  have h2 : (rs.take i).length ≤ rs.length := by rw [List.length_take]; omega
  have := Nat.mul_le_mul_right 340 h2
  omega
theorem wordsT_len {ws : List Str} (h : ∀ w ∈ ws, GoodW w) (l : ws.length ≤ 28) : (wordsT ws).length ≤ 336 := by
  have h1 : (wordsT ws).length ≤ (ws.map tl).length * (11 + 1) := join_len fun p hp => by
    obtain ⟨w, hw, rfl⟩ := List.mem_map.mp hp
    rw [← len_tl]; exact (h w hw).len
  rw [List.length_map] at h1
  omega
theorem ev_str_eq {ta : TE} {ρ ρ1 : List Slot} {a b : Str} (h : EV ta ρ (.d (.str a)) ρ1) (e : a = b) : EV ta ρ (.d (.str b)) ρ1 := e ▸ h
end Pv

set_option Elab.async false
set_option linter.all false
set_option maxRecDepth 100000
set_option maxHeartbeats 4000000
open PySem L2 Pw Hd
namespace Pv

section
variable {P : Program} {w : World} {K : PySem.W.Frag} {mg : Str → Option Value} {base : Heap}
theorem sc__law_parsed : FnScope [("text" : Str), ("world" : Str), ("rows" : Str), ("k" : Str), ("words" : Str), ("word" : Str)] [("text" : Str)] (defScope s__law_parsed) := ⟨rfl, rfl, rfl, by decide +kernel, rfl, by decide +kernel, by decide +kernel⟩
theorem c__law_parsed  (D : Df K mg "_law_parsed" s__law_parsed) (T : Bt mg)  (c__law_read_line : Cal P w K mg base 4 "_law_read_line" ["world", "words"] (sp2 gRead)) : Cal P w K mg base 5 "_law_parsed" ["text"] (sp1 gParsed) := by
  have sc := sc__law_parsed
  refine cal_mk (k := 4) D sc (fun vs H Q E s => len1 s) (fun _ _ _ _ _ _ us hl => match us, hl with | [_], _ => rfl) (fun f cdv A outer st H vs Q E hr h => ⟨_, (pss_cons (ps_set (i := 1) sc.nd rfl (Or.inl rfl) (pe_tup (pa_cons (pe_tup pa_nil) (pa_cons (pe_tup pa_nil) (pa_cons (pe_tup pa_nil) pa_nil)))))
    (pss_cons (ps_set (i := 2) sc.nd rfl (Or.inl rfl) (pe_m1 PySem.F.slot_str_split PySem.F.type_str_split mt_splitK (pv 0) pe_str))
    (pss_cons (ps_for PassesOwn.never rfl (pi_range1 (by rfl) T.b_range (pa_cons (pe_callB (call_lenK K) (by rfl) T.b_len (by decide +kernel) (pa_cons (pv 2) pa_nil)) pa_nil)) (pg_name (i := 3) sc.nd rfl (Or.inl rfl)) (pss_cons (ps_setLc (i := 4) (own := [("word", 5)]) rfl sc.nd rfl rfl (sw_true rfl rfl rfl (by decide +kernel)) (pi_LT K (pe_m1 PySem.F.slot_str_split PySem.F.type_str_split mt_splitK (pe_ix (ix_K K) (pv 2) (pv 3) (fun _ _ => rfl)) pe_str)) (blkOk_by (by rfl)) (fun _ _ _ _ _ => (pg_name (i := 5) sc.nd rfl (Or.inl rfl))) (fun _ _ _ _ _ => (pts_one (pt_cmpR (op_neK K hr.units) (pv 5) pe_str (nomark _)))) (fun _ _ _ _ _ => (pv 5)))
    (pss_one (ps_if (pt_cmpR op_gt (pe_callB (call_lenK K) (by rfl) T.b_len (by decide +kernel) (pa_cons (pv 4) pa_nil)) pe_int (nomark _)) (pss_cons (ps_set (i := 1) sc.nd rfl (Or.inl rfl) (pe_cal c__law_read_line hr (by decide) (by rfl) (pa_cons (pv 1) (pa_cons (pv 4) pa_nil))))
    (pss_one (ps_if (pt_cmp (pc_isN (pv 1))) (pss_one (ps_ret (pe_tup (pa_cons pe_str (pa_cons (pv 3) pa_nil))))) pss_nil))) pss_nil))))
    (pss_one (ps_ret (pv 1)))))), wp1 h ?_⟩)
  rintro _ _ ⟨t, rfl, ok, rfl⟩
  have okl := ok.len
  refine wp_seq ?_
  refine' wp_asg (x := .d (W3.mk [] [] []).d) (ev_tup (ds := [.tuple [], .tuple [], .tuple []]) (ea_cons (ev_tup (ds := []) ea_nil (Nat.zero_le _)) (ea_cons (ev_tup (ds := []) ea_nil (Nat.zero_le _)) (ea_cons (ev_tup (ds := []) ea_nil (Nat.zero_le _)) ea_nil))) (show 3 ≤ sizeLine by decide)) ?_
  show WP _ [.val (.d (.str t)), .val (.d (W3.mk [] [] []).d), .non, .non, .non, .non] _
  refine wp_seq ?_
  refine' wp_asg (EO.vl (eo_split (c := 10) (ev_var rfl) ev_str tl_nl (by decide) (by rw [PySem.sizeLine_eq]; omega))) ?_
  have sp : (splitS 10 t).length ≤ t.length + 1 := by
    unfold splitS
    rw [List.length_map, TL.len_tl]
    exact cut_count 10 _
  obtain ⟨Ls, hL⟩ : ∃ Ls, splitS 10 t = Ls := ⟨_, rfl⟩
  rw [hL] at sp ⊢
  show WP _ [.val (.d (.str t)), .val (.d (W3.mk [] [] []).d), .val (.d (.list (Ls.map PyData.str))), .non, .non, .non] _
  have src := ei_range1 (ρ := [.val (.d (.str t)), .val (.d (W3.mk [] [] []).d), .val (.d (.list (Ls.map PyData.str))), .non, .non, .non]) (ea_cons (ev_cb1 (ev_var (i := 2) rfl) (cd_lenL (K := K))) ea_nil) (by rw [List.length_map]; omega) (by rw [List.length_map]; omega)
  rw [List.length_map, Int.toNat_natCast] at src
  refine wp_seq ?_
  refine' wp_for (fun i ρ => ∃ (w : W3) (s3 s4 s5 : Slot), ρ = [.val (.d (.str t)), .val (.d w.d), .val (.d (.list (Ls.map PyData.str))), s3, s4, s5] ∧ (∀ l c, s5 ≠ .own l c) ∧ w.Ok ∧ runG readT ((Ls.map wordsS).drop i) i w = runG readT (Ls.map wordsS) 0 ⟨[], [], []⟩) src ⟨_, _, _, _, rfl, (fun l c h => by cases h), empty_ok, rfl⟩ ?body ?done
  case done =>
    rintro _ ⟨w, s3, s4, s5, rfl, _, ow, hr⟩
    have el : (rangeD 0 Ls.length).length = Ls.length := by rw [rangeD, List.length_map, List.length_range]
    rw [el] at hr
    rw [List.drop_of_length_le (by rw [List.length_map]; exact Nat.le_refl _)] at hr
    rw [← hr]
    show WP _ _ _
    exact wp_ret (ev_var rfl) rfl
  case body =>
    rintro i x _ hx ⟨w, s3, s4, s5, rfl, hs5, ow, hr⟩
    obtain ⟨hi, rfl⟩ := at_range hx
    have hli : Ls[i]? = some Ls[i] := List.getElem?_eq_getElem hi
    have hm : Ls[i] ∈ splitS 10 t := by rw [hL]; exact List.getElem_mem hi
    have er : (Ls.map wordsS).drop i = wordsS Ls[i] :: (Ls.map wordsS).drop (i + 1) := by
      rw [List.drop_eq_getElem_cons (by rw [List.length_map]; exact hi), List.getElem_map]
    rw [er] at hr
    have hr : (if wordsS Ls[i] = [] then runG readT ((Ls.map wordsS).drop (i + 1)) (i + 1) w else match readT w (wordsS Ls[i]) with
      | none => .inl i
      | some w' => runG readT ((Ls.map wordsS).drop (i + 1)) (i + 1) w') = runG readT (Ls.map wordsS) 0 ⟨[], [], []⟩ := hr
    have wne := words_ok ok hm
    have wt := words_tame ok hm
    have ll := line_len hm
    have ati : atI (Ls.map PyData.str) (0 + (i : Int)) = some (.str Ls[i]) := by
      rw [Int.zero_add]; exact Pw.atI_nat (by rw [List.getElem?_map, hli]; rfl)
    generalize Ls[i] = line at hr wne wt ll hli ati
    clear hli er hm
    refine ⟨_, gt_name, ?_⟩
    show WP _ [.val (.d (.str t)), .val (.d w.d), .val (.d (.list (Ls.map PyData.str))), .val (.d (.int (0 + (i : Int)))), s4, s5] _
    have ew : ((splitS 32 line).filter fun z => !decide (z = ("" : Str))) = wordsS line := by
      unfold wordsS
      congr 1
      funext z
      have e0 : TL.tl ("" : Str) = [] := by decide +kernel
      by_cases h : z = ("" : Str)
      · rw [h, e0]; rfl
      · have : TL.tl z ≠ [] := fun q => h (TL.ext_tl (by rw [q, e0]))
        rw [decide_eq_false h, decide_eq_true this]; rfl
    have sp2 : (splitS 32 line).length < sizeLine := by
      unfold splitS
      rw [List.length_map]
      have := cut_count 32 (TL.tl line)
      rw [← TL.len_tl] at this
      rw [PySem.sizeLine_eq]
      omega
    have src2 := ei_or1 (b := iTup K (tM1 rSplit (tOp (rIx K) (tVar 2) (tVar 3)) (tC (.str (" " : Str))))) (ei_list (K := K) (EO.vl (eo_split (ρ := [.val (.d (.str t)), .val (.d w.d), .val (.d (.list (Ls.map PyData.str))), .val (.d (.int (0 + (i : Int)))), s4, s5]) (c := 32) (ev_op (ev_var (i := 2) rfl) (ev_var (i := 3) rfl) (opd_ixL (K := K) ati)) (ev_str (s := " ")) tl_sp (by decide) (by rw [PySem.sizeLine_eq]; omega))))
    rw [List.map_map] at src2
    refine wp_seq ?_
    refine' wp_asg (x := .d (.list ((wordsS line).map PyData.str))) (EO.vl ?wl) ?_
    case wl =>
      rw [← ew]
      refine' eo_lc0 (ρ := [.val (.d (.str t)), .val (.d w.d), .val (.d (.list (Ls.map PyData.str))), .val (.d (.int (0 + (i : Int)))), s4, s5]) (ρ1 := [.val (.d (.str t)), .val (.d w.d), .val (.d (.list (Ls.map PyData.str))), .val (.d (.int (0 + (i : Int)))), s4, s5]) (vs := [5]) (splitS 32 line) (fun z => .d (.str z)) (fun z => !decide (z = ("" : Str))) (fun z => .str z) (fun z => [.d (.str z)]) (EI.c src2) (is := [5]) (fun j h => h) (fun j hj l c h => ?_) sp2 (fun z hz => ⟨gt_name, et_test (ev_op (ev_var (i := 5) rfl) (ev_str (s := "")) opd_ne_str), fun _ => ev_var (i := 5) rfl⟩)
      simp only [List.mem_cons, List.not_mem_nil, or_false] at hj
      subst hj
      exact hs5 l c (Option.some.inj h)
    show WP _ [.val (.d (.str t)), .val (.d w.d), .val (.d (.list (Ls.map PyData.str))), .val (.d (.int (0 + (i : Int)))), .val (.d (.list ((wordsS line).map PyData.str))), s5] _
    have hlw : ∀ n : Nat, (wordsS line).length = n → decide ((0 : Int) < ((wordsS line).map PyData.str).length) = decide (0 < n) := fun n h => by
      rw [List.length_map, h]
      exact decide_eq_decide.mpr (by omega)
    by_cases hw : wordsS line = []
    · rw [if_pos hw] at hr
      refine' wp_if (b := decide ((0 : Int) < ((wordsS line).map PyData.str).length)) (et_b (ev_op (ev_cb1 (ev_var rfl) cd_lenL) ev_int opd_gt)) (fun z => ?_) (fun _ => wp_next ?_)
      · rw [hw] at z; cases z
      · exact ⟨w, _, _, _, rfl, hs5, ow, hr⟩
    · rw [if_neg hw] at hr
      have wo := wne hw
      refine' wp_if (b := decide ((0 : Int) < ((wordsS line).map PyData.str).length)) (et_b (ev_op (ev_cb1 (ev_var rfl) cd_lenL) ev_int opd_gt)) (fun _ => ?_) (fun z => ?_)
      · refine wp_seq ?_
        refine' wp_asg (ev_c2 (E := E) (f := gRead) (ev_var (i := 1) rfl) (ev_var (i := 4) rfl) ⟨w, wordsS line, rfl, rfl, wo, wt, ow, rfl⟩) ?_
        cases q : readT w (wordsS line) with
        | none =>
          rw [q] at hr
          have hr : Sum.inl i = runG readT (Ls.map wordsS) 0 ⟨[], [], []⟩ := hr
          show WP _ [.val (.d (.str t)), .val (.d .none), .val (.d (.list (Ls.map PyData.str))), .val (.d (.int (0 + (i : Int)))), .val (.d (.list ((wordsS line).map PyData.str))), s5] _
          refine' wp_if (b := true) (et_b (ev_isN (a := .none) (ev_var rfl))) (fun _ => ?_) (fun z => by cases z)
          rw [← hr]
          refine' wp_ret (ev_tup (ds := [.str ("at" : Str), .int (0 + (i : Int))]) (ea_cons ev_str (ea_cons (ev_var rfl) ea_nil)) (show 2 ≤ sizeLine by decide)) ?_
          show _ = _
          rw [Int.zero_add]
          rfl
        | some w' =>
          rw [q] at hr
          show WP _ [.val (.d (.str t)), .val (.d w'.d), .val (.d (.list (Ls.map PyData.str))), .val (.d (.int (0 + (i : Int)))), .val (.d (.list ((wordsS line).map PyData.str))), s5] _
          refine' wp_if (b := false) (et_b (ev_isN (a := w'.d) (ev_var rfl))) (fun z => by cases z) (fun _ => wp_next ?_)
          exact ⟨w', _, _, _, rfl, hs5, read_ok ow wo wt q, hr⟩
      · rw [List.length_map] at z
        have := of_decide_eq_false z
        have := List.length_pos_iff.mpr hw
        omega
theorem sc__law_map_text : FnScope [("world" : Str), ("made" : Str), ("one" : Str), ("place" : Str), ("k" : Str)] [("world" : Str)] (defScope s__law_map_text) := ⟨rfl, rfl, rfl, by decide +kernel, rfl, by decide +kernel, by decide +kernel⟩
theorem c__law_map_text  (D : Df K mg "_law_map_text" s__law_map_text) (T : Bt mg)   : Cal P w K mg base 1 "_law_map_text" ["world"] (sp1 gMapText) := by
  have sc := sc__law_map_text
  refine cal_mk (k := 0) D sc (fun vs H Q E s => len1 s) (fun _ _ _ _ _ _ us hl => match us, hl with | [_], _ => rfl) (fun f cdv A outer st H vs Q E hr h => ⟨_, (pss_cons (ps_set (i := 1) sc.nd rfl (Or.inl rfl) pe_str)
    (pss_cons (ps_for PassesOwn.never rfl (pi_LT K (pe_ix (ix_K K) (pv 0) pe_int (fun _ _ => rfl))) (pg_name (i := 2) sc.nd rfl (Or.inl rfl)) (pss_one (ps_set (i := 1) sc.nd rfl (Or.inl rfl) (pe_op (op_plusK K) (pe_op (op_plusK K) (pe_op (op_plusK K) (pe_op (op_plusK K) (pe_op (op_plusK K) (pe_op (op_plusK K) (pe_op (op_plusK K) (pv 1) pe_str) (pe_ix (ix_K K) (pv 2) pe_int (fun _ _ => rfl))) pe_str) (pe_callTy call_strA (by rfl) T.b_str (by decide +kernel) (pa_cons (pe_ix (ix_K K) (pv 2) pe_int (fun _ _ => rfl)) pa_nil))) pe_str) (pe_callTy call_strA (by rfl) T.b_str (by decide +kernel) (pa_cons (pe_ix (ix_K K) (pv 2) pe_int (fun _ _ => rfl)) pa_nil))) pe_str))))
    (pss_cons (ps_for PassesOwn.never rfl (pi_LT K (pe_ix (ix_K K) (pv 0) pe_int (fun _ _ => rfl))) (pg_name (i := 2) sc.nd rfl (Or.inl rfl)) (pss_cons (ps_set (i := 1) sc.nd rfl (Or.inl rfl) (pe_op (op_plusK K) (pe_op (op_plusK K) (pe_op (op_plusK K) (pe_op (op_plusK K) (pe_op (op_plusK K) (pe_op (op_plusK K) (pv 1) pe_str) (pe_ix (ix_K K) (pv 2) pe_int (fun _ _ => rfl))) pe_str) (pe_ix (ix_K K) (pv 2) pe_int (fun _ _ => rfl))) pe_str) (pe_ix (ix_K K) (pv 2) pe_int (fun _ _ => rfl))))
    (pss_cons (ps_for PassesOwn.never rfl (pi_LT K (pe_ix (ix_K K) (pv 2) pe_int (fun _ _ => rfl))) (pg_name (i := 3) sc.nd rfl (Or.inl rfl)) (pss_one (ps_set (i := 1) sc.nd rfl (Or.inl rfl) (pe_op (op_plusK K) (pe_op (op_plusK K) (pe_op (op_plusK K) (pe_op (op_plusK K) (pv 1) pe_str) (pe_callTy call_strA (by rfl) T.b_str (by decide +kernel) (pa_cons (pe_ix (ix_K K) (pv 3) pe_int (fun _ _ => rfl)) pa_nil))) pe_str) (pe_callTy call_strA (by rfl) T.b_str (by decide +kernel) (pa_cons (pe_ix (ix_K K) (pv 3) pe_int (fun _ _ => rfl)) pa_nil))))))
    (pss_one (ps_set (i := 1) sc.nd rfl (Or.inl rfl) (pe_op (op_plusK K) (pv 1) pe_str))))))
    (pss_cons (ps_for PassesOwn.never rfl (pi_LT K (pe_ix (ix_K K) (pv 0) pe_int (fun _ _ => rfl))) (pg_name (i := 2) sc.nd rfl (Or.inl rfl)) (pss_cons (ps_set (i := 1) sc.nd rfl (Or.inl rfl) (pe_op (op_plusK K) (pe_op (op_plusK K) (pv 1) pe_str) (pe_ix (ix_K K) (pv 2) pe_int (fun _ _ => rfl))))
    (pss_cons (ps_for PassesOwn.never rfl (pi_range1 (by rfl) T.b_range (pa_cons pe_int pa_nil)) (pg_name (i := 4) sc.nd rfl (Or.inl rfl)) (pss_one (ps_set (i := 1) sc.nd rfl (Or.inl rfl) (pe_op (op_plusK K) (pe_op (op_plusK K) (pv 1) pe_str) (pe_callTy call_strA (by rfl) T.b_str (by decide +kernel) (pa_cons (pe_ix (ix_K K) (pv 2) (pe_op (op_plusK K) (pv 4) pe_int) (fun _ _ => rfl)) pa_nil))))))
    (pss_one (ps_set (i := 1) sc.nd rfl (Or.inl rfl) (pe_op (op_plusK K) (pv 1) pe_str))))))
    (pss_one (ps_ret (pv 1))))))), wp1 h ?_⟩)
  rintro _ _ ⟨m, ok, lab, rfl, rfl⟩
  have gr := good_rows ok lab
  have rc := rows_count ok
  have cl := ok.cl
  have cn := ok.cn
  have cm := ok.cm
  obtain ⟨k1, k2, k3, k4, k5⟩ := len5
  have grN : ∀ ws ∈ m.nodes.map nodeW, GoodRow ws := fun ws h => gr ws (by simp only [rowsOf, List.mem_append]; exact .inl h)
  have grL : ∀ ws ∈ m.lines.map lineW, GoodRow ws := fun ws h => gr ws (by simp only [rowsOf, List.mem_append]; exact .inr (.inl h))
  have grM : ∀ ws ∈ m.marks.map markW, GoodRow ws := fun ws h => gr ws (by simp only [rowsOf, List.mem_append]; exact .inr (.inr h))
  refine wp_seq ?_
  refine' wp_asg (x := .d (.str (mkS (textL ((m.nodes.map nodeW).take 0))))) (show EV _ _ (.d (.str (mkS []))) _ from ev_str) ?_
  show WP _ [.val (.d (mpD m)), .val (.d (.str (mkS (textL ((m.nodes.map nodeW).take 0))))), .non, .non, .non] _
  have srcN := ei_or2 (a := iList K (tOp (rIx K) (tVar 0) (tC (.int 0)))) (ei_tup (K := K) (ρ := [.val (.d (mpD m)), .val (.d (.str (mkS (textL ((m.nodes.map nodeW).take 0))))), .non, .non, .non]) (ev_op (ev_var (i := 0) rfl) (ev_int (i := 0)) (opd_ixT (K := K) (ds := [.tuple (m.nodes.map ndD), .tuple (m.lines.map lnD), .tuple (m.marks.map mkD)]) (d := .tuple (m.nodes.map ndD)) (Pw.atI_nat (i := 0) rfl))))
  rw [List.map_map] at srcN
  refine wp_seq ?_
  refine' wp_for (fun i ρ => ∃ s2, ρ = [.val (.d (mpD m)), .val (.d (.str (mkS (textL ((m.nodes.map nodeW).take i))))), s2, .non, .non]) srcN ⟨_, rfl⟩ ?bN ?dN
  case bN =>
    rintro i x _ hx ⟨s2, rfl⟩
    obtain ⟨n, hni, rfl⟩ := at_map hx
    have hm := List.mem_of_getElem? hni
    have f := ok.fn n hm
    have g := (good_name (ok.tn n hm)).len
    have g1 := (good_num f.1).len
    have g2 := (good_num f.2).len
    have lt := text_take_len grN i
    rw [List.length_map] at lt
    refine ⟨_, gt_name, ?_⟩
    show WP _ [.val (.d (mpD m)), .val (.d (.str (mkS (textL ((m.nodes.map nodeW).take i))))), .val (.d (ndD n)), .non, .non] _
    refine' wp_asg (ev_op (ev_op (ev_op (ev_op (ev_op (ev_op (ev_op (ev_var (i := 1) rfl) (ev_str (s := "node ")) (opd_cat_str (by simp only [lenA, len_mkS, List.length_append]; rw [PySem.sizeLine_eq]; omega))) (ev_op (ev_var (i := 2) rfl) (ev_int (i := 0)) (opd_ixT (K := K) (Pw.atI_nat (i := 0) rfl))) (opd_cat_str (by simp only [lenA, len_mkS, List.length_append]; rw [PySem.sizeLine_eq]; omega))) (ev_str (s := " ")) (opd_cat_str (by simp only [lenA, len_mkS, List.length_append]; rw [PySem.sizeLine_eq]; omega))) (ev_cb1 (ev_op (ev_var (i := 2) rfl) (ev_int (i := 1)) (opd_ixT (K := K) (Pw.atI_nat (i := 1) rfl))) (cd_strI (log_small (small_int f.1)))) (opd_cat_str (by simp only [lenA, len_mkS, List.length_append]; rw [PySem.sizeLine_eq]; omega))) (ev_str (s := " ")) (opd_cat_str (by simp only [lenA, len_mkS, List.length_append]; rw [PySem.sizeLine_eq]; omega))) (ev_cb1 (ev_op (ev_var (i := 2) rfl) (ev_int (i := 2)) (opd_ixT (K := K) (Pw.atI_nat (i := 2) rfl))) (cd_strI (log_small (small_int f.2)))) (opd_cat_str (by simp only [lenA, len_mkS, List.length_append]; rw [PySem.sizeLine_eq]; omega))) (ev_str (s := "\n")) (opd_cat_str (by simp only [lenA, len_mkS, List.length_append]; rw [PySem.sizeLine_eq]; omega))) ⟨.val (.d (ndD n)), ?_⟩
    rw [take_snoc (by rw [List.getElem?_map, hni]; rfl), textL_snoc]
    refine congrArg (fun z : Str => ([.val (.d (mpD m)), .val (.d (.str z)), .val (.d (ndD n)), .non, .non] : List Pw.Slot)) (TL.ext_tl ?_)
    simp only [TL.tl_append, tl_mkS, tl_node, tl_sp, tl_nl]
    simp [wordsT, TL.joinL, nodeW, tl_mkS]
  case dN =>
  rintro _ ⟨s2, rfl⟩
  rw [List.length_map, show (m.nodes.map nodeW).take m.nodes.length = m.nodes.map nodeW from List.take_of_length_le (by rw [List.length_map]; exact Nat.le_refl _)]
  have lN := text_len grN
  rw [List.length_map] at lN
  show WP _ [.val (.d (mpD m)), .val (.d (.str (mkS (textL (m.nodes.map nodeW))))), s2, .non, .non] _
  have srcL := ei_or2 (a := iList K (tOp (rIx K) (tVar 0) (tC (.int 1)))) (ei_tup (K := K) (ρ := [.val (.d (mpD m)), .val (.d (.str (mkS (textL (m.nodes.map nodeW))))), s2, .non, .non]) (ev_op (ev_var (i := 0) rfl) (ev_int (i := 1)) (opd_ixT (K := K) (ds := [.tuple (m.nodes.map ndD), .tuple (m.lines.map lnD), .tuple (m.marks.map mkD)]) (d := .tuple (m.lines.map lnD)) (Pw.atI_nat (i := 1) rfl))))
  rw [List.map_map] at srcL
  refine wp_seq ?_
  refine' wp_for (fun i ρ => ∃ s2 s3, ρ = [.val (.d (mpD m)), .val (.d (.str (mkS (textL (m.nodes.map nodeW) ++ textL ((m.lines.map lineW).take i))))), s2, s3, .non]) srcL ⟨s2, .non, by simp [textL]⟩ ?bL ?dL
  case bL =>
    rintro i x _ hx ⟨s2, s3, rfl⟩
    obtain ⟨l, hli, rfl⟩ := at_map hx
    have hm := List.mem_of_getElem? hli
    have g := (good_name (ok.tl l hm)).len
    have g1 := (good_name (name_of ok (ok.hs l hm))).len
    have g2 := (good_name (name_of ok (ok.he l hm))).len
    have lt := text_take_len grL i
    rw [List.length_map] at lt
    have gw := (grL _ (List.mem_map.mpr ⟨l, hm, rfl⟩))
    have cc := ok.cc l hm
    refine ⟨_, gt_name, ?_⟩
    show WP _ [.val (.d (mpD m)), .val (.d (.str (mkS (textL (m.nodes.map nodeW) ++ textL ((m.lines.map lineW).take i))))), .val (.d (lnD l)), s3, .non] _
    refine wp_seq ?_
    refine' wp_asg (x := .d (.str (mkS (textL (m.nodes.map nodeW) ++ textL ((m.lines.map lineW).take i) ++ wordsT ([("line" : Str), l.name, l.s, l.e] ++ (l.cs.take 0).flatMap numW))))) (ev_str_eq (ev_op (ev_op (ev_op (ev_op (ev_op (ev_op (ev_var (i := 1) rfl) (ev_str (s := "line ")) (opd_cat_str (by simp only [lenA, len_mkS, List.length_append]; rw [PySem.sizeLine_eq]; omega))) (ev_op (ev_var (i := 2) rfl) (ev_int (i := 0)) (opd_ixT (K := K) (Pw.atI_nat (i := 0) rfl))) (opd_cat_str (by simp only [lenA, len_mkS, List.length_append]; rw [PySem.sizeLine_eq]; omega))) (ev_str (s := " ")) (opd_cat_str (by simp only [lenA, len_mkS, List.length_append]; rw [PySem.sizeLine_eq]; omega))) (ev_op (ev_var (i := 2) rfl) (ev_int (i := 1)) (opd_ixT (K := K) (Pw.atI_nat (i := 1) rfl))) (opd_cat_str (by simp only [lenA, len_mkS, List.length_append]; rw [PySem.sizeLine_eq]; omega))) (ev_str (s := " ")) (opd_cat_str (by simp only [lenA, len_mkS, List.length_append]; rw [PySem.sizeLine_eq]; omega))) (ev_op (ev_var (i := 2) rfl) (ev_int (i := 2)) (opd_ixT (K := K) (Pw.atI_nat (i := 2) rfl))) (opd_cat_str (by simp only [lenA, len_mkS, List.length_append]; rw [PySem.sizeLine_eq]; omega))) ?e1) ?_
    case e1 =>
      refine TL.ext_tl ?_
      simp only [TL.tl_append, tl_mkS, tl_line, tl_sp]
      simp [wordsT, TL.joinL]
    show WP _ [.val (.d (mpD m)), .val (.d (.str (mkS (textL (m.nodes.map nodeW) ++ textL ((m.lines.map lineW).take i) ++ wordsT ([("line" : Str), l.name, l.s, l.e] ++ (l.cs.take 0).flatMap numW))))), .val (.d (lnD l)), s3, .non] _
    have srcC := ei_or2 (a := iList K (tOp (rIx K) (tVar 2) (tC (.int 3)))) (ei_tup (K := K) (ρ := [.val (.d (mpD m)), .val (.d (.str (mkS (textL (m.nodes.map nodeW) ++ textL ((m.lines.map lineW).take i) ++ wordsT ([("line" : Str), l.name, l.s, l.e] ++ (l.cs.take 0).flatMap numW))))), .val (.d (lnD l)), s3, .non]) (ev_op (ev_var (i := 2) rfl) (ev_int (i := 3)) (opd_ixT (K := K) (ds := [.str l.name, .str l.s, .str l.e, .tuple (l.cs.map ptD)]) (d := .tuple (l.cs.map ptD)) (Pw.atI_nat (i := 3) rfl))))
    rw [List.map_map] at srcC
    refine wp_seq ?_
    refine' wp_for (fun j ρ => ∃ s3, ρ = [.val (.d (mpD m)), .val (.d (.str (mkS (textL (m.nodes.map nodeW) ++ textL ((m.lines.map lineW).take i) ++ wordsT ([("line" : Str), l.name, l.s, l.e] ++ (l.cs.take j).flatMap numW))))), .val (.d (lnD l)), s3, .non]) srcC ⟨_, rfl⟩ ?bC ?dC
    case bC =>
      rintro j x _ hx ⟨s3, rfl⟩
      obtain ⟨p, hpj, rfl⟩ := at_map hx
      have hp := List.mem_of_getElem? hpj
      have f := ok.fc l hm p hp
      have g3 := (good_num f.1).len
      have g4 := (good_num f.2).len
      have lw : (wordsT ([("line" : Str), l.name, l.s, l.e] ++ (l.cs.take j).flatMap numW)).length ≤ 336 := wordsT_len (fun w hw => gw.ok w (by
        rw [lineW_eq]
        rcases List.mem_append.mp hw with h | h
        · exact List.mem_append.mpr (.inl h)
        · refine List.mem_append.mpr (.inr ?_)
          obtain ⟨q, hq, h⟩ := List.mem_flatMap.mp h
          exact List.mem_flatMap.mpr ⟨q, List.mem_of_mem_take hq, h⟩)) (by
        rw [List.length_append]
        have := two_len (fun p : Pt => numS p.1) (fun p : Pt => numS p.2) (l.cs.take j)
        have e : ((l.cs.take j).flatMap numW).length = 2 * (l.cs.take j).length := this
        rw [e, List.length_take]
        simp
        omega)
      refine ⟨_, gt_name, ?_⟩
      show WP _ [.val (.d (mpD m)), .val (.d (.str (mkS (textL (m.nodes.map nodeW) ++ textL ((m.lines.map lineW).take i) ++ wordsT ([("line" : Str), l.name, l.s, l.e] ++ (l.cs.take j).flatMap numW))))), .val (.d (lnD l)), .val (.d (ptD p)), .non] _
      refine' wp_asg (ev_op (ev_op (ev_op (ev_op (ev_var (i := 1) rfl) (ev_str (s := " ")) (opd_cat_str (by simp only [lenA, len_mkS, List.length_append]; rw [PySem.sizeLine_eq]; omega))) (ev_cb1 (ev_op (ev_var (i := 3) rfl) (ev_int (i := 0)) (opd_ixT (K := K) (Pw.atI_nat (i := 0) rfl))) (cd_strI (log_small (small_int f.1)))) (opd_cat_str (by simp only [lenA, len_mkS, List.length_append]; rw [PySem.sizeLine_eq]; omega))) (ev_str (s := " ")) (opd_cat_str (by simp only [lenA, len_mkS, List.length_append]; rw [PySem.sizeLine_eq]; omega))) (ev_cb1 (ev_op (ev_var (i := 3) rfl) (ev_int (i := 1)) (opd_ixT (K := K) (Pw.atI_nat (i := 1) rfl))) (cd_strI (log_small (small_int f.2)))) (opd_cat_str (by simp only [lenA, len_mkS, List.length_append]; rw [PySem.sizeLine_eq]; omega))) ⟨.val (.d (ptD p)), ?_⟩
      refine congrArg (fun z : Str => ([.val (.d (mpD m)), .val (.d (.str z)), .val (.d (lnD l)), .val (.d (ptD p)), .non] : List Pw.Slot)) (TL.ext_tl ?_)
      rw [take_snoc hpj, List.flatMap_append, List.flatMap_singleton, ← List.append_assoc]
      show _ = _ ++ wordsT (([("line" : Str), l.name, l.s, l.e] ++ (l.cs.take j).flatMap numW) ++ ([numS p.1] ++ [numS p.2]))
      rw [← List.append_assoc, wordsT_snoc (by simp), wordsT_snoc (by simp)]
      simp only [TL.tl_append, tl_mkS, tl_sp]
      simp
    case dC =>
    rintro _ ⟨s3, rfl⟩
    have lw : (wordsT ([("line" : Str), l.name, l.s, l.e] ++ l.cs.flatMap numW)).length ≤ 336 := wordsT_len (fun w hw => gw.ok w hw) gw.len
    rw [List.length_map, List.take_length]
    show WP _ [.val (.d (mpD m)), .val (.d (.str (mkS (textL (m.nodes.map nodeW) ++ textL ((m.lines.map lineW).take i) ++ wordsT ([("line" : Str), l.name, l.s, l.e] ++ l.cs.flatMap numW))))), .val (.d (lnD l)), s3, .non] _
    refine' wp_asg (ev_op (ev_var (i := 1) rfl) (ev_str (s := "\n")) (opd_cat_str (by simp only [lenA, len_mkS, List.length_append]; rw [PySem.sizeLine_eq]; omega))) ⟨.val (.d (lnD l)), s3, ?_⟩
    refine congrArg (fun z : Str => ([.val (.d (mpD m)), .val (.d (.str z)), .val (.d (lnD l)), s3, .non] : List Pw.Slot)) (TL.ext_tl ?_)
    rw [take_snoc (by rw [List.getElem?_map, hli]; rfl), textL_snoc, TL.tl_append, tl_mkS, tl_mkS, tl_nl, lineW_eq]
    simp
  case dL =>
  rintro _ ⟨s2, s3, rfl⟩
  rw [List.length_map, show (m.lines.map lineW).take m.lines.length = m.lines.map lineW from List.take_of_length_le (by rw [List.length_map]; exact Nat.le_refl _)]
  have lL := text_len grL
  rw [List.length_map] at lL
  show WP _ [.val (.d (mpD m)), .val (.d (.str (mkS (textL (m.nodes.map nodeW) ++ textL (m.lines.map lineW))))), s2, s3, .non] _
  have srcM := ei_or2 (a := iList K (tOp (rIx K) (tVar 0) (tC (.int 2)))) (ei_tup (K := K) (ρ := [.val (.d (mpD m)), .val (.d (.str (mkS (textL (m.nodes.map nodeW) ++ textL (m.lines.map lineW))))), s2, s3, .non]) (ev_op (ev_var (i := 0) rfl) (ev_int (i := 2)) (opd_ixT (K := K) (ds := [.tuple (m.nodes.map ndD), .tuple (m.lines.map lnD), .tuple (m.marks.map mkD)]) (d := .tuple (m.marks.map mkD)) (Pw.atI_nat (i := 2) rfl))))
  rw [List.map_map] at srcM
  refine wp_seq ?_
  refine' wp_for (fun i ρ => ∃ s2 s4, ρ = [.val (.d (mpD m)), .val (.d (.str (mkS (textL (m.nodes.map nodeW) ++ textL (m.lines.map lineW) ++ textL ((m.marks.map markW).take i))))), s2, s3, s4]) srcM ⟨s2, .non, by simp [textL]⟩ ?bM ?dM
  case bM =>
    rintro i x _ hx ⟨s2, s4, rfl⟩
    obtain ⟨n, hni, rfl⟩ := at_map hx
    have hm := List.mem_of_getElem? hni
    have f := ok.fm n hm
    have lb := lab n hm
    have g := (good_name (ok.tm n hm)).len
    have lt := text_take_len grM i
    rw [List.length_map] at lt
    refine ⟨_, gt_name, ?_⟩
    show WP _ [.val (.d (mpD m)), .val (.d (.str (mkS (textL (m.nodes.map nodeW) ++ textL (m.lines.map lineW) ++ textL ((m.marks.map markW).take i))))), .val (.d (mkD n)), s3, s4] _
    refine wp_seq ?_
    refine' wp_asg (x := .d (.str (mkS (textL (m.nodes.map nodeW) ++ textL (m.lines.map lineW) ++ textL ((m.marks.map markW).take i) ++ wordsT ((markW n).take (2 + 0)))))) (ev_str_eq (ev_op (ev_op (ev_var (i := 1) rfl) (ev_str (s := "mark ")) (opd_cat_str (by simp only [lenA, len_mkS, List.length_append]; rw [PySem.sizeLine_eq]; omega))) (ev_op (ev_var (i := 2) rfl) (ev_int (i := 0)) (opd_ixT (K := K) (Pw.atI_nat (i := 0) rfl))) (opd_cat_str (by simp only [lenA, len_mkS, List.length_append]; rw [PySem.sizeLine_eq]; omega))) ?e1) ?_
    case e1 =>
      refine TL.ext_tl ?_
      simp only [TL.tl_append, tl_mkS, tl_mark]
      simp [wordsT, TL.joinL, markW]
    show WP _ [.val (.d (mpD m)), .val (.d (.str (mkS (textL (m.nodes.map nodeW) ++ textL (m.lines.map lineW) ++ textL ((m.marks.map markW).take i) ++ wordsT ((markW n).take (2 + 0)))))), .val (.d (mkD n)), s3, s4] _
    refine wp_seq ?_
    refine' wp_for (fun j ρ => ∃ s4, ρ = [.val (.d (mpD m)), .val (.d (.str (mkS (textL (m.nodes.map nodeW) ++ textL (m.lines.map lineW) ++ textL ((m.marks.map markW).take i) ++ wordsT ((markW n).take (2 + j)))))), .val (.d (mkD n)), s3, s4]) (ei_range1 (j := 4) (ea_cons ev_int ea_nil) (by omega) (by omega)) ⟨_, rfl⟩ ?bK ?dK
    case bK =>
      rintro j x _ hx ⟨s4, rfl⟩
      obtain ⟨hj, rfl⟩ := at_range hx
      have hj : j < 4 := hj
      have gm := grM _ (List.mem_map.mpr ⟨n, hm, rfl⟩)
      have lw : (wordsT ((markW n).take (2 + j))).length ≤ 336 := wordsT_len (fun w hw => gm.ok w (List.mem_of_mem_take hw)) (by rw [List.length_take]; have := gm.len; omega)
      have key : ∃ v : Int, atI [PyData.str n.name, .int n.p.1, .int n.p.2, .int n.wide, .int n.high] (0 + (j : Int) + 1) = some (.int v) ∧ (markW n).take (2 + (j + 1)) = (markW n).take (2 + j) ++ [numS v] ∧ (-1000000000 ≤ v ∧ v ≤ 1000000000) := by
        match j, hj with
        | 0, _ => exact ⟨n.p.1, rfl, rfl, f.1⟩
        | 1, _ => exact ⟨n.p.2, rfl, rfl, f.2⟩
        | 2, _ => exact ⟨n.wide, rfl, rfl, by omega⟩
        | 3, _ => exact ⟨n.high, rfl, rfl, by omega⟩
      obtain ⟨v, a1, a2, a3⟩ := key
      have g3 := (good_num a3).len
      refine ⟨_, gt_name, ?_⟩
      show WP _ [.val (.d (mpD m)), .val (.d (.str (mkS (textL (m.nodes.map nodeW) ++ textL (m.lines.map lineW) ++ textL ((m.marks.map markW).take i) ++ wordsT ((markW n).take (2 + j)))))), .val (.d (mkD n)), s3, .val (.d (.int (0 + (j : Int))))] _
      refine' wp_asg (ev_op (ev_op (ev_var (i := 1) rfl) (ev_str (s := " ")) (opd_cat_str (by simp only [lenA, len_mkS, List.length_append]; rw [PySem.sizeLine_eq]; omega))) (ev_cb1 (ev_op (ev_var (i := 2) rfl) (ev_op (ev_var (i := 4) rfl) (ev_int (i := 1)) opd_add) (opd_ixT (K := K) a1)) (cd_strI (log_small (small_int a3)))) (opd_cat_str (by simp only [lenA, len_mkS, List.length_append]; rw [PySem.sizeLine_eq]; omega))) ⟨.val (.d (.int (0 + (j : Int)))), ?_⟩
      refine congrArg (fun z : Str => ([.val (.d (mpD m)), .val (.d (.str z)), .val (.d (mkD n)), s3, .val (.d (.int (0 + (j : Int))))] : List Pw.Slot)) (TL.ext_tl ?_)
      rw [a2, wordsT_snoc (by rw [Ne, List.take_eq_nil_iff]; simp [markW])]
      simp only [TL.tl_append, tl_mkS, tl_sp]
      simp
    case dK =>
    rintro _ ⟨s4, rfl⟩
    have gm := grM _ (List.mem_map.mpr ⟨n, hm, rfl⟩)
    have lw : (wordsT (markW n)).length ≤ 336 := wordsT_len gm.ok gm.len
    rw [show (markW n).take (2 + (rangeD 0 (4 : Int).toNat).length) = markW n from rfl]
    show WP _ [.val (.d (mpD m)), .val (.d (.str (mkS (textL (m.nodes.map nodeW) ++ textL (m.lines.map lineW) ++ textL ((m.marks.map markW).take i) ++ wordsT (markW n))))), .val (.d (mkD n)), s3, s4] _
    refine' wp_asg (ev_op (ev_var (i := 1) rfl) (ev_str (s := "\n")) (opd_cat_str (by simp only [lenA, len_mkS, List.length_append]; rw [PySem.sizeLine_eq]; omega))) ⟨.val (.d (mkD n)), s4, ?_⟩
    refine congrArg (fun z : Str => ([.val (.d (mpD m)), .val (.d (.str z)), .val (.d (mkD n)), s3, s4] : List Pw.Slot)) (TL.ext_tl ?_)
    rw [take_snoc (by rw [List.getElem?_map, hni]; rfl), textL_snoc, TL.tl_append, tl_mkS, tl_mkS, tl_nl]
    simp
  case dM =>
  rintro _ ⟨s2, s4, rfl⟩
  rw [List.length_map, show (m.marks.map markW).take m.marks.length = m.marks.map markW from List.take_of_length_le (by rw [List.length_map]; exact Nat.le_refl _)]
  show WP _ _ _
  refine' wp_ret (ev_var rfl) ?_
  show _ = _
  congr 2
  refine TL.ext_tl ?_
  rw [tl_mkS, tl_text]
  unfold rowsOf textL
  rw [List.flatMap_append, List.flatMap_append, List.append_assoc]
end

end Pv

set_option Elab.async false
set_option linter.all false
set_option maxRecDepth 100000
/-! A def that may raise, called with all its arguments named. -/
namespace Pw
open PySem L2
section
variable {P : Program} {w : World} {K : PySem.W.Frag} {mg : Str → Option Value} {base : Heap}
def CalXW (P : Program) (w : World) (K : PySem.W.Frag) (mg : Str → Option Value) (base : Heap) (k : Nat) (x : Str) (ps : List Str) (sp : Sp) : Prop :=
  ∃ (f : Addr) (fd : FuncData), FnOk P w K mg base (L2.CX P w) k f fd ps sp ∧ mg x = some (.ref f) ∧ PySem.W.keepIn K (.ref f) = true ∧ ∀ (s : Shared) (ws : List Value), ws.length = ps.length → BindsTo s fd ⟨[], ps.zip ws⟩ (ps.zip ws)
theorem calXW_mk {x : Str} {s : Stmt} {N ps : List Str} {k : Nat} {sp : Sp} (D : Df K mg x s) (S : FnScope N ps (defScope s)) (len : ∀ vs H Q E, sp vs H Q E → vs.length = ps.length)
    (hb : ∀ (kV doc pm : Value) (an : Option Addr) (cdv ct : Value) (us : List Value), us.length = ps.length → bindArgs (PySem.W.fnOf x x (defArgs s) (defBody s) (defScope s) .none kV doc pm an cdv ct) ⟨[], ps.zip us⟩ = pure (ps.zip us))
    (hbody : ∀ (f : Addr) (cdv : Value) (A : Around) (outer : List Env) (st : Shared) (H : Hp) (vs : List V) (Q : VK) (E : XK), Room k (A.deeper (PyProof.Rows.envOfC x (defScope s) st.heap.objs.size f cdv)) → sp vs H Q E →
      ∃ t, PSs (cxOf (L2.CX P w) P w K mg base N x (defScope s) f cdv A outer st H E) (defBody s) t ∧ t { nx := fun _ H' => Q .non H', rt := Q } (L2.start N vs) H) : CalXW P w K mg base (k + 1) x ps sp := by
  obtain ⟨f, fd, F, hm⟩ := D
  refine ⟨f, fd, F.ok S len fun cdv A outer st H vs Q E hr h => hbody f cdv A outer st H vs Q E hr h, hm, F.kp, fun s us hl => ?_⟩
  obtain ⟨oc, od, dV, kV, doc, pm, an, cdv, ct, osl, rfl, lk, hcd, hD, hK⟩ := F.ex
  rcases hD with ⟨_, rfl⟩ | ⟨e, _⟩
  · exact .of_eq (hb kV doc pm an cdv ct us hl)
  · exact absurd rfl e
end
section
variable {X : Cx} {j k : Nat} {x : Str} {ps : List Str} {sp : Sp} {p pos : Pos} {kws : List Keyword} {t : TA} {W : WX}
theorem pe_calXKw (c : CalXW X.prog X.w X.K X.mg X.base k x ps sp) (hr : Room j X.A) (hk : k ≤ j) (tk : Takes X W) (hg : Gl X x) (hkw : PK X kws t) (hall : (backToKw pos (keywordEach kws X.env)).all (·.1.isSome) = true := by rfl) (hks : (backToKw pos (keywordEach kws X.env)).filterMap (·.1) = ps := by rfl)
    (hdb : (x == ("__debug__" : Str)) = false := by decide) (hpl : ((backTo pos (starEach [] X.env)).any (·.1) || (backToKw pos (keywordEach kws X.env)).any (·.1.isNone)) = false := by rfl) :
    PE X (.Call (.Name x p) [] kws pos) (tCallSD sp [] (fun σ cls d H => W cls d σ H) t) := by
  obtain ⟨f, fd, F, hm, kp, b⟩ := c
  refine ⟨fun pins s σ H Q I h => ?_⟩
  refine wpAny_Call_Name_kw (ld_glob I hg hm ?_ hdb)
  refine PySem.W.callWith_KW0 (h₀ := X.base) I.ok.mod.kin kp hall (thn (hkw.run pos pins s σ H _ I h) fun ws s2 ⟨zs, H2, I2, rz, q2⟩ => ⟨I2.kIn, ?_⟩) hpl
  rw [hks]
  have q2 : sp zs H2 Q ((fun σ cls d H => W cls d σ H) σ) := by
    have z : sp (zs ++ []) H2 Q ((fun σ cls d H => W cls d σ H) σ) := q2
    rw [List.append_nil] at z
    exact z
  have hl : ws.length = ps.length := by rw [← rz.length]; exact F.len _ _ _ _ q2
  show wpAny (model X.prog X.w) X.A (call (.ref f) ([] ++ []) (ps.zip ws)) (EP X pins σ Q) X.xe s2
  refine wpAny_call (codeAny_mono (F.run X.A X.stack s2 H2 ⟨[], ps.zip ws⟩ ws zs Q _ (hr.mono hk) I2.env0 (b s2 ws hl) rz q2) fun r s' hq => ?_)
  cases r with
  | error e => exact tk e s' (XE.of_call I2 (fun cls d H' h => h) hq)
  | ok fl =>
    cases fl with
    | ret u => exact I2.after hq
    | next => exact False.elim hq
    | brk => exact False.elim hq
    | cont => exact False.elim hq
end
end Pw

set_option Elab.async false
set_option linter.all false
set_option maxRecDepth 100000
set_option maxHeartbeats 4000000
open PySem L2 Pw Hd
namespace Pv

section
variable {P : Program} {w : World} {K : PySem.W.Frag} {mg : Str → Option Value} {base : Heap}
theorem ckx_printed (D : Df K mg "printed" s_printed) (T : Bt mg) (Y : Et P w K mg base) (c_words_of : Cal P w K mg base 1 "words_of" ["world"] (sp1 gWordsOf)) (c_is_map : Cal P w K mg base 5 "is_map" ["value"] (sp1 gMap)) : CalXW P w K mg base 6 "printed" ["world"] (spX (gPrint K)) := by
  have sc := sc_printed
  refine calXW_mk (k := 5) D sc (fun vs H Q E s => lenPrint s) (fun _ _ _ _ _ _ us hl => match us, hl with | [_], _ => rfl) (fun f cdv A outer st H vs Q E hr h => ?_)
  have tk := takes_of (X := cxOf (L2.CX P w) P w K mg base ["world", "words"] "printed" (defScope s_printed) f cdv A outer st H E) (E := E) rfl rfl rfl rfl
  refine ⟨_, (pss_cons (ps_if (pt_not (pt_val (pe_cal c_is_map hr (by decide) (by rfl) (pa_cons (pv 0) pa_nil)))) (pss_one (ps_raise rfl tk (pmk_exmk Y.i_BadValue (hr.mono (by decide)) (by rfl) (pa_cons pe_int pa_nil)))) pss_nil)
    (pss_one (ps_ret (pe_m1 PySem.F.slot_str_join PySem.F.type_str_join (mt_joinK K) pe_str (pe_lc (own := [("words", 1)]) rfl sc.nd (pi_LT K (pe_cal c_words_of hr (by decide) (by rfl) (pa_cons (pv 0) pa_nil))) (blkOk_by (by rfl)) (fun _ _ _ _ _ => (pg_name (i := 1) sc.nd rfl (Or.inl rfl))) (fun _ _ _ _ _ => pts_nil) (fun _ _ _ _ _ => (pe_op (op_plusK K) (pe_m1 PySem.F.slot_str_join PySem.F.type_str_join (mt_joinK K) pe_str (pv 1)) pe_str))))))), wp_spX h ?_⟩
  rintro ds r hg hl
  obtain ⟨a, rfl, hn, h⟩ := hg
  refine wp_seq ?_
  rcases h with ⟨hm, rfl⟩ | ⟨m, ok, lab, ht, hm, rfl⟩
  · refine' wp_if (et_not (b := false) (et_test (ev_c1 (ev_var rfl) ⟨hn, by rw [hm]⟩))) (fun _ => ?_) (fun z => by cases z)
    exact wp_raise1 ev_int ⟨rfl, rfl, rfl⟩
  · refine' wp_if (et_not (b := true) (et_test (ev_c1 (ev_var rfl) ⟨hn, by rw [hm]⟩))) (fun z => by cases z) (fun _ => wp_next ?_)
    show WP _ [.val (.d a), .non] _
    have gr := good_rows ok lab
    have rc := rows_count ok
    have src := ei_or1 (b := iTup K (tCall (sp1 gWordsOf) [] E (tCons (tVar 0) tNil))) (ei_list (K := K) (ρ := [.val (.d a), .non]) (ev_c1 (E := E) (f := gWordsOf) (ev_var (i := 0) rfl) ⟨m, ok, lab, ht, rfl⟩))
    rw [List.map_map] at src
    have lens : ∀ ws ∈ rowsOf m, (ws.map (·.length)).sum + ws.length * (" " : Str).length ≤ 700 := fun ws hw => by
      have g := gr ws hw
      have : ∀ l : List Str, (∀ w ∈ l, w.length ≤ 11) → (l.map (·.length)).sum ≤ l.length * 11 := by
        intro l
        induction l with
        | nil => intro _; simp
        | cons a l ih =>
          intro h
          have h1 := h a (by simp)
          have h2 := ih fun w hw => h w (by simp [hw])
          rw [List.map_cons, List.sum_cons, List.length_cons]
          omega
      have h1 := this ws fun w hw => (g.ok w hw).len
      have h2 := g.len
      have e : (" " : Str).length = 1 := by decide +kernel
      rw [e]
      omega
    have rl : ∀ ws ∈ rowsOf m, (Str.join (" " : Str) ws ++ ("\n" : Str)).length ≤ 340 := fun ws hw => by
      rw [TL.len_tl, tl_rowS]
      exact row_len (gr ws hw)
    refine' wp_ret (ev_join (a := Str.empty) (ys := (rowsOf m).map fun ws => Str.join (" " : Str) ws ++ ("\n" : Str)) ev_str (EO.vl ?lc) ?len) rfl
    case lc =>
      rw [List.map_map]
      refine' eo_lc1 (ρ := [.val (.d a), .non]) (ρ1 := [.val (.d a), .non]) (vs := [1]) (rowsOf m) (fun ws => .d (.tuple (ws.map PyData.str))) (fun ws => .str (Str.join (" " : Str) ws ++ ("\n" : Str))) (fun ws => [.d (.tuple (ws.map PyData.str))]) (EI.c src) (is := [1]) (fun j h => h) (fun j hj l c h => by simp only [List.mem_cons, List.not_mem_nil, or_false] at hj; subst hj; cases h) (by rw [PySem.sizeLine_eq]; omega) (fun ws hw => ⟨gt_name, ev_op (ev_joinT ev_str (ev_var (i := 1) rfl) (by have := lens ws hw; omega)) ev_str (opd_cat_str ?z)⟩)
      case z =>
        have h1 := rl ws hw
        rw [TL.len_tl, TL.tl_append, List.length_append, ← TL.len_tl, ← TL.len_tl] at h1
        rw [PySem.sizeLine_eq]
        omega
    case len =>
      have e : Str.empty.length = 0 := rfl
      rw [e, Nat.mul_zero, Nat.add_zero]
      have : ∀ l : List (List Str), (∀ ws ∈ l, ws ∈ rowsOf m) → ((l.map fun ws => Str.join (" " : Str) ws ++ ("\n" : Str)).map (·.length)).sum ≤ l.length * 340 := by
        intro l
        induction l with
        | nil => intro _; simp
        | cons a l ih =>
          intro h
          have h1 := rl a (h a (by simp))
          have h2 := ih fun w hw => h w (by simp [hw])
          rw [List.map_cons, List.map_cons, List.sum_cons, List.length_cons]
          omega
      have := this (rowsOf m) fun _ h => h
      omega
theorem ckx_parse (D : Df K mg "parse" s_parse) (T : Bt mg) (Y : Et P w K mg base) (c_with_words : Cal P w K mg base 6 "with_words" ["world", "words"] (sp2 gWithW)) : CalXW P w K mg base 7 "parse" ["text"] (spX (gParse K)) := by
  have sc := sc_parse
  refine calXW_mk (k := 6) D sc (fun vs H Q E s => lenParse s) (fun _ _ _ _ _ _ us hl => match us, hl with | [_], _ => rfl) (fun f cdv A outer st H vs Q E hr h => ?_)
  have tk := takes_of (X := cxOf (L2.CX P w) P w K mg base ["text", "world", "at", "line", "words", "word"] "parse" (defScope s_parse) f cdv A outer st H E) (E := E) rfl rfl rfl rfl
  refine ⟨_, (pss_cons (ps_if (pt_not (pt_val (pe_callB (call_isiK' K) (by rfl) T.b_isinstance (by decide +kernel) (pa_cons (pv 0) (pa_cons (pe_bltn (v := .ty "str") (by rfl) T.b_str (by decide +kernel) rfl) pa_nil))))) (pss_one (ps_raise rfl tk (pmk_exmk Y.i_BadText (hr.mono (by decide)) (by rfl) (pa_cons pe_int pa_nil)))) pss_nil)
    (pss_cons (ps_set (i := 1) sc.nd rfl (Or.inl rfl) (pe_tup (pa_cons (pe_tup pa_nil) (pa_cons (pe_tup pa_nil) (pa_cons (pe_tup pa_nil) pa_nil)))))
    (pss_cons (ps_for (passes_of rfl) rfl (pi_enumK K (by rfl) T.b_enumerate (pa_cons (pe_m1 PySem.F.slot_str_split PySem.F.type_str_split mt_splitK (pv 0) pe_str) pa_nil)) (pg_TL (n := 2) K rfl (pgs_cons (pg_name (i := 2) sc.nd rfl (Or.inl rfl)) (pgs_cons (pg_name (i := 3) sc.nd rfl (Or.inl rfl)) pgs_nil))) (pss_cons (ps_setLc (i := 4) (own := [("word", 5)]) rfl sc.nd rfl rfl (sw_true rfl rfl rfl (by decide +kernel)) (pi_LT K (pe_m1 PySem.F.slot_str_split PySem.F.type_str_split mt_splitK (pv 3) pe_str)) (blkOk_by (by rfl)) (fun _ _ _ _ _ => (pg_name (i := 5) sc.nd rfl (Or.inl rfl))) (fun _ _ _ _ _ => (pts_one (pt_truK K (pv 5)))) (fun _ _ _ _ _ => (pv 5)))
    (pss_cons (ps_if (pt_truK K (pv 4)) (pss_one (ps_set (i := 1) sc.nd rfl (Or.inl rfl) (pe_cal c_with_words hr (by decide) (by rfl) (pa_cons (pv 1) (pa_cons (pv 4) pa_nil))))) pss_nil)
    (pss_one (ps_if (pt_cmp (pc_isN (pv 1))) (pss_one (ps_raise rfl tk (pmk_exmk Y.i_BadText (hr.mono (by decide)) (by rfl) (pa_cons (pv 2) pa_nil)))) pss_nil)))))
    (pss_one (ps_ret (pv 1)))))), wp_spX h ?_⟩
  rintro ds r hg hl
  obtain ⟨a, rfl, h⟩ := hg
  refine wp_seq ?_
  rcases h with ⟨hs, rfl⟩ | ⟨t, rfl, ok, rfl⟩
  · have z := et_not (et_test (ev_isi (K := K) (ρ := [.val (.d a), .non, .non, .non, .non, .non]) (ev_var (i := 0) rfl) (kit_str a)))
    rw [hs] at z
    exact wp_if z (fun _ => wp_raise1 ev_int ⟨rfl, rfl, rfl⟩) (fun z => by cases z)
  have okl := ok.len
  refine' wp_if (et_not (b := true) (et_test (ev_isi (ev_var rfl) (kit_str _)))) (fun z => by cases z) (fun _ => wp_next ?_)
  show WP _ [.val (.d (.str t)), .non, .non, .non, .non, .non] _
  refine wp_seq ?_
  refine' wp_asg (x := .d (W3.mk [] [] []).d) (ev_tup (ds := [.tuple [], .tuple [], .tuple []]) (ea_cons (ev_tup (ds := []) ea_nil (Nat.zero_le _)) (ea_cons (ev_tup (ds := []) ea_nil (Nat.zero_le _)) (ea_cons (ev_tup (ds := []) ea_nil (Nat.zero_le _)) ea_nil))) (show 3 ≤ sizeLine by decide)) ?_
  show WP _ [.val (.d (.str t)), .val (.d (W3.mk [] [] []).d), .non, .non, .non, .non] _
  have src := ei_enumL (K := K) (EO.vl (eo_split (ρ := [.val (.d (.str t)), .val (.d (W3.mk [] [] []).d), .non, .non, .non, .non]) (c := 10) (ev_var (i := 0) rfl) (ev_str (s := "\n")) tl_nl (by decide) (by rw [PySem.sizeLine_eq]; omega)))
  have sp : (splitS 10 t).length ≤ t.length + 1 := by
    unfold splitS
    rw [List.length_map, TL.len_tl]
    exact cut_count 10 _
  obtain ⟨Ls, hL⟩ : ∃ Ls, splitS 10 t = Ls := ⟨_, rfl⟩
  rw [hL] at src sp ⊢
  have el : ((enumD (Ls.map PyData.str)).map Val.d).length = Ls.length := by rw [List.length_map, enumD, List.length_map, List.length_range, List.length_map]
  refine wp_seq ?_
  refine' wp_for (fun i ρ => ∃ (w : W3) (s2 s3 s4 s5 : Slot), ρ = [.val (.d (.str t)), .val (.d w.d), s2, s3, s4, s5] ∧ (∀ l c, s5 ≠ .own l c) ∧ w.Ok ∧ runT ((Ls.map wordsS).drop i) i w = runT (Ls.map wordsS) 0 ⟨[], [], []⟩) src ⟨_, _, _, _, _, rfl, (fun l c h => by cases h), empty_ok, rfl⟩ ?body ?done
  case done =>
    rintro _ ⟨w, s2, s3, s4, s5, rfl, _, ow, hr⟩
    rw [el] at hr
    rw [List.drop_of_length_le (by rw [List.length_map]; exact Nat.le_refl _)] at hr
    rw [← hr]
    show WP _ _ _
    exact wp_ret (ev_var rfl) rfl
  case body =>
    rintro i x _ hx ⟨w, s2, s3, s4, s5, rfl, hs5, ow, hr⟩
    have hi : i < Ls.length := by
      have := (List.getElem?_eq_some_iff.mp hx).1
      rw [el] at this
      exact this
    have hli : Ls[i]? = some Ls[i] := List.getElem?_eq_getElem hi
    have hm : Ls[i] ∈ splitS 10 t := by rw [hL]; exact List.getElem_mem hi
    have ex : x = .d (.tuple [.int (i : Nat), .str Ls[i]]) := by
      rw [List.getElem?_map, enumD, List.getElem?_map, List.getElem?_range (by rw [List.length_map]; exact hi)] at hx
      simp [List.getD_eq_getElem?_getD, hli] at hx
      exact hx.symm
    subst ex
    have er : (Ls.map wordsS).drop i = wordsS Ls[i] :: (Ls.map wordsS).drop (i + 1) := by
      rw [List.drop_eq_getElem_cons (by rw [List.length_map]; exact hi), List.getElem_map]
    rw [er] at hr
    rw [runT_cons] at hr
    have wne := words_ok ok hm
    have wt := words_tame ok hm
    have ll := line_len hm
    generalize Ls[i] = line at hr wne wt ll hli
    clear hli er hm
    refine ⟨_, gt_or1 (gt_tup (gts_cons gt_name (gts_cons gt_name gts_nil)) rfl), ?_⟩
    show WP _ [.val (.d (.str t)), .val (.d w.d), .val (.d (.int (i : Nat))), .val (.d (.str line)), s4, s5] _
    have ew : ((splitS 32 line).filter fun z => decide (TL.tl z ≠ [])) = wordsS line := rfl
    have lsz : ∀ z ∈ splitS 32 line, z.length ≤ sizeLine := fun z hz => by
      obtain ⟨p, hp, rfl⟩ := List.mem_map.mp hz
      have := cut_each hp
      rw [← TL.len_tl] at this
      rw [PySem.sizeLine_eq, TL.len_tl, tl_mkS]
      omega
    have sp2 : (splitS 32 line).length < sizeLine := by
      unfold splitS
      rw [List.length_map]
      have := cut_count 32 (TL.tl line)
      rw [← TL.len_tl] at this
      rw [PySem.sizeLine_eq]
      omega
    have src2 := ei_or1 (b := iTup K (tM1 rSplit (tVar 3) (tC (.str (" " : Str))))) (ei_list (K := K) (EO.vl (eo_split (ρ := [.val (.d (.str t)), .val (.d w.d), .val (.d (.int (i : Nat))), .val (.d (.str line)), s4, s5]) (c := 32) (ev_var (i := 3) rfl) (ev_str (s := " ")) tl_sp (by decide) (by rw [PySem.sizeLine_eq]; omega))))
    rw [List.map_map] at src2
    refine wp_seq ?_
    refine' wp_asg (x := .d (.list ((wordsS line).map PyData.str))) (EO.vl ?wl) ?_
    case wl =>
      rw [← ew]
      refine' eo_lc0 (ρ := [.val (.d (.str t)), .val (.d w.d), .val (.d (.int (i : Nat))), .val (.d (.str line)), s4, s5]) (ρ1 := [.val (.d (.str t)), .val (.d w.d), .val (.d (.int (i : Nat))), .val (.d (.str line)), s4, s5]) (vs := [5]) (splitS 32 line) (fun z => .d (.str z)) (fun z => decide (TL.tl z ≠ [])) (fun z => .str z) (fun z => [.d (.str z)]) (EI.c src2) (is := [5]) (fun j h => h) (fun j hj l c h => ?_) sp2 (fun z hz => ⟨gt_name, et_tru (ev_var (i := 5) rfl) ?_, fun _ => ev_var (i := 5) rfl⟩)
      · simp only [List.mem_cons, List.not_mem_nil, or_false] at hj
        subst hj
        exact hs5 l c (Option.some.inj h)
      · show (if z.length ≤ sizeLine then some (decide (TL.tl z ≠ [])) else none) = _
        rw [if_pos (lsz z hz)]
    show WP _ [.val (.d (.str t)), .val (.d w.d), .val (.d (.int (i : Nat))), .val (.d (.str line)), .val (.d (.list ((wordsS line).map PyData.str))), s5] _
    refine wp_seq ?_
    by_cases hw : wordsS line = []
    · rw [if_pos hw] at hr
      rw [hw]
      refine' wp_if (b := false) (et_tru (ev_var rfl) rfl) (fun z => by cases z) (fun _ => wp_next ?_)
      show WP _ [.val (.d (.str t)), .val (.d w.d), .val (.d (.int (i : Nat))), .val (.d (.str line)), .val (.d (.list [])), s5] _
      refine' wp_if (b := false) (et_b (ev_isN (a := w.d) (ev_var rfl))) (fun z => by cases z) (fun _ => wp_next ?_)
      exact ⟨w, _, _, _, _, rfl, hs5, ow, hr⟩
    · rw [if_neg hw] at hr
      have wo := wne hw
      have rn := row_nice wo wt
      have tr : truT (.list ((wordsS line).map PyData.str)) = some true := by
        cases q : wordsS line with
        | nil => exact absurd q hw
        | cons a b => rfl
      refine' wp_if (b := true) (et_tru (ev_var rfl) tr) (fun _ => ?_) (fun z => by cases z)
      refine' wp_asg (ev_c2 (E := E) (f := gWithW) (ev_var (i := 1) rfl) (ev_var (i := 4) rfl) ⟨w.a, w.b, w.c, wordsS line, rfl, rfl, wo, ow.la, ow.lb, ow.lc, fun k _ => ?nice, rfl⟩) ?_
      case nice =>
        rw [← add_d]
        obtain ⟨h1, h2, h3, h4, h5, h6⟩ := add_mem ow rn k
        exact W3.nice h1 h2 h3 h4 h5 h6
      rw [withD_step]
      cases q : stepT w (wordsS line) with
      | none =>
        rw [q] at hr
        have hr : Sum.inl i = runT (Ls.map wordsS) 0 ⟨[], [], []⟩ := hr
        show WP _ [.val (.d (.str t)), .val (.d .none), .val (.d (.int (i : Nat))), .val (.d (.str line)), .val (.d (.list ((wordsS line).map PyData.str))), s5] _
        refine' wp_if (b := true) (et_b (ev_isN (a := .none) (ev_var rfl))) (fun _ => ?_) (fun z => by cases z)
        rw [← hr]
        exact wp_raise1 (ev_var rfl) ⟨rfl, rfl, rfl⟩
      | some w' =>
        rw [q] at hr
        show WP _ [.val (.d (.str t)), .val (.d w'.d), .val (.d (.int (i : Nat))), .val (.d (.str line)), .val (.d (.list ((wordsS line).map PyData.str))), s5] _
        refine' wp_if (b := false) (et_b (ev_isN (a := w'.d) (ev_var rfl))) (fun z => by cases z) (fun _ => wp_next ?_)
        exact ⟨w', _, _, _, _, rfl, hs5, step_ok ow rn q, hr⟩
end

end Pv

set_option Elab.async false
set_option linter.all false
set_option maxRecDepth 100000
/-! PwParse7: the rows of a map's text make the map again; spaces and empty lines change nothing. -/
namespace Pv
open PySem L2 Pw TL PySem.NumText
def chainG (st : W3 → List Str → Option W3) : List (List Str) → W3 → Option W3
  | [], w => some w
  | ws :: r, w => match st w ws with
    | none => none
    | some w' => chainG st r w'
theorem chain_app (st : W3 → List Str → Option W3) : ∀ (a b : List (List Str)) (w : W3), chainG st (a ++ b) w = match chainG st a w with | none => none | some w' => chainG st b w'
  | [], b, w => rfl
  | ws :: a, b, w => by
    show (match st w ws with | none => none | some w' => chainG st (a ++ b) w') = match (match st w ws with | none => none | some w' => chainG st a w') with | none => none | some w' => chainG st b w'
    cases st w ws with
    | none => rfl
    | some w' => exact chain_app st a b w'
theorem run_chain (st : W3 → List Str → Option W3) : ∀ (Ws : List (List Str)) (i : Nat) (w w' : W3), chainG st (Ws.filter full) w = some w' → runG st Ws i w = .inr w'
  | [], i, w, w', h => by
    cases h; rfl
  | ws :: Ws, i, w, w', h => by
    rw [runG_cons]
    cases ws with
    | nil => rw [if_pos rfl]; exact run_chain st Ws (i + 1) w w' h
    | cons a r =>
      rw [if_neg (by simp)]
      have h : (match st w (a :: r) with | none => none | some w' => chainG st (Ws.filter full) w') = some w' := h
      cases q : st w (a :: r) with
      | none => rw [q] at h; cases h
      | some v => rw [q] at h; exact run_chain st Ws (i + 1) v w' h
/-! ### the first rows of a map -/
def preM (m : Mp) (i j k : Nat) : Mp := ⟨m.nodes.take i, m.lines.take j, m.marks.take k⟩
def preW (m : Mp) (i j k : Nat) : W3 := ⟨(m.nodes.take i).map ndD, (m.lines.take j).map lnD, (m.marks.take k).map mkD⟩
theorem preW_d (m : Mp) (i j k : Nat) : (preW m i j k).d = mpD (preM m i j k) := rfl
theorem pre_ok {m : Mp} (ok : m.Ok) {i j k : Nat} (h : j = 0 ∨ m.nodes.length ≤ i) : (preM m i j k).Ok where
  nn := (ok.nn).sublist ((List.take_sublist _ _).map _)
  ln := (ok.ln).sublist ((List.take_sublist _ _).map _)
  mn := (ok.mn).sublist ((List.take_sublist _ _).map _)
  hs := fun l hl => by
    rcases h with h | h
    · subst h; simp [preM] at hl
    · show l.s ∈ (m.nodes.take i).map (·.name)
      rw [List.take_of_length_le h]; exact ok.hs l (List.mem_of_mem_take hl)
  he := fun l hl => by
    rcases h with h | h
    · subst h; simp [preM] at hl
    · show l.e ∈ (m.nodes.take i).map (·.name)
      rw [List.take_of_length_le h]; exact ok.he l (List.mem_of_mem_take hl)
  hd := fun l hl => ok.hd l (List.mem_of_mem_take hl)
  cn := by have := ok.cn; show (m.nodes.take i).length ≤ 16; rw [List.length_take]; omega
  cl := by have := ok.cl; show (m.lines.take j).length ≤ 16; rw [List.length_take]; omega
  cm := by have := ok.cm; show (m.marks.take k).length ≤ 10; rw [List.length_take]; omega
  cc := fun l hl => ok.cc l (List.mem_of_mem_take hl)
  fn := fun n hn => ok.fn n (List.mem_of_mem_take hn)
  fc := fun l hl => ok.fc l (List.mem_of_mem_take hl)
  fm := fun n hn => ok.fm n (List.mem_of_mem_take hn)
  tn := fun n hn => ok.tn n (List.mem_of_mem_take hn)
  tl := fun n hn => ok.tl n (List.mem_of_mem_take hn)
  tm := fun n hn => ok.tm n (List.mem_of_mem_take hn)
theorem tot_take (ls : List Ln) (j : Nat) : totOf (ls.take j) ≤ totOf ls := by
  have e : totOf ls = totOf (ls.take j) + totOf (ls.drop j) := by
    unfold totOf
    rw [← List.sum_append, ← List.map_append, List.take_append_drop]
  have : 0 ≤ totOf (ls.drop j) := by
    unfold totOf
    induction ls.drop j with
    | nil => simp
    | cons a l ih => rw [List.map_cons, List.sum_cons]; omega
  omega
theorem pre_map {m : Mp} (ok : m.Ok) (tot : totOf m.lines ≤ 60) (lab : Lab m) {i j k : Nat} (h : j = 0 ∨ m.nodes.length ≤ i) : mapZ (preW m i j k).d = true ∧ lawB (preW m i j k).d = true := by
  rw [preW_d]
  have o := pre_ok (k := k) ok h
  have z := mapZ_mpD o (by have := tot_take m.lines j; show totOf (m.lines.take j) ≤ 60; omega) fun x hx => lab x (List.mem_of_mem_take hx)
  exact ⟨z, by rw [lawB_eq (snd_mp o).1]; exact z⟩
/-! ### rows -/
theorem ne_nl : ¬ ("node" : Str) = ("line" : Str) := by decide +kernel
theorem ne_ml : ¬ ("mark" : Str) = ("line" : Str) := by decide +kernel
theorem ne_mn : ¬ ("mark" : Str) = ("node" : Str) := by decide +kernel
theorem ne_ln : ¬ ("line" : Str) = ("node" : Str) := by decide +kernel
theorem ne_lm : ¬ ("line" : Str) = ("mark" : Str) := by decide +kernel
theorem rowD_node {n : Nd} (f : Far n.p) : rowD (nodeW n) = ndD n := by
  unfold rowD
  rw [if_neg (show ¬ (nodeW n).getD 0 Str.empty = _ from ne_nl)]
  show PyData.tuple [.str n.name, numD (numS n.p.1), numD (numS n.p.2)] = _
  rw [numD_back _ f.1, numD_back _ f.2]; rfl
theorem rowN_node {n : Nd} (f : Far n.p) : rowN (nodeW n) = ndD n := by
  show PyData.tuple [.str n.name, intD (numS n.p.1), intD (numS n.p.2)] = _
  rw [intD_back _ f.1, intD_back _ f.2]; rfl
theorem rowD_mark {n : Mk} (f : Far n.p) (g : (0 ≤ n.wide ∧ n.wide ≤ 1000000) ∧ 0 ≤ n.high ∧ n.high ≤ 1000000) : rowD (markW n) = mkD n := by
  unfold rowD
  rw [if_neg (show ¬ (markW n).getD 0 Str.empty = _ from ne_ml)]
  show PyData.tuple [.str n.name, numD (numS n.p.1), numD (numS n.p.2), numD (numS n.wide), numD (numS n.high)] = _
  rw [numD_back _ f.1, numD_back _ f.2, numD_back _ (by omega), numD_back _ (by omega)]; rfl
theorem rowN_mark {n : Mk} (f : Far n.p) (g : (0 ≤ n.wide ∧ n.wide ≤ 1000000) ∧ 0 ≤ n.high ∧ n.high ≤ 1000000) : rowN (markW n) = mkD n := by
  show PyData.tuple [.str n.name, intD (numS n.p.1), intD (numS n.p.2), intD (numS n.wide), intD (numS n.high)] = _
  rw [intD_back _ f.1, intD_back _ f.2, intD_back _ (by omega), intD_back _ (by omega)]; rfl
theorem nums_back {F : Str → PyData} (hF : ∀ n : Int, (-1000000000 ≤ n ∧ n ≤ 1000000000) → F (numS n) = .int n) : ∀ {cs : List Pt}, (∀ c ∈ cs, Far c) → (cs.flatMap fun p => [numS p.1, numS p.2]).map F = cs.flatMap fun p => [PyData.int p.1, .int p.2]
  | [], _ => rfl
  | p :: cs, h => by
    have f := h p (by simp)
    rw [List.flatMap_cons, List.map_append, nums_back hF fun c hc => h c (by simp [hc])]
    show [F (numS p.1), F (numS p.2)] ++ _ = _
    rw [hF _ f.1, hF _ f.2]; rfl
theorem pairs_of : ∀ cs : List Pt, pairsD (cs.flatMap fun p => [PyData.int p.1, .int p.2]) = cs.map ptD
  | [] => rfl
  | p :: cs => by
    show PyData.tuple [.int p.1, .int p.2] :: pairsD (cs.flatMap fun p => [PyData.int p.1, .int p.2]) = _
    rw [pairs_of cs]; rfl
theorem pairs2_cons (a b : PyData) (r : List PyData) : pairs2 (a :: b :: r) = .tuple [a, b] :: pairs2 r := by
  unfold pairs2
  have e : (a :: b :: r).length / 2 = r.length / 2 + 1 := by simp only [List.length_cons]; omega
  rw [e, List.range_succ_eq_map, List.map_cons, List.map_map]
  congr 1
theorem pairs2_of : ∀ cs : List Pt, pairs2 (cs.flatMap fun p => [PyData.int p.1, .int p.2]) = cs.map ptD
  | [] => rfl
  | p :: cs => by
    show pairs2 (.int p.1 :: .int p.2 :: cs.flatMap fun p => [PyData.int p.1, .int p.2]) = _
    rw [pairs2_cons, pairs2_of cs]; rfl
theorem rowD_line {l : Ln} (f : ∀ c ∈ l.cs, Far c) : rowD (lineW l) = lnD l := by
  unfold rowD
  rw [if_pos (show (lineW l).getD 0 Str.empty = ("line" : Str) from rfl)]
  show PyData.tuple ([.str l.name, .str l.s, .str l.e] ++ [.tuple (pairsD ((l.cs.flatMap fun p => [numS p.1, numS p.2]).map numD))]) = _
  rw [nums_back numD_back f, pairs_of]; rfl
theorem rowP_line {l : Ln} (f : ∀ c ∈ l.cs, Far c) : rowP (lineW l) = lnD l := by
  show PyData.tuple [.str l.name, .str l.s, .str l.e, .tuple (pairs2 ((l.cs.flatMap fun p => [numS p.1, numS p.2]).map intD))] = _
  rw [nums_back intD_back f, pairs2_of]; rfl
theorem take_map_snoc {α : Type} {l : List α} {i : Nat} {a : α} (f : α → PyData) (h : l[i]? = some a) : (l.take (i + 1)).map f = (l.take i).map f ++ [f a] := by
  rw [take_snoc h, List.map_append]; rfl
section
variable {m : Mp}
theorem step_node (ok : m.Ok) (tot : totOf m.lines ≤ 60) (lab : Lab m) {i : Nat} {n : Nd} (h : m.nodes[i]? = some n) : stepT (preW m i 0 0) (nodeW n) = some (preW m (i + 1) 0 0) ∧ readT (preW m i 0 0) (nodeW n) = some (preW m (i + 1) 0 0) := by
  have f := ok.fn n (List.mem_of_getElem? h)
  have z := pre_map ok tot lab (i := i + 1) (j := 0) (k := 0) (.inl rfl)
  have e : (preW m i 0 0).add (ndD n) 0 = preW m (i + 1) 0 0 := by
    show W3.mk ((m.nodes.take i).map ndD ++ [ndD n]) _ _ = _
    rw [← take_map_snoc ndD h]; rfl
  constructor
  · unfold stepT
    rw [show kindAt ((nodeW n).getD 0 Str.empty) = some 0 from kind_node, rowD_node f]
    dsimp only
    rw [e, if_neg (by show ¬ laterB [] [] 0 = true; decide), if_pos z.1]
  · unfold readT
    rw [if_pos (show isW ("node" : Str) 4 (nodeW n) = true by unfold isW; rw [decide_eq_true (show (nodeW n).getD 0 Str.empty = ("node" : Str) from rfl)]; rfl), rowN_node f, e, if_pos (by rw [z.2]; rfl)]
theorem step_line (ok : m.Ok) (tot : totOf m.lines ≤ 60) (lab : Lab m) {j : Nat} {l : Ln} (h : m.lines[j]? = some l) : stepT (preW m m.nodes.length j 0) (lineW l) = some (preW m m.nodes.length (j + 1) 0) ∧ readT (preW m m.nodes.length j 0) (lineW l) = some (preW m m.nodes.length (j + 1) 0) := by
  have f := ok.fc l (List.mem_of_getElem? h)
  have z := pre_map ok tot lab (i := m.nodes.length) (j := j + 1) (k := 0) (.inr (Nat.le_refl _))
  have e : (preW m m.nodes.length j 0).add (lnD l) 1 = preW m m.nodes.length (j + 1) 0 := by
    show W3.mk _ ((m.lines.take j).map lnD ++ [lnD l]) _ = _
    rw [← take_map_snoc lnD h]; rfl
  constructor
  · unfold stepT
    rw [show kindAt ((lineW l).getD 0 Str.empty) = some 1 from kind_line, rowD_line f]
    dsimp only
    rw [e, if_neg (by show ¬ (!(List.map mkD (m.marks.take 0)).isEmpty) = true; simp), if_pos z.1]
  · have i1 : isW ("node" : Str) 4 (lineW l) = false := by
      unfold isW; rw [decide_eq_false (show ¬ (lineW l).getD 0 Str.empty = ("node" : Str) from ne_ln)]; rfl
    have i2 : isW ("mark" : Str) 6 (lineW l) = false := by
      unfold isW; rw [decide_eq_false (show ¬ (lineW l).getD 0 Str.empty = ("mark" : Str) from ne_lm)]; rfl
    have el : (lineW l).length = 4 + 2 * l.cs.length := by
      show (l.cs.flatMap fun p => [numS p.1, numS p.2]).length + 1 + 1 + 1 + 1 = _
      rw [two_len]; omega
    have i3 : badL (lineW l) = false := by
      unfold badL
      rw [decide_eq_true (show (lineW l).getD 0 Str.empty = ("line" : Str) from rfl), el, decide_eq_false (by omega), decide_eq_true (by omega)]; rfl
    unfold readT
    rw [if_neg (by rw [i1]; decide), if_neg (by rw [i2]; decide), if_neg (by rw [i3]; decide), rowP_line f, e, if_pos (by rw [z.2]; rfl)]
theorem step_mark (ok : m.Ok) (tot : totOf m.lines ≤ 60) (lab : Lab m) {k : Nat} {n : Mk} (h : m.marks[k]? = some n) : stepT (preW m m.nodes.length m.lines.length k) (markW n) = some (preW m m.nodes.length m.lines.length (k + 1)) ∧ readT (preW m m.nodes.length m.lines.length k) (markW n) = some (preW m m.nodes.length m.lines.length (k + 1)) := by
  have f := ok.fm n (List.mem_of_getElem? h)
  have g := lab n (List.mem_of_getElem? h)
  have z := pre_map ok tot lab (i := m.nodes.length) (j := m.lines.length) (k := k + 1) (.inr (Nat.le_refl _))
  have e : (preW m m.nodes.length m.lines.length k).add (mkD n) 2 = preW m m.nodes.length m.lines.length (k + 1) := by
    show W3.mk _ _ ((m.marks.take k).map mkD ++ [mkD n]) = _
    rw [← take_map_snoc mkD h]; rfl
  constructor
  · unfold stepT
    rw [show kindAt ((markW n).getD 0 Str.empty) = some 2 from kind_mark, rowD_mark f g]
    dsimp only
    rw [e, if_neg (by show ¬ false = true; decide), if_pos z.1]
  · have i1 : isW ("node" : Str) 4 (markW n) = false := by
      unfold isW; rw [decide_eq_false (show ¬ (markW n).getD 0 Str.empty = ("node" : Str) from ne_mn)]; rfl
    have i2 : isW ("mark" : Str) 6 (markW n) = true := by
      unfold isW; rw [decide_eq_true (show (markW n).getD 0 Str.empty = ("mark" : Str) from rfl)]; rfl
    unfold readT
    rw [if_neg (by rw [i1]; decide), if_pos i2, rowN_mark f g, e, if_pos z.2]
theorem chain_take {α : Type} (st : W3 → List Str → Option W3) (l : List α) (f : α → List Str) (W : Nat → W3) (hs : ∀ i a, l[i]? = some a → st (W i) (f a) = some (W (i + 1))) : ∀ i, i ≤ l.length → chainG st ((l.take i).map f) (W 0) = some (W i)
  | 0, _ => rfl
  | i + 1, h => by
    have hi : l[i]? = some l[i] := List.getElem?_eq_getElem (by omega)
    rw [take_snoc hi, List.map_append, chain_app, chain_take st l f W hs i (by omega)]
    show (match st (W i) (f l[i]) with | none => none | some w' => some w') = _
    rw [hs i _ hi]
theorem chain_all {st : W3 → List Str → Option W3} {m : Mp} (hN : ∀ i n, m.nodes[i]? = some n → st (preW m i 0 0) (nodeW n) = some (preW m (i + 1) 0 0))
    (hL : ∀ j l, m.lines[j]? = some l → st (preW m m.nodes.length j 0) (lineW l) = some (preW m m.nodes.length (j + 1) 0))
    (hM : ∀ k n, m.marks[k]? = some n → st (preW m m.nodes.length m.lines.length k) (markW n) = some (preW m m.nodes.length m.lines.length (k + 1))) :
    chainG st (rowsOf m) ⟨[], [], []⟩ = some (preW m m.nodes.length m.lines.length m.marks.length) := by
  have h1 := chain_take st m.nodes nodeW (fun i => preW m i 0 0) hN m.nodes.length (Nat.le_refl _)
  have h2 := chain_take st m.lines lineW (fun j => preW m m.nodes.length j 0) hL m.lines.length (Nat.le_refl _)
  have h3 := chain_take st m.marks markW (fun k => preW m m.nodes.length m.lines.length k) hM m.marks.length (Nat.le_refl _)
  rw [List.take_length] at h1 h2 h3
  unfold rowsOf
  have e : (⟨[], [], []⟩ : W3) = preW m 0 0 0 := by simp [preW]
  rw [e, chain_app, h1]
  dsimp only
  rw [chain_app, h2]
  dsimp only
  rw [h3]
theorem full_d (m : Mp) : (preW m m.nodes.length m.lines.length m.marks.length).d = mpD m := by
  show mpD (preM m m.nodes.length m.lines.length m.marks.length) = _
  unfold preM
  rw [List.take_length, List.take_length, List.take_length]
end
/-! ### texts that tell a map -/
structure CutOk (m : Mp) (c : Str) : Prop where
  rows : rowsW (tl c) = (rowsOf m).map fun ws => ws.map tl
  len : c.length ≤ 60000
  sg : ∀ s ∈ tl c, s < 1114112
theorem wordsS_mk (p : List Nat) : wordsS (mkS p) = (wordsL p).map mkS := by
  unfold wordsS splitS wordsL
  rw [tl_mkS, List.filter_map]
  congr 1
  refine List.filter_congr fun q _ => ?_
  show decide (tl (mkS q) ≠ []) = full q
  rw [tl_mkS]
  cases q <;> rfl
theorem rows_cutS {c : Str} : ((splitS 10 c).map wordsS).filter full = (rowsW (tl c)).map fun ps => ps.map mkS := by
  unfold splitS rowsW
  rw [List.map_map, List.filter_map, List.filter_map, List.map_map]
  have e : ∀ p : List Nat, (wordsS ∘ mkS) p = (wordsL p).map mkS := wordsS_mk
  have e1 : (cutL 10 (tl c)).filter (full ∘ (wordsS ∘ mkS)) = (cutL 10 (tl c)).filter (full ∘ wordsL) := List.filter_congr fun p _ => by
    show full ((wordsS ∘ mkS) p) = full (wordsL p)
    rw [e]
    cases wordsL p <;> rfl
  rw [e1]
  exact List.map_congr_left fun p _ => e p
theorem cut_words {m : Mp} {c : Str} (h : CutOk m c) : ((splitS 10 c).map wordsS).filter full = rowsOf m := by
  rw [rows_cutS, h.rows, List.map_map]
  refine (List.map_congr_left fun ws _ => ?_).trans (List.map_id _)
  show (ws.map tl).map mkS = id ws
  rw [List.map_map]
  exact (List.map_congr_left fun w _ => mkS_tl w).trans (List.map_id _)
theorem cut_text {m : Mp} {c : Str} (ok : m.Ok) (lab : Lab m) (h : CutOk m c) : TextOk c := by
  refine ⟨h.len, h.sg, fun l hl w hw => ?_⟩
  have hm : wordsS l ∈ ((splitS 10 c).map wordsS).filter full := List.mem_filter.mpr ⟨List.mem_map.mpr ⟨l, hl, rfl⟩, by
    cases q : wordsS l with
    | nil => rw [q] at hw; cases hw
    | cons a r => rfl⟩
  rw [cut_words h] at hm
  have := ((good_rows ok lab _ hm).ok w hw).len
  omega
theorem run_cut {m : Mp} {c : Str} (ok : m.Ok) (tot : totOf m.lines ≤ 60) (lab : Lab m) (h : CutOk m c) :
    runT ((splitS 10 c).map wordsS) 0 ⟨[], [], []⟩ = .inr (preW m m.nodes.length m.lines.length m.marks.length) ∧ runG readT ((splitS 10 c).map wordsS) 0 ⟨[], [], []⟩ = .inr (preW m m.nodes.length m.lines.length m.marks.length) := by
  constructor
  · refine run_chain stepT _ _ _ _ ?_
    rw [cut_words h]
    exact chain_all (fun i n q => (step_node ok tot lab q).1) (fun j l q => (step_line ok tot lab q).1) (fun k n q => (step_mark ok tot lab q).1)
  · refine run_chain readT _ _ _ _ ?_
    rw [cut_words h]
    exact chain_all (fun i n q => (step_node ok tot lab q).2) (fun j l q => (step_line ok tot lab q).2) (fun k n q => (step_mark ok tot lab q).2)
theorem text_sg {m : Mp} (ok : m.Ok) (lab : Lab m) : ∀ s ∈ tl (textS m), s < 1114112 := by
  have words : ∀ ws ∈ rowsOf m, ∀ w ∈ ws, ∀ s ∈ tl w, s < 1114112 := by
    have num : ∀ n : Int, ∀ s ∈ tl (numS n), s < 1114112 := fun n s hs => by have := numS_signs n s hs; omega
    have nam : ∀ z : Str, nameZ (.str z) = true → ∀ s ∈ tl z, s < 1114112 := fun z hz s hs => by
      have hz : ((decide ((1 : Int) ≤ z.length) && decide ((z.length : Int) ≤ 8)) && (tl z).all fun c => decide (c ∈ Pw.letters)) = true := hz
      simp only [Bool.and_eq_true, List.all_eq_true, decide_eq_true_eq] at hz
      have := hz.2 s hs
      rw [letters_eq] at this
      simp only [List.mem_cons, List.not_mem_nil, or_false] at this
      omega
    have kin : ∀ z ∈ kindsS, ∀ s ∈ tl z, s < 1114112 := by decide +kernel
    intro ws h w hw
    unfold rowsOf at h
    rcases List.mem_append.mp h with h | h
    · obtain ⟨n, hn, rfl⟩ := List.mem_map.mp h
      simp only [nodeW, List.mem_cons, List.not_mem_nil, or_false] at hw
      rcases hw with rfl | rfl | rfl | rfl
      · exact kin _ (by simp [kindsS])
      · exact nam _ (ok.tn n hn)
      · exact num _
      · exact num _
    rcases List.mem_append.mp h with h | h
    · obtain ⟨l, hl, rfl⟩ := List.mem_map.mp h
      simp only [lineW, List.mem_cons] at hw
      rcases hw with rfl | rfl | rfl | rfl | hw
      · exact kin _ (by simp [kindsS])
      · exact nam _ (ok.tl l hl)
      · exact nam _ (name_of ok (ok.hs l hl))
      · exact nam _ (name_of ok (ok.he l hl))
      · obtain ⟨p, hp, hw⟩ := List.mem_flatMap.mp hw
        simp only [List.mem_cons, List.not_mem_nil, or_false] at hw
        rcases hw with rfl | rfl <;> exact num _
    · obtain ⟨n, hn, rfl⟩ := List.mem_map.mp h
      simp only [markW, List.mem_cons, List.not_mem_nil, or_false] at hw
      rcases hw with rfl | rfl | rfl | rfl | rfl | rfl
      · exact kin _ (by simp [kindsS])
      · exact nam _ (ok.tm n hn)
      · exact num _
      · exact num _
      · exact num _
      · exact num _
  have jn : ∀ (ps : List (List Nat)), (∀ p ∈ ps, ∀ s ∈ p, s < 1114112) → ∀ s ∈ joinL [32] ps, s < 1114112 := by
    intro ps
    induction ps with
    | nil => intro _ s hs; cases hs
    | cons p ps ih =>
      intro h s hs
      cases ps with
      | nil => exact h p (by simp) s hs
      | cons q r =>
        have hs : s ∈ p ++ ([32] ++ joinL [32] (q :: r)) := hs
        rcases List.mem_append.mp hs with hs | hs
        · exact h p (by simp) s hs
        · rcases List.mem_append.mp hs with hs | hs
          · simp at hs; omega
          · exact ih (fun x hx => h x (by simp [hx])) s hs
  intro s hs
  rw [tl_text] at hs
  obtain ⟨ws, hw, hs⟩ := List.mem_flatMap.mp hs
  unfold rowL at hs
  rcases List.mem_append.mp hs with hs | hs
  · refine jn _ (fun p hp => ?_) s hs
    obtain ⟨w, hw2, rfl⟩ := List.mem_map.mp hp
    exact words ws hw w hw2
  · simp at hs; omega
theorem text_cut {m : Mp} (ok : m.Ok) (lab : Lab m) : CutOk m (textS m) := by
  refine ⟨by rw [tl_text]; exact text_rows (good_rows ok lab), ?_, text_sg ok lab⟩
  rw [len_tl, tl_text]
  have h1 := text_len (good_rows ok lab)
  have h2 := rows_count ok
  omega
end Pv

set_option Elab.async false
set_option linter.all false
set_option maxRecDepth 100000
/-! PwParse8: the text grown with spaces and empty lines. -/
namespace Pv
open PySem L2 Pw TL PySem.NumText
def lineC (l : Str) : Nat := 4 * l.length + 16
def lineT (l : Str) : Int := (l.length : Int) + 8
/-- what the first lines have become -/
structure SpOk (Ls : List Str) (sp : Str) : Prop where
  rows : rowsW (tl sp) = (Ls.map fun l => wordsL (tl l)).filter full
  lin : Lines (tl sp)
  len : sp.length ≤ (Ls.map lineC).sum
  sg : ∀ s ∈ tl sp, s < 1114112
theorem sp_nil : SpOk [] (mkS []) := ⟨rfl, .inl rfl, Nat.zero_le _, by simp [tl_mkS]⟩
/-- .. with some empty lines behind -/
structure SpB (Ls : List Str) (b : Nat) (sp : Str) : Prop where
  rows : rowsW (tl sp) = (Ls.map fun l => wordsL (tl l)).filter full
  lin : Lines (tl sp)
  len : sp.length ≤ (Ls.map lineC).sum + 3 * b
  sg : ∀ s ∈ tl sp, s < 1114112
theorem sp_b {Ls : List Str} {sp : Str} (h : SpOk Ls sp) : SpB Ls 0 sp := ⟨h.rows, h.lin, by have := h.len; omega, h.sg⟩
theorem tl_space : tl (" " : Str) = [32] := tl_sp
theorem mem_rep {k s : Nat} (h : s ∈ List.replicate k 32) : s = 32 := List.eq_of_mem_replicate h
theorem sp_blank {Ls : List Str} {b : Nat} {sp : Str} (h : SpB Ls b sp) {n : Int} (h0 : 0 ≤ n) (h1 : n ≤ 2) : SpB Ls (b + 1) ((sp ++ repS (" " : Str) n) ++ ("\n" : Str)) := by
  have e : tl ((sp ++ repS (" " : Str) n) ++ ("\n" : Str)) = tl sp ++ List.replicate n.toNat 32 ++ [10] := by
    rw [tl_append, tl_append, tl_blanks _ tl_sp, tl_nl]
  have nf : 10 ∉ List.replicate n.toNat 32 := fun z => by have := mem_rep z; omega
  have wb : wordsL (List.replicate n.toNat 32) = [] := by have := words_blank [] n.toNat; rw [List.nil_append] at this; exact this
  refine ⟨?_, ?_, ?_, ?_⟩
  · rw [e, rows_line h.lin nf, wb, if_pos rfl, List.append_nil, h.rows]
  · rw [e]; exact Lines.app
  · have := h.len
    rw [len_tl, e, List.length_append, List.length_append, List.length_replicate, List.length_singleton, ← len_tl]
    omega
  · intro s hs
    rw [e] at hs
    rcases List.mem_append.mp hs with hs | hs
    · rcases List.mem_append.mp hs with hs | hs
      · exact h.sg s hs
      · have := mem_rep hs; omega
    · simp at hs; omega
/-- .. and the first words of a line -/
structure SpW (Ls : List Str) (ps : List Str) (sp : Str) : Prop where
  ex : ∃ s0 q : List Nat, tl sp = s0 ++ q ∧ Lines s0 ∧ rowsW s0 = (Ls.map fun l => wordsL (tl l)).filter full ∧ 10 ∉ q ∧ wordsL q = (ps.map tl).filter full ∧
    s0.length ≤ (Ls.map lineC).sum + 6 ∧ q.length ≤ (ps.map fun p => p.length + 3).sum
  sg : ∀ s ∈ tl sp, s < 1114112
theorem sp_w {Ls : List Str} {b : Nat} {sp : Str} (h : SpB Ls b sp) (hb : b ≤ 2) : SpW Ls [] sp :=
  ⟨⟨tl sp, [], by simp, h.lin, h.rows, by simp, rfl, by have := h.len; rw [← len_tl]; omega, by simp⟩, h.sg⟩
theorem sp_word {Ls ps : List Str} {sp p : Str} (h : SpW Ls ps sp) {n : Int} (h0 : 0 ≤ n) (h1 : n ≤ 2) (hs : 32 ∉ tl p) (hn : 10 ∉ tl p) (hg : ∀ s ∈ tl p, s < 1114112) :
    SpW Ls (ps ++ [p]) ((sp ++ repS (" " : Str) (1 + n)) ++ p) := by
  obtain ⟨s0, q, e, hl, hr, h10, hw, l0, lq⟩ := h.ex
  have e2 : List.replicate (1 + n).toNat 32 = List.replicate n.toNat 32 ++ [32] := by
    rw [show (1 + n).toNat = n.toNat + 1 by omega, List.replicate_succ']
  refine ⟨⟨s0, q ++ List.replicate n.toNat 32 ++ 32 :: tl p, ?_, hl, hr, ?_, ?_, l0, ?_⟩, ?_⟩
  · rw [tl_append, tl_append, tl_blanks _ tl_sp, e, e2]; simp
  · intro z
    rcases List.mem_append.mp z with z | z
    · rcases List.mem_append.mp z with z | z
      · exact h10 z
      · have := mem_rep z; omega
    · rcases List.mem_cons.mp z with z | z
      · omega
      · exact hn z
  · rw [words_app, words_blank, hw, words_free hs, List.map_append, List.filter_append]
    congr 1
    show _ = [tl p].filter full
    by_cases z : tl p = []
    · rw [if_pos z, z]; rfl
    · rw [if_neg z]
      cases y : tl p with
      | nil => exact absurd y z
      | cons a r => rfl
  · rw [List.length_append, List.length_append, List.length_replicate, List.length_cons, List.map_append, List.sum_append, ← len_tl]
    simp only [List.map_cons, List.map_nil, List.sum_cons, List.sum_nil]
    omega
  · intro s hs'
    rw [tl_append, tl_append, tl_blanks _ tl_sp] at hs'
    rcases List.mem_append.mp hs' with z | z
    · rcases List.mem_append.mp z with z | z
      · exact h.sg s z
      · have := mem_rep z; omega
    · exact hg s z
theorem sum_pieces (c : Nat) (l : Str) : ((splitS c l).map fun p => p.length + 3).sum ≤ 4 * l.length + 3 := by
  have h := cutL_len c (tl l)
  have hne : 0 < (cutL c (tl l)).length := List.length_pos_iff.mpr (cutL_ne c _)
  have e : ∀ ps : List (List Nat), ((ps.map mkS).map fun p => p.length + 3).sum = (ps.map List.length).sum + 3 * ps.length := by
    intro ps
    induction ps with
    | nil => rfl
    | cons a r ih => rw [List.map_cons, List.map_cons, List.sum_cons, ih, len_mkS, List.map_cons, List.sum_cons, List.length_cons]; omega
  unfold splitS
  rw [e, len_tl]
  omega
theorem sp_end {Ls : List Str} {sp l : Str} (h : SpW Ls (splitS 32 l) sp) {n : Int} (h0 : 0 ≤ n) (h1 : n ≤ 1) : SpOk (Ls ++ [l]) ((sp ++ repS (" " : Str) n) ++ ("\n" : Str)) := by
  obtain ⟨s0, q, e, hl, hr, h10, hw, l0, lq⟩ := h.ex
  have et : tl ((sp ++ repS (" " : Str) n) ++ ("\n" : Str)) = s0 ++ (q ++ List.replicate n.toNat 32) ++ [10] := by
    rw [tl_append, tl_append, tl_blanks _ tl_sp, tl_nl, e]; simp
  have ew : wordsL (q ++ List.replicate n.toNat 32) = wordsL (tl l) := by
    rw [words_blank, hw]
    unfold wordsL splitS
    rw [List.map_map]
    congr 1
    exact (List.map_congr_left fun p _ => tl_mkS p).trans (List.map_id _)
  have nf : 10 ∉ q ++ List.replicate n.toNat 32 := fun z => by
    rcases List.mem_append.mp z with z | z
    · exact h10 z
    · have := mem_rep z; omega
  refine ⟨?_, ?_, ?_, ?_⟩
  · rw [et, rows_line hl nf, ew, hr, List.map_append, List.filter_append]
    congr 1
    show _ = [wordsL (tl l)].filter full
    cases y : wordsL (tl l) <;> rfl
  · rw [et]; exact .inr ⟨s0 ++ (q ++ List.replicate n.toNat 32), rfl⟩
  · have := sum_pieces 32 l
    rw [len_tl, et, List.map_append, List.sum_append]
    simp only [List.length_append, List.length_replicate, List.length_singleton, List.map_cons, List.map_nil, List.sum_cons, List.sum_nil, lineC]
    omega
  · intro s hs
    rw [et] at hs
    rcases List.mem_append.mp hs with z | z
    · rcases List.mem_append.mp z with z | z
      · exact h.sg s (by rw [e]; exact List.mem_append.mpr (.inl z))
      · rcases List.mem_append.mp z with z | z
        · exact h.sg s (by rw [e]; exact List.mem_append.mpr (.inr z))
        · have := mem_rep z; omega
    · simp at z; omega
theorem lines_count {rs : List (List Str)} (h : ∀ ws ∈ rs, GoodRow ws) : (cutL 10 (textL rs)).length = rs.length + 1 := by
  induction rs with
  | nil => rfl
  | cons ws rs ih =>
    have g := h ws (by simp)
    have e : textL (ws :: rs) = joinL [32] (ws.map tl) ++ 10 :: textL rs := by
      show rowL ws ++ textL rs = _
      unfold rowL
      simp
    rw [e, cutL_app, List.length_append, cutL_free (row_free g), ih fun x hx => h x (by simp [hx])]
    simp
    omega
theorem lines_sums {m : Mp} (ok : m.Ok) (lab : Lab m) : ((splitS 10 (textS m)).map lineC).sum ≤ 58000 ∧ ((splitS 10 (textS m)).map lineT).sum ≤ 20000 ∧ (splitS 10 (textS m)).length ≤ 43 := by
  have h1 := text_len (good_rows ok lab)
  have h2 := rows_count ok
  have h3 := lines_count (good_rows ok lab)
  have h4 := cutL_len 10 (textL (rowsOf m))
  have e : ∀ ps : List (List Nat), ((ps.map mkS).map lineC).sum = 4 * (ps.map List.length).sum + 16 * ps.length := by
    intro ps
    induction ps with
    | nil => rfl
    | cons a r ih => rw [List.map_cons, List.map_cons, List.sum_cons, ih, lineC, len_mkS, List.map_cons, List.sum_cons, List.length_cons]; omega
  have e2 : ∀ ps : List (List Nat), ((ps.map mkS).map lineT).sum = (((ps.map List.length).sum + 8 * ps.length : Nat) : Int) := by
    intro ps
    induction ps with
    | nil => rfl
    | cons a r ih => rw [List.map_cons, List.map_cons, List.sum_cons, ih, lineT, len_mkS, List.map_cons, List.sum_cons, List.length_cons]; omega
  unfold splitS
  rw [tl_text, e, e2, List.length_map]
  omega
theorem rows_all (c : List Nat) : rowsW c = (((cutL 10 c).map mkS).map fun l => wordsL (tl l)).filter full := by
  unfold rowsW
  rw [List.map_map]
  rfl
theorem sp_cut {m : Mp} {sp : Str} (ok : m.Ok) (lab : Lab m) (h : SpOk (splitS 10 (textS m)) sp) : CutOk m sp ∧ CutOk m (cutS sp none (some ((sp.length : Int) - 1))) := by
  have hr : rowsW (tl sp) = (rowsOf m).map fun ws => ws.map tl := by
    rw [h.rows, ← (text_cut ok lab).rows, rows_all (tl (textS m))]; rfl
  have ls := (lines_sums ok lab).1
  have hl := h.len
  have c1 : CutOk m sp := ⟨hr, by omega, h.sg⟩
  refine ⟨c1, ?_⟩
  by_cases z : tl sp = []
  · have e0 : sp.length = 0 := by rw [len_tl, z]; rfl
    have e : tl (cutS sp none (some ((sp.length : Int) - 1))) = [] := by
      unfold cutS
      show ((tl sp).drop _).take _ = []
      rw [z]; simp
    refine ⟨by rw [e, ← hr, z], by rw [len_tl, e]; simp, by rw [e]; simp⟩
  · have hp : 0 < (tl sp).length := List.length_pos_iff.mpr z
    have e : tl (cutS sp none (some ((sp.length : Int) - 1))) = (tl sp).take ((tl sp).length - 1) := by
      have := tl_cut_to sp (sp.length - 1)
      rw [show ((sp.length - 1 : Nat) : Int) = (sp.length : Int) - 1 by rw [len_tl]; omega] at this
      rw [this, len_tl]
    refine ⟨by rw [e, rows_cut h.lin z, hr], ?_, fun s hs => ?_⟩
    · rw [len_tl, e, List.length_take, ← len_tl]; omega
    · rw [e] at hs; exact h.sg s (List.mem_of_mem_take hs)
def emptyM : Mp := ⟨[], [], []⟩
theorem empty_mok : emptyM.Ok := ⟨by simp [emptyM], by simp [emptyM], by simp [emptyM], by simp [emptyM], by simp [emptyM], by simp [emptyM], by simp [emptyM], by simp [emptyM], by simp [emptyM], by simp [emptyM], by simp [emptyM], by simp [emptyM], by simp [emptyM], by simp [emptyM], by simp [emptyM], by simp [emptyM]⟩
theorem empty_lab : Lab emptyM := fun x hx => by simp [emptyM] at hx
theorem empty_text : textS emptyM = ("" : Str) := by decide +kernel
end Pv

set_option Elab.async false
set_option linter.all false
set_option maxRecDepth 100000
/-! PwParse9: what the law asks of the program, and its answers. -/
namespace Pv
open PySem L2 Pw TL PySem.NumText
theorem parse_val {K : PySem.W.Frag} {m : Mp} {c : Str} (ok : m.Ok) (tot : totOf m.lines ≤ 60) (lab : Lab m) (h : CutOk m c) : gParse K [.str c] (.val (mpD m)) :=
  ⟨_, rfl, .inr ⟨c, rfl, cut_text ok lab h, by rw [(run_cut ok tot lab h).1]; exact congrArg Rs.val (full_d m).symm⟩⟩
theorem parsed_val {m : Mp} {c : Str} (ok : m.Ok) (tot : totOf m.lines ≤ 60) (lab : Lab m) (h : CutOk m c) : gParsed (.str c) (mpD m) :=
  ⟨c, rfl, cut_text ok lab h, by rw [(run_cut ok tot lab h).2]; exact (full_d m).symm⟩
theorem so_str {z : Str} : soZ (.str z) (.str z) = true := by simp [soZ]
theorem sumT_take (Ls : List Str) (i : Nat) : 0 ≤ ((Ls.take i).map lineT).sum ∧ ((Ls.take i).map lineT).sum ≤ (Ls.map lineT).sum := by
  have pos : ∀ l : List Str, 0 ≤ (l.map lineT).sum := by
    intro l
    induction l with
    | nil => simp
    | cons a l ih =>
      have : 0 ≤ lineT a := by unfold lineT; omega
      rw [List.map_cons, List.sum_cons]; omega
  have e : (Ls.map lineT).sum = ((Ls.take i).map lineT).sum + ((Ls.drop i).map lineT).sum := by
    rw [← List.sum_append, ← List.map_append, List.take_append_drop]
  have := pos (Ls.take i)
  have := pos (Ls.drop i)
  omega
theorem sumC_take (Ls : List Str) (i : Nat) : ((Ls.take i).map lineC).sum ≤ (Ls.map lineC).sum := by
  have e : (Ls.map lineC).sum = ((Ls.take i).map lineC).sum + ((Ls.drop i).map lineC).sum := by
    rw [← List.sum_append, ← List.map_append, List.take_append_drop]
  omega
theorem sumT_snoc {Ls : List Str} {i : Nat} {l : Str} (h : Ls[i]? = some l) : ((Ls.take (i + 1)).map lineT).sum = ((Ls.take i).map lineT).sum + lineT l := by
  rw [take_snoc h, List.map_append, List.sum_append]
  simp
theorem w_len {Ls ps : List Str} {sp : Str} (h : SpW Ls ps sp) : sp.length ≤ (Ls.map lineC).sum + 6 + (ps.map fun p => p.length + 3).sum := by
  obtain ⟨s0, q, e, _, _, _, _, l0, lq⟩ := h.ex
  rw [len_tl, e, List.length_append]; omega
theorem sumP_take (ps : List Str) (j : Nat) : ((ps.take j).map fun p => p.length + 3).sum ≤ (ps.map fun p => p.length + 3).sum := by
  have e : (ps.map fun p : Str => p.length + 3).sum = ((ps.take j).map fun p : Str => p.length + 3).sum + ((ps.drop j).map fun p : Str => p.length + 3).sum := by
    rw [← List.sum_append, ← List.map_append, List.take_append_drop]
  omega
theorem rep_len {n : Int} (h0 : 0 ≤ n) (h1 : n ≤ 5) : (repS (" " : Str) n).length ≤ 5 := by
  rw [len_tl, tl_blanks _ tl_sp, List.length_replicate]; omega
theorem piece_facts {c : Nat} {t p : Str} (h : p ∈ splitS c t) : c ∉ tl p ∧ ∀ s ∈ tl p, s ∈ tl t := by
  obtain ⟨q, hq, rfl⟩ := List.mem_map.mp h
  exact cutL_mem hq
theorem piece_len {c : Nat} {t p : Str} (h : p ∈ splitS c t) : p.length ≤ t.length := by
  obtain ⟨q, hq, rfl⟩ := List.mem_map.mp h
  rw [len_tl, len_tl]
  exact cut_each hq
theorem split_count (c : Nat) (t : Str) : (splitS c t).length ≤ t.length + 1 := by
  unfold splitS
  rw [List.length_map, len_tl]
  exact cut_count c _
theorem take_all {α : Type} (l : List α) : l.take l.length = l := List.take_length
theorem empty_tup : tupZ (mpD emptyM) = mpD emptyM := by simp [tupZ, tupsZ, mpD, emptyM]
end Pv

set_option Elab.async false
set_option linter.all false
set_option maxRecDepth 100000
set_option maxHeartbeats 4000000
open PySem L2 Pw Hd
namespace Pv

section
variable {P : Program} {w : World} {K : PySem.W.Frag} {mg : Str → Option Value} {base : Heap}
theorem sc_law : FnScope [("script" : Str), ("row" : Str), ("spot" : Str), ("world" : Str), ("text" : Str), ("again" : Str), ("spaced" : Str), ("line" : Str), ("k" : Str), ("word" : Str), ("cut" : Str)] [("script" : Str)] (defScope s_law) := ⟨rfl, rfl, rfl, by decide +kernel, rfl, by decide +kernel, by decide +kernel⟩
theorem c_law {f : Addr} {fd : FuncData} (F : FunD K "law" "law" (defArgs s_law) (defBody s_law) (defScope s_law) [] [] f fd) (T : Bt mg) (ckx_printed : CalXW P w K mg base 6 "printed" ["world"] (spX (gPrint K))) (ckx_parse : CalXW P w K mg base 7 "parse" ["text"] (spX (gParse K))) (c__law_so : Cal P w K mg base 11 "_law_so" ["found", "meant"] (sp2 (gSo 10))) (c_printed : CalX P w K mg base 6 "printed" ["world"] (spX (gPrint K))) (c_parse : CalX P w K mg base 7 "parse" ["text"] (spX (gParse K))) (c__law_parsed : Cal P w K mg base 5 "_law_parsed" ["text"] (sp1 gParsed)) (c__law_take : Cal P w K mg base 2 "_law_take" ["row", "spot", "limit"] (spG gTake)) (c__law_handed : Cal P w K mg base 12 "_law_handed" ["row", "spot", "value"] (spG gHanded)) (c__law_map_text : Cal P w K mg base 1 "_law_map_text" ["world"] (sp1 gMapText)) (c__law_free_map : Cal P w K mg base 5 "_law_free_map" ["row", "spot"] (spG gFreeMap)) (c__law_numbers : Cal P w K mg base 1 "_law_numbers" ["script"] (spG gNumbers)) : FnOk P w K mg base CX0 15 f fd ["script"] (spG gTrue) := by
  have sc := sc_law
  refine fn_mk (k := 14) F sc (fun vs H Q E s => lenTrue s) (fun f cdv A outer st H vs Q E hr h => ⟨_, (pss_cons (ps_set (i := 1) sc.nd rfl (Or.inl rfl) (pe_cal c__law_numbers hr (by decide) (by rfl) (pa_cons (pv 0) pa_nil)))
    (pss_cons (ps_set (i := 2) sc.nd rfl (Or.inl rfl) (pe_lst (pa_cons pe_int pa_nil)))
    (pss_cons (ps_set (i := 3) sc.nd rfl (Or.inl rfl) (pe_cal c__law_free_map hr (by decide) (by rfl) (pa_cons (pv 1) (pa_cons (pv 2) pa_nil))))
    (pss_cons (ps_set (i := 4) sc.nd rfl (Or.inl rfl) (pe_cal c__law_map_text hr (by decide) (by rfl) (pa_cons (pv 3) pa_nil)))
    (pss_cons (ps_if ((pw_or (pt_not (pt_val (pe_cal c__law_so hr (by decide) (by rfl) (pa_cons (pe_calXKw ckx_printed hr (by decide) takes0 (by rfl) (pk_cons (pe_cal c__law_handed hr (by decide) (by rfl) (pa_cons (pv 1) (pa_cons (pv 2) (pa_cons (pv 3) pa_nil)))) pk_nil)) (pa_cons (pv 4) pa_nil))))) (pw_or1 (pt_not (pt_val (pe_cal c__law_so hr (by decide) (by rfl) (pa_cons (pe_calXKw ckx_parse hr (by decide) takes0 (by rfl) (pk_cons (pv 4) pk_nil)) (pa_cons (pv 3) pa_nil)))))))).pt (pss_one (ps_ret pe_bl)) pss_nil)
    (pss_cons (ps_for PassesOwn.never rfl (pi_range1 (by rfl) T.b_range (pa_cons pe_int pa_nil)) (pg_name (i := 5) sc.nd rfl (Or.inl rfl)) (pss_cons (ps_set (i := 6) sc.nd rfl (Or.inl rfl) pe_str)
    (pss_cons (ps_for PassesOwn.never rfl (pi_LT K (pe_m1 PySem.F.slot_str_split PySem.F.type_str_split mt_splitK (pv 4) pe_str)) (pg_name (i := 7) sc.nd rfl (Or.inl rfl)) (pss_cons (ps_for PassesOwn.never rfl (pi_range1 (by rfl) T.b_range (pa_cons (pe_cal c__law_take hr (by decide) (by rfl) (pa_cons (pv 1) (pa_cons (pv 2) (pa_cons pe_int pa_nil)))) pa_nil)) (pg_name (i := 8) sc.nd rfl (Or.inl rfl)) (pss_one (ps_set (i := 6) sc.nd rfl (Or.inl rfl) (pe_op (op_plusK K) (pe_op (op_plusK K) (pv 6) (pe_op op_repS pe_str (pe_cal c__law_take hr (by decide) (by rfl) (pa_cons (pv 1) (pa_cons (pv 2) (pa_cons pe_int pa_nil)))))) pe_str))))
    (pss_cons (ps_for PassesOwn.never rfl (pi_LT K (pe_m1 PySem.F.slot_str_split PySem.F.type_str_split mt_splitK (pv 7) pe_str)) (pg_name (i := 9) sc.nd rfl (Or.inl rfl)) (pss_one (ps_set (i := 6) sc.nd rfl (Or.inl rfl) (pe_op (op_plusK K) (pe_op (op_plusK K) (pv 6) (pe_op op_repS pe_str (pe_op (op_plusK K) pe_int (pe_cal c__law_take hr (by decide) (by rfl) (pa_cons (pv 1) (pa_cons (pv 2) (pa_cons pe_int pa_nil))))))) (pv 9)))))
    (pss_one (ps_set (i := 6) sc.nd rfl (Or.inl rfl) (pe_op (op_plusK K) (pe_op (op_plusK K) (pv 6) (pe_op op_repS pe_str (pe_cal c__law_take hr (by decide) (by rfl) (pa_cons (pv 1) (pa_cons (pv 2) (pa_cons pe_int pa_nil)))))) pe_str))))))
    (pss_cons (ps_set (i := 10) sc.nd rfl (Or.inl rfl) (pe_ifExp (pt_cmpR (op_eqK K hr.units) (pe_cal c__law_take hr (by decide) (by rfl) (pa_cons (pv 1) (pa_cons (pv 2) (pa_cons pe_int pa_nil)))) pe_int (nomark _)) (pe_slice (sl_K K) (pv 6) po_none (po_some (pe_op op_sub (pe_callB (call_lenK K) (by rfl) T.b_len (by decide +kernel) (pa_cons (pv 6) pa_nil)) pe_int))) (pv 6)))
    (pss_one (ps_if ((pw_or (pt_not (pt_val (pe_cal c__law_so hr (by decide) (by rfl) (pa_cons (pe_cal c__law_parsed hr (by decide) (by rfl) (pa_cons (pv 10) pa_nil)) (pa_cons (pv 3) pa_nil))))) (pw_or1 (pt_not (pt_val (pe_cal c__law_so hr (by decide) (by rfl) (pa_cons (pe_calX c_parse hr (by decide) takes0 (by rfl) (pa_cons (pv 10) pa_nil)) (pa_cons (pv 3) pa_nil)))))))).pt (pss_one (ps_ret pe_bl)) pss_nil))))))
    (pss_one (ps_ret (pe_and (pe_cal c__law_so hr (by decide) (by rfl) (pa_cons (pe_calX c_parse hr (by decide) takes0 (by rfl) (pa_cons pe_str pa_nil)) (pa_cons (pe_tup (pa_cons (pe_tup pa_nil) (pa_cons (pe_tup pa_nil) (pa_cons (pe_tup pa_nil) pa_nil)))) pa_nil))) (pe_one (pe_cal c__law_so hr (by decide) (by rfl) (pa_cons (pe_calX c_printed hr (by decide) takes0 (by rfl) (pa_cons (pe_tup (pa_cons (pe_tup pa_nil) (pa_cons (pe_tup pa_nil) (pa_cons (pe_tup pa_nil) pa_nil)))) pa_nil)) (pa_cons pe_str pa_nil))))))))))))), wp_def h ?_⟩)
  rintro as ret outs ⟨ns, rfl, hn, rfl⟩ _
  refine wp_seq ?_
  refine' wp_asg (ev_numbers (ev_var rfl) hn) ?_
  have hr := numbers_ok hn
  generalize numbersZ ns = row at hr
  refine wp_seq ?_
  refine' wp_asgO (eo_lst (ds := [.int 0]) (ea_cons ev_int ea_nil) (show 1 ≤ sizeLine by decide)) ?_
  show WP _ [.val (.scr ns), .val (.d (intsD row)), .own true (.lst [.int (0)]), .non, .non, .non, .non, .non, .non, .non, .non] _
  refine wp_seq ?_
  have fe := freeEnd_le row 0
  refine' wp_asg (ev_g2 (n := 0) (n' := freeEnd row 0) (y := .d (mpD (freeMap row 0))) (ev_var rfl) rfl ⟨row, 0, rfl, hr, ⟨by decide, by decide⟩, rfl, rfl⟩) ?_
  obtain ⟨ok, tot, lab⟩ := freeMap_ok row 0
  have lab : Lab (freeMap row 0) := lab
  generalize freeMap row 0 = m at ok tot lab
  generalize freeEnd row 0 = n1 at fe
  have hW : mapZ (mpD m) = true := mapZ_mpD ok tot lab
  have sW : Snd 5 (mpD m) := snd_mp ok
  have dW := dep_sm sW
  have soW : soZ (mpD m) (mpD m) = true := so_self _ sW.1 sW.2.1
  show WP _ [.val (.scr ns), .val (.d (intsD row)), .own true (.lst [.int (n1)]), .val (.d (mpD m)), .non, .non, .non, .non, .non, .non, .non] _
  refine wp_seq ?_
  refine' wp_asg (ev_c1 (E := E) (f := gMapText) (ev_var rfl) ⟨m, ok, lab, rfl, rfl⟩) ?_
  have hh : mapZ (handZ row n1 (mpD m)) = true := by rw [hand_map sW.1, hW]
  have ht : tupZ (handZ row n1 (mpD m)) = mpD m := hand_tup sW.1
  have nh : Nice 9 (handZ row n1 (mpD m)) := hand_nice (sW.mono (by omega)).2
  have tc := text_cut ok lab
  show WP _ [.val (.scr ns), .val (.d (intsD row)), .own true (.lst [.int (n1)]), .val (.d (mpD m)), .val (.d (.str (textS m))), .non, .non, .non, .non, .non, .non] _
  refine wp_seq ?_
  have so9 : ∀ {y : PyData}, y = mpD m → gSo 10 y (mpD m) (.bool true) := fun {y} e => ⟨by have := dW.1; omega, dW.2, by rw [e, soW]⟩
  have soT : ∀ z : Str, gSo 10 (.str z) (.str z) (.bool true) := fun z => ⟨by simp [depD], by simp [smD], by rw [so_str]⟩
  refine' wp_if (et_or (a := false) (b := false) (et_not (b := true) (et_test (ev_c2 (E := E) (f := gSo 10) (ev_cX1 (g := gPrint K) (y := .str (textS m)) (ev_g3 (n := n1) (n' := n1 + 1) (y := .d (handZ row n1 (mpD m))) (ev_var rfl) ⟨_, _, rfl⟩ (ev_var rfl) rfl ⟨row, n1, mpD m, rfl, hr, ⟨by omega, by omega⟩, (sW.mono (by omega)).2, rfl, rfl⟩) ⟨_, rfl, nh, .inr ⟨m, ok, lab, ht, hh, rfl⟩⟩) (ev_var rfl) (soT _)))) (fun _ => et_not (b := true) (et_test (ev_c2 (E := E) (f := gSo 10) (ev_cX1 (g := gParse K) (ρ := [.val (.scr ns), .val (.d (intsD row)), .own true (.lst [.int (n1 + 1)]), .val (.d (mpD m)), .val (.d (.str (textS m))), .non, .non, .non, .non, .non, .non]) (ev_var (i := 4) rfl) (parse_val ok tot lab tc)) (ev_var (i := 3) rfl) (so9 rfl))))) (fun z => by cases z) (fun _ => wp_next ?_)
  show WP _ [.val (.scr ns), .val (.d (intsD row)), .own true (.lst [.int (n1 + 1)]), .val (.d (mpD m)), .val (.d (.str (textS m))), .non, .non, .non, .non, .non, .non] _
  obtain ⟨LC, LT, LN⟩ := lines_sums ok lab
  have tlen := tc.len
  have tsg := tc.sg
  refine wp_seq ?_
  refine' wp_for (fun i ρ => ∃ n s5 s6 s7 s8 s9 s10, (0 ≤ n ∧ n ≤ 5000 + 30000 * (i : Int)) ∧ ρ = [.val (.scr ns), .val (.d (intsD row)), .own true (.lst [.int (n)]), .val (.d (mpD m)), .val (.d (.str (textS m))), s5, s6, s7, s8, s9, s10]) (ei_range1 (j := 2) (ea_cons ev_int ea_nil) (by decide) (by decide)) ⟨n1 + 1, _, _, _, _, _, _, ⟨by omega, by omega⟩, rfl⟩ ?body ?done
  case done =>
    rintro _ ⟨n, s5, s6, s7, s8, s9, s10, bn, rfl⟩
    show WP _ [.val (.scr ns), .val (.d (intsD row)), .own true (.lst [.int (n)]), .val (.d (mpD m)), .val (.d (.str (textS m))), s5, s6, s7, s8, s9, s10] _
    have emp : ∀ ρ : List Slot, EV (tTup (tCons (tTup tNil) (tCons (tTup tNil) (tCons (tTup tNil) tNil)))) ρ (.d (mpD emptyM)) ρ := fun ρ => ev_tup (ds := [.tuple [], .tuple [], .tuple []]) (ea_cons (ev_tup (ds := []) ea_nil (Nat.zero_le _)) (ea_cons (ev_tup (ds := []) ea_nil (Nat.zero_le _)) (ea_cons (ev_tup (ds := []) ea_nil (Nat.zero_le _)) ea_nil))) (show 3 ≤ sizeLine by decide)
    have e1 : gParse K [.str ("" : Str)] (.val (mpD emptyM)) := by
      have z := parse_val (K := K) empty_mok (by decide) empty_lab (text_cut empty_mok empty_lab)
      rw [empty_text] at z
      exact z
    have sE : Snd 5 (mpD emptyM) := snd_mp empty_mok
    have e2 : gPrint K [mpD emptyM] (.val (.str ("" : Str))) := ⟨_, rfl, (sE.mono (by omega)).2, .inr ⟨emptyM, empty_mok, empty_lab, empty_tup, by decide +kernel, by rw [empty_text]⟩⟩
    refine' wp_ret (ev_and0 (a := true) (b := true) (ev_c2 (E := E) (f := gSo 10) (ev_cX1 (g := gParse K) ev_str e1) (emp _) ⟨by decide, by decide, by rw [so_self _ sE.1 sE.2.1]⟩) (fun _ => ev_c2 (E := E) (f := gSo 10) (ev_cX1 (g := gPrint K) (emp _) e2) ev_str (soT _))) ?_
    exact ⟨rfl, fun i c h => (no_refs1 h).elim⟩
  case body =>
    rintro i x _ hx ⟨n, s5, s6, s7, s8, s9, s10, bn, rfl⟩
    obtain ⟨hi, rfl⟩ := at_range hx
    have hi : i < 2 := hi
    have bn1 : 0 ≤ n ∧ n ≤ 40000 := by omega
    refine ⟨_, gt_name, ?_⟩
    show WP _ [.val (.scr ns), .val (.d (intsD row)), .own true (.lst [.int (n)]), .val (.d (mpD m)), .val (.d (.str (textS m))), .val (.d (.int (0 + (i : Int)))), s6, s7, s8, s9, s10] _
    refine wp_seq ?_
    refine' wp_asg (x := .d (.str (mkS []))) (show EV _ _ (.d (.str (mkS []))) _ from ev_str) ?_
    show WP _ [.val (.scr ns), .val (.d (intsD row)), .own true (.lst [.int (n)]), .val (.d (mpD m)), .val (.d (.str (textS m))), .val (.d (.int (0 + (i : Int)))), .val (.d (.str (mkS []))), s7, s8, s9, s10] _
    obtain ⟨Ls, hL⟩ : ∃ Ls, splitS 10 (textS m) = Ls := ⟨_, rfl⟩
    have src := ei_or1 (b := iTup K (tM1 rSplit (tVar 4) (tC (.str ("\n" : Str))))) (ei_list (K := K) (EO.vl (eo_split (ρ := [.val (.scr ns), .val (.d (intsD row)), .own true (.lst [.int (n)]), .val (.d (mpD m)), .val (.d (.str (textS m))), .val (.d (.int (0 + (i : Int)))), .val (.d (.str (mkS []))), s7, s8, s9, s10]) (c := 10) (ev_var (i := 4) rfl) (ev_str (s := "\n")) tl_nl (by decide) (by rw [PySem.sizeLine_eq]; omega))))
    rw [List.map_map, hL] at src
    rw [hL] at LC LT LN
    have cnt : ∀ l ∈ Ls, (splitS 32 l).length ≤ l.length + 1 := fun l _ => split_count 32 l
    refine wp_seq ?_
    refine' wp_for (fun q ρ => ∃ n' sp s7 s8 s9, (n ≤ n' ∧ n' ≤ n + ((Ls.take q).map lineT).sum) ∧ SpOk (Ls.take q) sp ∧ ρ = [.val (.scr ns), .val (.d (intsD row)), .own true (.lst [.int (n')]), .val (.d (mpD m)), .val (.d (.str (textS m))), .val (.d (.int (0 + (i : Int)))), .val (.d (.str sp)), s7, s8, s9, s10]) src ⟨n, mkS [], _, _, _, ⟨by omega, by simp⟩, by rw [List.take_zero]; exact sp_nil, rfl⟩ ?bodyL ?doneL
    case bodyL =>
      rintro q x _ hx ⟨n', sp, s7, s8, s9, bq, so, rfl⟩
      obtain ⟨l, hl, rfl⟩ := at_map hx
      have hm : l ∈ splitS 10 (textS m) := by rw [hL]; exact List.mem_of_getElem? hl
      obtain ⟨l10, lsub⟩ := piece_facts hm
      have llen := piece_len hm
      have sT := sumT_take Ls q
      have sC := sumC_take Ls q
      have sTs := sumT_snoc hl
      have sT2 := sumT_take Ls (q + 1)
      have ps := split_count 32 l
      have lT : lineT l = (l.length : Int) + 8 := rfl
      generalize hQ : ((Ls.take q).map lineT).sum = SQ at bq sT sTs
      refine ⟨_, gt_name, ?_⟩
      show WP _ [.val (.scr ns), .val (.d (intsD row)), .own true (.lst [.int (n')]), .val (.d (mpD m)), .val (.d (.str (textS m))), .val (.d (.int (0 + (i : Int)))), .val (.d (.str sp)), .val (.d (.str l)), s8, s9, s10] _
      have d3 := draw_bd row n' 3 (by decide)
      refine wp_seq ?_
      refine' wp_for (ρ1 := [.val (.scr ns), .val (.d (intsD row)), .own true (.lst [.int (n' + 1)]), .val (.d (mpD m)), .val (.d (.str (textS m))), .val (.d (.int (0 + (i : Int)))), .val (.d (.str sp)), .val (.d (.str l)), s8, s9, s10]) (fun j ρ => ∃ sp s8, SpB (Ls.take q) j sp ∧ ρ = [.val (.scr ns), .val (.d (intsD row)), .own true (.lst [.int (n' + 1 + (j : Int))]), .val (.d (mpD m)), .val (.d (.str (textS m))), .val (.d (.int (0 + (i : Int)))), .val (.d (.str sp)), .val (.d (.str l)), s8, s9, s10]) (ei_range1 (j := drawZ row n' 3) (ea_cons (ev_tk (n := n') (n' + 1) (l := true) (ev_var rfl) ⟨_, _, rfl⟩ (ev_int (i := 3)) rfl hr ⟨by omega, by omega⟩ (by decide) (by omega)) ea_nil) (by omega) (by omega)) ⟨sp, _, sp_b so, ?st⟩ ?bodyB ?doneB
      case st =>
        rw [show n' + 1 + ((0 : Nat) : Int) = n' + 1 by omega]
      case bodyB =>
        rintro j x _ hx ⟨sp, s8, sb, rfl⟩
        obtain ⟨hj, rfl⟩ := at_range hx
        have hj : j < (drawZ row n' 3).toNat := hj
        have dj := draw_bd row (n' + 1 + (j : Int)) 3 (by decide)
        have sl := sb.len
        have rl := rep_len (n := drawZ row (n' + 1 + (j : Int)) 3) (by omega) (by omega)
        refine ⟨_, gt_name, ?_⟩
        show WP _ [.val (.scr ns), .val (.d (intsD row)), .own true (.lst [.int (n' + 1 + (j : Int))]), .val (.d (mpD m)), .val (.d (.str (textS m))), .val (.d (.int (0 + (i : Int)))), .val (.d (.str sp)), .val (.d (.str l)), .val (.d (.int (0 + (j : Int)))), s9, s10] _
        refine' wp_asg (ev_op (ev_op (ev_var rfl) (ev_op ev_str (ev_tk (n := n' + 1 + (j : Int)) (n' + 1 + ((j + 1 : Nat) : Int)) (l := true) (ev_var rfl) ⟨_, _, rfl⟩ (ev_int (i := 3)) rfl hr ⟨by omega, by omega⟩ (by decide) (by omega)) (opd_repS (n := drawZ row (n' + 1 + (j : Int)) 3) (by omega) (by omega) (by decide))) (opd_cat_str ?z1)) ev_str (opd_cat_str ?z2)) ⟨_, _, sp_blank (n := drawZ row (n' + 1 + (j : Int)) 3) sb (by omega) (by omega), ?stj⟩
        case z1 => rw [PySem.sizeLine_eq]; omega
        case z2 => rw [lenA, PySem.sizeLine_eq, len5.2.2.2.2]; omega
        case stj => rfl
      case doneB =>
      rintro _ ⟨sp, s8, sb, rfl⟩
      have eB : (rangeD 0 (drawZ row n' 3).toNat).length = (drawZ row n' 3).toNat := by rw [rangeD, List.length_map, List.length_range]
      rw [eB] at sb ⊢
      have sw0 := sp_w sb (by omega)
      generalize hn2 : n' + 1 + ((drawZ row n' 3).toNat : Int) = n2
      have b2 : n' + 1 ≤ n2 ∧ n2 ≤ n' + 3 := by omega
      show WP _ [.val (.scr ns), .val (.d (intsD row)), .own true (.lst [.int (n2)]), .val (.d (mpD m)), .val (.d (.str (textS m))), .val (.d (.int (0 + (i : Int)))), .val (.d (.str sp)), .val (.d (.str l)), s8, s9, s10] _
      have src2 := ei_or1 (b := iTup K (tM1 rSplit (tVar 7) (tC (.str (" " : Str))))) (ei_list (K := K) (EO.vl (eo_split (ρ := [.val (.scr ns), .val (.d (intsD row)), .own true (.lst [.int (n2)]), .val (.d (mpD m)), .val (.d (.str (textS m))), .val (.d (.int (0 + (i : Int)))), .val (.d (.str sp)), .val (.d (.str l)), s8, s9, s10]) (c := 32) (ev_var (i := 7) rfl) (ev_str (s := " ")) tl_sp (by decide) (by rw [PySem.sizeLine_eq]; omega))))
      rw [List.map_map] at src2
      refine wp_seq ?_
      refine' wp_for (fun j ρ => ∃ sp s9, SpW (Ls.take q) ((splitS 32 l).take j) sp ∧ ρ = [.val (.scr ns), .val (.d (intsD row)), .own true (.lst [.int (n2 + (j : Int))]), .val (.d (mpD m)), .val (.d (.str (textS m))), .val (.d (.int (0 + (i : Int)))), .val (.d (.str sp)), .val (.d (.str l)), s8, s9, s10]) src2 ⟨sp, _, by rw [List.take_zero]; exact sw0, ?st2⟩ ?bodyW ?doneW
      case st2 => rw [show n2 + ((0 : Nat) : Int) = n2 by omega]
      case bodyW =>
        rintro j x _ hx ⟨sp, s9, sw, rfl⟩
        obtain ⟨p, hp, rfl⟩ := at_map hx
        have hj := (List.getElem?_eq_some_iff.mp hp).1
        have hpm := List.mem_of_getElem? hp
        obtain ⟨p32, psub⟩ := piece_facts hpm
        have plen := piece_len hpm
        have dj := draw_bd row (n2 + (j : Int)) 3 (by decide)
        have sl := w_len sw
        have s5' := sumP_take (splitS 32 l) j
        have s6' := sum_pieces 32 l
        have rl := rep_len (n := 1 + drawZ row (n2 + (j : Int)) 3) (by omega) (by omega)
        refine ⟨_, gt_name, ?_⟩
        show WP _ [.val (.scr ns), .val (.d (intsD row)), .own true (.lst [.int (n2 + (j : Int))]), .val (.d (mpD m)), .val (.d (.str (textS m))), .val (.d (.int (0 + (i : Int)))), .val (.d (.str sp)), .val (.d (.str l)), s8, .val (.d (.str p)), s10] _
        refine' wp_asg (ev_op (ev_op (ev_var rfl) (ev_op ev_str (ev_op ev_int (ev_tk (n := n2 + (j : Int)) (n2 + (j : Int) + 1) (l := true) (ev_var rfl) ⟨_, _, rfl⟩ (ev_int (i := 3)) rfl hr ⟨by omega, by omega⟩ (by decide) (by omega)) opd_add) (opd_repS (n := 1 + drawZ row (n2 + (j : Int)) 3) (by omega) (by omega) (by decide))) (opd_cat_str ?z1)) (ev_var rfl) (opd_cat_str ?z2)) ⟨_, _, ?spw, ?stj⟩
        case z1 => rw [PySem.sizeLine_eq]; omega
        case z2 => rw [lenA, PySem.sizeLine_eq]; omega
        case spw =>
          rw [take_snoc hp]
          exact sp_word (n := drawZ row (n2 + (j : Int)) 3) sw (by omega) (by omega) p32 (fun z => l10 (psub _ z)) (fun s hs => tsg s (lsub s (psub s hs)))
        case stj =>
          rw [show n2 + ((j + 1 : Nat) : Int) = n2 + (j : Int) + 1 by omega]
          rfl
      case doneW =>
      rintro _ ⟨sp, s9, sw, rfl⟩
      rw [List.length_map, take_all] at sw
      have sl := w_len sw
      have s6' := sum_pieces 32 l
      rw [List.length_map]
      generalize hn3 : n2 + ((splitS 32 l).length : Int) = n3
      have b3 : n' ≤ n3 ∧ n3 ≤ n' + 4 + (l.length : Int) := by omega
      have dj := draw_bd row n3 2 (by decide)
      have rl := rep_len (n := drawZ row n3 2) (by omega) (by omega)
      show WP _ [.val (.scr ns), .val (.d (intsD row)), .own true (.lst [.int (n3)]), .val (.d (mpD m)), .val (.d (.str (textS m))), .val (.d (.int (0 + (i : Int)))), .val (.d (.str sp)), .val (.d (.str l)), s8, s9, s10] _
      refine' wp_asg (ev_op (ev_op (ev_var rfl) (ev_op ev_str (ev_tk (n := n3) (n3 + 1) (l := true) (ev_var rfl) ⟨_, _, rfl⟩ (ev_int (i := 2)) rfl hr ⟨by omega, by omega⟩ (by decide) (by omega)) (opd_repS (n := drawZ row n3 2) (by omega) (by omega) (by decide))) (opd_cat_str ?z3)) ev_str (opd_cat_str ?z4)) ⟨n3 + 1, _, _, _, _, ⟨by omega, by rw [sTs, lT]; omega⟩, ?spe, ?ste⟩
      case z3 => rw [PySem.sizeLine_eq]; omega
      case z4 => rw [lenA, PySem.sizeLine_eq, len5.2.2.2.2]; omega
      case spe =>
        rw [take_snoc hl]
        exact sp_end (n := drawZ row n3 2) sw (by omega) (by omega)
      case ste => rfl
    case doneL =>
    rintro _ ⟨n', sp, s7, s8, s9, bq, so, rfl⟩
    rw [List.length_map, take_all] at so bq
    rw [← hL] at so
    obtain ⟨c1, c2⟩ := sp_cut ok lab so
    have spl := c1.len
    show WP _ [.val (.scr ns), .val (.d (intsD row)), .own true (.lst [.int (n')]), .val (.d (mpD m)), .val (.d (.str (textS m))), .val (.d (.int (0 + (i : Int)))), .val (.d (.str sp)), s7, s8, s9, s10] _
    refine wp_seq ?_
    obtain ⟨c, hc, ec⟩ : ∃ c : Str, CutOk m c ∧ EV (tIf (tTest (tOp (rEqU K) (tCall (spG gTake) [] E (tCons (tVar 1) (tCons (tVar 2) (tCons (tC (.int 2)) tNil)))) (tC (.int 0)))) (tSl (rSlU K) (tVar 6) tNoPart (tPart (tOp (rI0 fun i j => .int (i - j)) (tCB (Pw.rLen K) (tCons (tVar 6) tNil)) (tC (.int 1))))) (tVar 6)) [.val (.scr ns), .val (.d (intsD row)), .own true (.lst [.int (n')]), .val (.d (mpD m)), .val (.d (.str (textS m))), .val (.d (.int (0 + (i : Int)))), .val (.d (.str sp)), s7, s8, s9, s10] (.d (.str c)) [.val (.scr ns), .val (.d (intsD row)), .own true (.lst [.int (n' + 1)]), .val (.d (mpD m)), .val (.d (.str (textS m))), .val (.d (.int (0 + (i : Int)))), .val (.d (.str sp)), s7, s8, s9, s10] := by
      have ssz : sp.length ≤ sizeLine := by rw [PySem.sizeLine_eq]; omega
      have t := et_test (ev_op (ρ := [.val (.scr ns), .val (.d (intsD row)), .own true (.lst [.int (n')]), .val (.d (mpD m)), .val (.d (.str (textS m))), .val (.d (.int (0 + (i : Int)))), .val (.d (.str sp)), s7, s8, s9, s10]) (ev_tk (E := E) (ta := tVar 1) (tc := tC (.int 2)) (i := 2) (n := n') (n' + 1) (l := true) (ev_var rfl) ⟨_, _, rfl⟩ (ev_int (i := 2)) rfl hr ⟨by omega, by omega⟩ (by decide) (by omega)) (ev_int (i := 0)) (opd_eq_int (K := K)))
      by_cases z : drawZ row n' 2 = 0
      · rw [decide_eq_true z] at t
        refine ⟨_, c2, ev_if t (fun _ => ev_slS ssz (ev_var rfl) eo_none (eo_some (ev_op (ev_cb1 (ev_var (i := 6) rfl) (cd_lenS ssz)) ev_int opd_sub))) (fun z => by cases z)⟩
      · rw [decide_eq_false z] at t
        exact ⟨_, c1, ev_if t (fun z => by cases z) (fun _ => ev_var rfl)⟩
    refine' wp_asg ec ?_
    show WP _ [.val (.scr ns), .val (.d (intsD row)), .own true (.lst [.int (n' + 1)]), .val (.d (mpD m)), .val (.d (.str (textS m))), .val (.d (.int (0 + (i : Int)))), .val (.d (.str sp)), s7, s8, s9, .val (.d (.str c))] _
    refine' wp_if (et_or0 (a := false) (b := false) (et_not (b := true) (et_test (ev_c2 (E := E) (f := gSo 10) (ev_c1 (E := E) (f := gParsed) (ev_var (i := 10) rfl) (parsed_val ok tot lab hc)) (ev_var (i := 3) rfl) (so9 rfl)))) (fun _ => et_not (b := true) (et_test (ev_c2 (E := E) (f := gSo 10) (ev_cX1 (g := gParse K) (ev_var (i := 10) rfl) (parse_val ok tot lab hc)) (ev_var (i := 3) rfl) (so9 rfl))))) (fun z => by cases z) (fun _ => wp_next ⟨n' + 1, _, _, _, _, _, _, ⟨by omega, by omega⟩, rfl⟩)
end

end Pv

set_option Elab.async false
set_option linter.all false
set_option maxRecDepth 100000
set_option maxHeartbeats 4000000
open PySem L2 Pw Hd PyProof.Rows
namespace Pv
theorem facts {P : Program} {w : World} {K : PySem.W.Frag} {h : Heap} {mg : Str → Option Value} {f : Addr} (X : K.In h) (G : h.Ns mainGlobals mg) (hfa : mg ("law" : Str) = some (.ref f)) (c : SaysB fa fn BB K) :
    ∃ fd : FuncData, (∀ (s : Shared) (v : Value), BindsTo s fd ⟨[v], []⟩ [("script", v)]) ∧ noListB K = true ∧ ∀ base : Heap, K.In base → base.Ns mainGlobals mg → FnOk P w K mg base CX0 15 f fd ["script"] (spG gTrue) := by
  have Dis_integer : Df K mg "is_integer" s_is_integer := by obtain ⟨fd, F⟩ := c.d.def_ 0 (d := dd "is_integer" s_is_integer) rfl; exact ⟨_, fd, F, (He.glo_ok X G (c.d.fact 0 (f := .glo "is_integer") rfl))⟩
  have Dis_between : Df K mg "is_between" s_is_between := by obtain ⟨fd, F⟩ := c.d.def_ 1 (d := dd "is_between" s_is_between) rfl; exact ⟨_, fd, F, (He.glo_ok X G (c.d.fact 1 (f := .glo "is_between") rfl))⟩
  have Dis_sequence : Df K mg "is_sequence" s_is_sequence := by obtain ⟨fd, F⟩ := c.d.def_ 2 (d := dd "is_sequence" s_is_sequence) rfl; exact ⟨_, fd, F, (He.glo_ok X G (c.d.fact 2 (f := .glo "is_sequence") rfl))⟩
  have Dis_row : Df K mg "is_row" s_is_row := by obtain ⟨fd, F⟩ := c.d.def_ 3 (d := dd "is_row" s_is_row) rfl; exact ⟨_, fd, F, (He.glo_ok X G (c.d.fact 3 (f := .glo "is_row") rfl))⟩
  have Dis_column : Df K mg "is_column" s_is_column := by obtain ⟨fd, F⟩ := c.d.def_ 4 (d := dd "is_column" s_is_column) rfl; exact ⟨_, fd, F, (He.glo_ok X G (c.d.fact 4 (f := .glo "is_column") rfl))⟩
  have Dis_name : Df K mg "is_name" s_is_name := by obtain ⟨fd, F⟩ := c.d.def_ 5 (d := dd "is_name" s_is_name) rfl; exact ⟨_, fd, F, (He.glo_ok X G (c.d.fact 5 (f := .glo "is_name") rfl))⟩
  have Dis_place : Df K mg "is_place" s_is_place := by obtain ⟨fd, F⟩ := c.d.def_ 6 (d := dd "is_place" s_is_place) rfl; exact ⟨_, fd, F, (He.glo_ok X G (c.d.fact 6 (f := .glo "is_place") rfl))⟩
  have Dis_label_size : Df K mg "is_label_size" s_is_label_size := by obtain ⟨fd, F⟩ := c.d.def_ 7 (d := dd "is_label_size" s_is_label_size) rfl; exact ⟨_, fd, F, (He.glo_ok X G (c.d.fact 7 (f := .glo "is_label_size") rfl))⟩
  have Dis_node : Df K mg "is_node" s_is_node := by obtain ⟨fd, F⟩ := c.d.def_ 8 (d := dd "is_node" s_is_node) rfl; exact ⟨_, fd, F, (He.glo_ok X G (c.d.fact 8 (f := .glo "is_node") rfl))⟩
  have Dis_mark : Df K mg "is_mark" s_is_mark := by obtain ⟨fd, F⟩ := c.d.def_ 9 (d := dd "is_mark" s_is_mark) rfl; exact ⟨_, fd, F, (He.glo_ok X G (c.d.fact 9 (f := .glo "is_mark") rfl))⟩
  have Dis_line : Df K mg "is_line" s_is_line := by obtain ⟨fd, F⟩ := c.d.def_ 10 (d := dd "is_line" s_is_line) rfl; exact ⟨_, fd, F, (He.glo_ok X G (c.d.fact 10 (f := .glo "is_line") rfl))⟩
  have Dhave_different_names : Df K mg "have_different_names" s_have_different_names := by obtain ⟨fd, F⟩ := c.d.def_ 11 (d := dd "have_different_names" s_have_different_names) rfl; exact ⟨_, fd, F, (He.glo_ok X G (c.d.fact 11 (f := .glo "have_different_names") rfl))⟩
  have Dis_map : Df K mg "is_map" s_is_map := by obtain ⟨fd, F⟩ := c.d.def_ 12 (d := dd "is_map" s_is_map) rfl; exact ⟨_, fd, F, (He.glo_ok X G (c.d.fact 12 (f := .glo "is_map") rfl))⟩
  have Dwords_of : Df K mg "words_of" s_words_of := by obtain ⟨fd, F⟩ := c.d.def_ 13 (d := dd "words_of" s_words_of) rfl; exact ⟨_, fd, F, (He.glo_ok X G (c.d.fact 13 (f := .glo "words_of") rfl))⟩
  have Dprinted : Df K mg "printed" s_printed := by obtain ⟨fd, F⟩ := c.d.def_ 14 (d := dd "printed" s_printed) rfl; exact ⟨_, fd, F, (He.glo_ok X G (c.d.fact 14 (f := .glo "printed") rfl))⟩
  have Dnumber_told : Df K mg "number_told" s_number_told := by obtain ⟨fd, F⟩ := c.d.def_ 15 (d := dd "number_told" s_number_told) rfl; exact ⟨_, fd, F, (He.glo_ok X G (c.d.fact 15 (f := .glo "number_told") rfl))⟩
  have Drow_told : Df K mg "row_told" s_row_told := by obtain ⟨fd, F⟩ := c.d.def_ 16 (d := dd "row_told" s_row_told) rfl; exact ⟨_, fd, F, (He.glo_ok X G (c.d.fact 16 (f := .glo "row_told") rfl))⟩
  have Dwith_words : Df K mg "with_words" s_with_words := by obtain ⟨fd, F⟩ := c.d.def_ 17 (d := dd "with_words" s_with_words) rfl; exact ⟨_, fd, F, (He.glo_ok X G (c.d.fact 17 (f := .glo "with_words") rfl))⟩
  have Dparse : Df K mg "parse" s_parse := by obtain ⟨fd, F⟩ := c.d.def_ 18 (d := dd "parse" s_parse) rfl; exact ⟨_, fd, F, (He.glo_ok X G (c.d.fact 18 (f := .glo "parse") rfl))⟩
  have D_law_so : Df K mg "_law_so" s__law_so := by obtain ⟨fd, F⟩ := c.d.def_ 19 (d := dd "_law_so" s__law_so) rfl; exact ⟨_, fd, F, (He.glo_ok X G (c.d.fact 19 (f := .glo "_law_so") rfl))⟩
  have D_law_numbers : Df K mg "_law_numbers" s__law_numbers := by obtain ⟨fd, F⟩ := c.d.def_ 20 (d := dd "_law_numbers" s__law_numbers) rfl; exact ⟨_, fd, F, (He.glo_ok X G (c.d.fact 20 (f := .glo "_law_numbers") rfl))⟩
  have D_law_draw : Df K mg "_law_draw" s__law_draw := by obtain ⟨fd, F⟩ := c.d.def_ 21 (d := dd "_law_draw" s__law_draw) rfl; exact ⟨_, fd, F, (He.glo_ok X G (c.d.fact 21 (f := .glo "_law_draw") rfl))⟩
  have D_law_take : Df K mg "_law_take" s__law_take := by obtain ⟨fd, F⟩ := c.d.def_ 22 (d := dd "_law_take" s__law_take) rfl; exact ⟨_, fd, F, (He.glo_ok X G (c.d.fact 22 (f := .glo "_law_take") rfl))⟩
  have D_law_wide : Df K mg "_law_wide" s__law_wide := by obtain ⟨fd, F⟩ := c.d.def_ 23 (d := dd "_law_wide" s__law_wide) rfl; exact ⟨_, fd, F, (He.glo_ok X G (c.d.fact 23 (f := .glo "_law_wide") rfl))⟩
  have D_law_whole : Df K mg "_law_whole" s__law_whole := by obtain ⟨fd, F⟩ := c.d.def_ 24 (d := dd "_law_whole" s__law_whole) rfl; exact ⟨_, fd, F, (He.glo_ok X G (c.d.fact 24 (f := .glo "_law_whole") rfl))⟩
  have D_law_listed : Df K mg "_law_listed" s__law_listed := by obtain ⟨fd, F⟩ := c.d.def_ 25 (d := dd "_law_listed" s__law_listed) rfl; exact ⟨_, fd, F, (He.glo_ok X G (c.d.fact 25 (f := .glo "_law_listed") rfl))⟩
  have D_law_handed : Df K mg "_law_handed" s__law_handed := by obtain ⟨fd, F⟩ := c.d.def_ 26 (d := dd "_law_handed" s__law_handed) rfl; exact ⟨_, fd, F, (He.glo_ok X G (c.d.fact 26 (f := .glo "_law_handed") rfl))⟩
  have D_law_name : Df K mg "_law_name" s__law_name := by obtain ⟨fd, F⟩ := c.d.def_ 27 (d := dd "_law_name" s__law_name) rfl; exact ⟨_, fd, F, (He.glo_ok X G (c.d.fact 27 (f := .glo "_law_name") rfl))⟩
  have D_law_is_name : Df K mg "_law_is_name" s__law_is_name := by obtain ⟨fd, F⟩ := c.d.def_ 28 (d := dd "_law_is_name" s__law_is_name) rfl; exact ⟨_, fd, F, (He.glo_ok X G (c.d.fact 28 (f := .glo "_law_is_name") rfl))⟩
  have D_law_is_number : Df K mg "_law_is_number" s__law_is_number := by obtain ⟨fd, F⟩ := c.d.def_ 29 (d := dd "_law_is_number" s__law_is_number) rfl; exact ⟨_, fd, F, (He.glo_ok X G (c.d.fact 29 (f := .glo "_law_is_number") rfl))⟩
  have D_law_is_row : Df K mg "_law_is_row" s__law_is_row := by obtain ⟨fd, F⟩ := c.d.def_ 30 (d := dd "_law_is_row" s__law_is_row) rfl; exact ⟨_, fd, F, (He.glo_ok X G (c.d.fact 30 (f := .glo "_law_is_row") rfl))⟩
  have D_law_is_map : Df K mg "_law_is_map" s__law_is_map := by obtain ⟨fd, F⟩ := c.d.def_ 31 (d := dd "_law_is_map" s__law_is_map) rfl; exact ⟨_, fd, F, (He.glo_ok X G (c.d.fact 31 (f := .glo "_law_is_map") rfl))⟩
  have D_law_free_number : Df K mg "_law_free_number" s__law_free_number := by obtain ⟨fd, F⟩ := c.d.def_ 32 (d := dd "_law_free_number" s__law_free_number) rfl; exact ⟨_, fd, F, (He.glo_ok X G (c.d.fact 32 (f := .glo "_law_free_number") rfl))⟩
  have D_law_free_map : Df K mg "_law_free_map" s__law_free_map := by obtain ⟨fd, F⟩ := c.d.def_ 33 (d := dd "_law_free_map" s__law_free_map) rfl; exact ⟨_, fd, F, (He.glo_ok X G (c.d.fact 33 (f := .glo "_law_free_map") rfl))⟩
  have D_law_map_text : Df K mg "_law_map_text" s__law_map_text := by obtain ⟨fd, F⟩ := c.d.def_ 34 (d := dd "_law_map_text" s__law_map_text) rfl; exact ⟨_, fd, F, (He.glo_ok X G (c.d.fact 34 (f := .glo "_law_map_text") rfl))⟩
  have D_law_integer_of : Df K mg "_law_integer_of" s__law_integer_of := by obtain ⟨fd, F⟩ := c.d.def_ 35 (d := dd "_law_integer_of" s__law_integer_of) rfl; exact ⟨_, fd, F, (He.glo_ok X G (c.d.fact 35 (f := .glo "_law_integer_of") rfl))⟩
  have D_law_read_line : Df K mg "_law_read_line" s__law_read_line := by obtain ⟨fd, F⟩ := c.d.def_ 36 (d := dd "_law_read_line" s__law_read_line) rfl; exact ⟨_, fd, F, (He.glo_ok X G (c.d.fact 36 (f := .glo "_law_read_line") rfl))⟩
  have D_law_parsed : Df K mg "_law_parsed" s__law_parsed := by obtain ⟨fd, F⟩ := c.d.def_ 37 (d := dd "_law_parsed" s__law_parsed) rfl; exact ⟨_, fd, F, (He.glo_ok X G (c.d.fact 37 (f := .glo "_law_parsed") rfl))⟩
  obtain ⟨fd, F⟩ := c.d.def_ 38 (d := dd "law" s_law) rfl
  have e := hfa.symm.trans (He.glo_ok X G (c.d.fact 38 (f := .glo "law") rfl))
  cases e
  have bnd := FunD.bindsA (ps := [("script" : Str)]) F fun _ _ _ _ _ _ us hl => match us, hl with | [_], _ => rfl
  have hb := c.b
  simp only [BB, Bool.and_eq_true, List.all_eq_true] at hb
  obtain ⟨x0, x1, nl, em, tp⟩ := hb
  have T : Bt mg := { b_Exception := He.free_ok X G (c.d.fact 39 (f := .free "Exception") rfl), b_all := He.free_ok X G (c.d.fact 40 (f := .free "all") rfl), b_any := He.free_ok X G (c.d.fact 41 (f := .free "any") rfl), b_bool := He.free_ok X G (c.d.fact 42 (f := .free "bool") rfl), b_enumerate := He.free_ok X G (c.d.fact 43 (f := .free "enumerate") rfl), b_int := He.free_ok X G (c.d.fact 44 (f := .free "int") rfl), b_isinstance := He.free_ok X G (c.d.fact 45 (f := .free "isinstance") rfl), b_len := He.free_ok X G (c.d.fact 46 (f := .free "len") rfl), b_list := He.free_ok X G (c.d.fact 47 (f := .free "list") rfl), b_min := He.free_ok X G (c.d.fact 48 (f := .free "min") rfl), b_range := He.free_ok X G (c.d.fact 49 (f := .free "range") rfl), b_str := He.free_ok X G (c.d.fact 50 (f := .free "str") rfl), b_sum := He.free_ok X G (c.d.fact 51 (f := .free "sum") rfl), b_tuple := He.free_ok X G (c.d.fact 52 (f := .free "tuple") rfl), b_zip := He.free_ok X G (c.d.fact 53 (f := .free "zip") rfl), g_LETTERS := He.str_ok X G (c.d.fact 54 (f := .str "LETTERS" "abcdefghijklmnopqrstuvwxyz") rfl), g_LONGEST_NAME := He.int_ok X G (c.d.fact 55 (f := .int "LONGEST_NAME" 8) rfl), g_FARTHEST := He.int_ok X G (c.d.fact 56 (f := .int "FARTHEST" 1000000000) rfl), g_LARGEST_LABEL := He.int_ok X G (c.d.fact 57 (f := .int "LARGEST_LABEL" 1000000) rfl), g_MOST_NODES := He.int_ok X G (c.d.fact 58 (f := .int "MOST_NODES" 16) rfl), g_MOST_LINES := He.int_ok X G (c.d.fact 59 (f := .int "MOST_LINES" 16) rfl), g_MOST_MARKS := He.int_ok X G (c.d.fact 60 (f := .int "MOST_MARKS" 10) rfl), g_MOST_CORNERS_OF_LINE := He.int_ok X G (c.d.fact 61 (f := .int "MOST_CORNERS_OF_LINE" 12) rfl), g_MOST_CORNERS := He.int_ok X G (c.d.fact 62 (f := .int "MOST_CORNERS" 60) rfl), g_DIGITS := He.str_ok X G (c.d.fact 63 (f := .str "DIGITS" "0123456789") rfl), g_MOST_DIGITS := He.int_ok X G (c.d.fact 64 (f := .int "MOST_DIGITS" 10) rfl) }
  have m_MapError : mg "MapError" = some (.ref (He.ga K "MapError")) := (He.glo_ok X G (c.d.fact 65 (f := .glo "MapError") rfl))
  have m_BadValue : mg "BadValue" = some (.ref (He.ga K "BadValue")) := (He.glo_ok X G (c.d.fact 66 (f := .glo "BadValue") rfl))
  have m_BadText : mg "BadText" = some (.ref (He.ga K "BadText")) := (He.glo_ok X G (c.d.fact 67 (f := .glo "BadText") rfl))
  obtain ⟨fd0, F0⟩ := c.d.def_ 39 (d := ⟨("BadValue", some "__init__"), "__init__", "BadValue.__init__", defArgs Hd.m_BadValue, defBody Hd.m_BadValue, defScope Hd.m_BadValue, [], []⟩) rfl
  obtain ⟨fd1, F1⟩ := c.d.def_ 40 (d := ⟨("BadText", some "__init__"), "__init__", "BadText.__init__", defArgs Hd.m_BadText, defBody Hd.m_BadText, defScope Hd.m_BadText, [], []⟩) rfl
  refine ⟨fd, fun s v => bnd s [v] rfl, nl, fun base _ _ => ?_⟩
  have i_BadValue : ExMk P w K mg base 1 "BadValue" (He.ga K "BadValue") "at" := init_ok (p := "at") (s := Hd.m_BadValue) (exiB_ok x0) m_BadValue F0 (He.meth_ok (c.d.fact 68 (f := .meth "BadValue" "__init__") rfl)) ⟨rfl, rfl, rfl, by decide +kernel, rfl, by decide +kernel, by decide +kernel⟩ (fun _ _ _ _ _ _ us hl => match us, hl with | [_, _], _ => rfl) (fun _ _ _ _ _ _ _ _ => rfl) (fun cdv A outer st H E => pss_one (ps_exst (pv 0) (pv 1)))
  have i_BadText : ExMk P w K mg base 1 "BadText" (He.ga K "BadText") "at" := init_ok (p := "at") (s := Hd.m_BadText) (exiB_ok x1) m_BadText F1 (He.meth_ok (c.d.fact 69 (f := .meth "BadText" "__init__") rfl)) ⟨rfl, rfl, rfl, by decide +kernel, rfl, by decide +kernel, by decide +kernel⟩ (fun _ _ _ _ _ _ us hl => match us, hl with | [_, _], _ => rfl) (fun _ _ _ _ _ _ _ _ => rfl) (fun cdv A outer st H E => pss_one (ps_exst (pv 0) (pv 1)))
  have Y : Et P w K mg base := { i_BadValue := i_BadValue, x_BadValue := exiB_ok x0, i_BadText := i_BadText, x_BadText := exiB_ok x1, m_MapError := m_MapError, m_BadValue := m_BadValue, m_BadText := m_BadText, em := fun x hx y hy => of_decide_eq_true (em x hx y hy), t_KINDS := TupK.of (He.glo_ok X G (c.d.fact 70 (f := .glo "KINDS") rfl)) tp }
  have c_is_integer : Cal P w K mg base 1 "is_integer" ["value"] (sp1 gInt) := c_is_integer Dis_integer T
  have c_is_between : Cal P w K mg base 2 "is_between" ["value", "low", "high"] (sp3 gBet) := c_is_between Dis_between T c_is_integer
  have c_is_sequence : Cal P w K mg base 1 "is_sequence" ["value"] (sp1 gSeq) := c_is_sequence Dis_sequence T
  have c_is_row : Cal P w K mg base 2 "is_row" ["value", "many"] (sp2 gRow) := c_is_row Dis_row T c_is_sequence
  have c_is_column : Cal P w K mg base 2 "is_column" ["value", "most"] (sp2 gCol) := c_is_column Dis_column T c_is_sequence
  have c_is_place : Cal P w K mg base 3 "is_place" ["value", "farthest"] (sp2 gPlace) := c_is_place Dis_place T c_is_between c_is_row
  have c_is_name : Cal P w K mg base 1 "is_name" ["value"] (sp1 gNm) := c_is_name Dis_name T
  have c_is_label_size : Cal P w K mg base 3 "is_label_size" ["value"] (sp1 gLab) := c_is_label_size Dis_label_size T c_is_between c_is_row
  have c_is_node : Cal P w K mg base 4 "is_node" ["value"] (sp1 gNode) := c_is_node Dis_node T c_is_place c_is_name c_is_row
  have c_is_mark : Cal P w K mg base 4 "is_mark" ["value"] (sp1 gMark) := c_is_mark Dis_mark T c_is_label_size c_is_place c_is_name c_is_row
  have c_is_line : Cal P w K mg base 4 "is_line" ["value", "node_names"] (sp2 gLine) := c_is_line Dis_line T c_is_place c_is_column c_is_name c_is_row
  have c__law_draw : Cal P w K mg base 1 "_law_draw" ["row", "at", "limit"] (sp3 gDraw) := c__law_draw D_law_draw T
  have c__law_take : Cal P w K mg base 2 "_law_take" ["row", "spot", "limit"] (spG gTake) := c__law_take D_law_take T c__law_draw
  have c__law_wide : Cal P w K mg base 3 "_law_wide" ["row", "spot", "limit"] (spG gWide) := c__law_wide D_law_wide T c__law_take
  have c__law_listed : Cal P w K mg base 11 "_law_listed" ["value"] (sp1 (gLis 10)) := c__law_listed D_law_listed T 10
  have c__law_whole : Cal P w K mg base 1 "_law_whole" ["value"] (sp1 gInt) := c__law_whole D_law_whole T
  have c__law_is_number : Cal P w K mg base 2 "_law_is_number" ["value", "limit"] (sp2 gNum) := c__law_is_number D_law_is_number T c__law_whole
  have c__law_is_name : Cal P w K mg base 1 "_law_is_name" ["value"] (sp1 gNm2) := c__law_is_name D_law_is_name T
  have c_have_different_names : Cal P w K mg base 1 "have_different_names" ["rows"] (sp1 gDif) := c_have_different_names Dhave_different_names T
  have c_is_map : Cal P w K mg base 5 "is_map" ["value"] (sp1 gMap) := c_is_map Dis_map T c_have_different_names c_is_line c_is_column c_is_mark c_is_node c_is_row
  have c_number_told : Cal P w K mg base 1 "number_told" ["word"] (sp1 gNumT) := c_number_told Dnumber_told T
  have c_row_told : Cal P w K mg base 2 "row_told" ["words"] (sp1 gRowT) := c_row_told Drow_told T c_number_told
  have c_with_words : Cal P w K mg base 6 "with_words" ["world", "words"] (sp2 gWithW) := c_with_words Dwith_words T Y c_is_map c_row_told
  have c_words_of : Cal P w K mg base 1 "words_of" ["world"] (sp1 gWordsOf) := c_words_of Dwords_of T Y
  have c_printed : CalX P w K mg base 6 "printed" ["world"] (spX (gPrint K)) := c_printed Dprinted T Y c_words_of c_is_map
  have ckx_printed : CalXW P w K mg base 6 "printed" ["world"] (spX (gPrint K)) := ckx_printed Dprinted T Y c_words_of c_is_map
  have c_parse : CalX P w K mg base 7 "parse" ["text"] (spX (gParse K)) := c_parse Dparse T Y c_with_words
  have ckx_parse : CalXW P w K mg base 7 "parse" ["text"] (spX (gParse K)) := ckx_parse Dparse T Y c_with_words
  have c__law_is_row : Cal P w K mg base 2 "_law_is_row" ["value", "most", "width"] (sp3 gLRow) := c__law_is_row D_law_is_row T c__law_is_name
  have c__law_is_map : Cal P w K mg base 3 "_law_is_map" ["value"] (sp1 gLMap) := c__law_is_map D_law_is_map T c__law_is_number c__law_is_row
  have c__law_name : Cal P w K mg base 3 "_law_name" ["row", "spot", "used"] (spG gName) := c__law_name D_law_name T c__law_take
  have c__law_free_number : Cal P w K mg base 4 "_law_free_number" ["row", "spot"] (spG gFree) := c__law_free_number D_law_free_number T c__law_take c__law_wide
  have c__law_handed : Cal P w K mg base 12 "_law_handed" ["row", "spot", "value"] (spG gHanded) := c__law_handed D_law_handed T c__law_take c__law_listed
  have c__law_free_map : Cal P w K mg base 5 "_law_free_map" ["row", "spot"] (spG gFreeMap) := c__law_free_map D_law_free_map T c__law_take c__law_free_number c__law_name c__law_wide
  have c__law_numbers : Cal P w K mg base 1 "_law_numbers" ["script"] (spG gNumbers) := c__law_numbers D_law_numbers T
  have c__law_so : Cal P w K mg base 11 "_law_so" ["found", "meant"] (sp2 (gSo 10)) := c__law_so D_law_so T 10
  have c__law_integer_of : Cal P w K mg base 1 "_law_integer_of" ["word"] (sp1 gIntT) := c__law_integer_of D_law_integer_of T
  have c__law_read_line : Cal P w K mg base 4 "_law_read_line" ["world", "words"] (sp2 gRead) := c__law_read_line D_law_read_line T c__law_is_map c__law_integer_of
  have c__law_parsed : Cal P w K mg base 5 "_law_parsed" ["text"] (sp1 gParsed) := c__law_parsed D_law_parsed T c__law_read_line
  have c__law_map_text : Cal P w K mg base 1 "_law_map_text" ["world"] (sp1 gMapText) := c__law_map_text D_law_map_text T
  exact c_law F T ckx_printed ckx_parse c__law_so c_printed c_parse c__law_parsed c__law_take c__law_handed c__law_map_text c__law_free_map c__law_numbers
end Pv

set_option Elab.async false
set_option linter.all false
set_option maxRecDepth 100000
set_option maxHeartbeats 4000000
open PySem L2 Pw Hd PyProof.Rows
open PySem PySem.W PySem.Calls PyProof.Rows
theorem PySem.Challenge.cw_cornerfade_k34_maps_printed_and_parsed_holds : PySem.Challenge.rw_cornerfade_k34_maps_printed_and_parsed.Holds := by
  w_on; o_law
  refine HandSHeadRun.head_any (r := OpenLaw.row PySem.Challenge.rw_cornerfade_k34_maps_printed_and_parsed) (q := view (OpenLaw.row PySem.Challenge.rw_cornerfade_k34_maps_printed_and_parsed).prog [57]) (H := Hd.hk) (ob := Hd.ob) (M := 60000) (loose := Hd.loose) (d := HandSHeadRun.topDef (OpenLaw.row PySem.Challenge.rw_cornerfade_k34_maps_printed_and_parsed).prog 57) (kwd := []) Hd.ob_eq
    (by kernel_rfl) (fun s => by kernel_rfl) Hd.run (by kernel_rfl) (by kernel_rfl) (by kernel_rfl) (by rfl) (by first | assumption | decide +kernel) (by decide +kernel) ⟨rfl, rfl, rfl, rfl, rfl, by decide +kernel⟩ ?hw ?hc
  case hw => w_witness2
  case hc =>
    refine L2.walk_ofE (l := PySem.Challenge.rw_cornerfade_k34_maps_printed_and_parsed) (n := 63) (k := 15) (x := "script") (CX := L2.CX0) rfl (by decide) (by kernel_rfl) ⟨rfl, by decide, by decide⟩ ?F (fun _ _ _ _ z => z)
    intro w mg fa h Y G hmg0
    obtain ⟨K, KX, c⟩ := Y
    have hmg : mg ("law" : PySem.Str) = some (.ref fa) := by
      have e : (HandSHeadRun.topDef (OpenLaw.row PySem.Challenge.rw_cornerfade_k34_maps_printed_and_parsed).prog 57).name = ("law" : PySem.Str) := by kernel_rfl
      rw [← e]
      exact hmg0
    obtain ⟨fd, hb, nl, hF⟩ := Pv.facts (P := (PySem.Challenge.rw_cornerfade_k34_maps_printed_and_parsed).prog) (w := w) KX G hmg c
    exact ⟨K, fd, _, KX, hb, fun H a ns hl hO hS => Pw.law_entry nl hl hO hS, hF⟩
