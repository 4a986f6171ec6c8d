import PyProof.Rows.All
import HandS.ForMost
import HandS.TupAny
import HandS.TupMul
import HandS.Style
import HandS.Flow
import HandS.Zip
import HandS.Deep
import HandS.Small
import HandS.DictComp
import KE.SortData
import HandS.IsInst
import HandS.Conv
import HandS.Set
import HandS.TupSets
import PyProof.Rows.SetFrom
import HandS.SetFor
import KE.SortLaws
import PyProof.MeetsDict
import PySem.Challenge.RW_forktales_k11_loose_ends_told
section
set_option Elab.async false
set_option linter.all false
set_option maxRecDepth 100000
/-! PL0: deep values, stores, what stands for what, the judgements of shallow mirrors -/
namespace PL
open PySem PySem.Spec PyProof.Rows L2

/-- a deep value: tuples by content, what may change by its number in the store -/
inductive D where
  | non | bl (b : Bool) | int (i : Int) | str (x : Str) | tup (xs : List D) | ref (n : Nat) | fn (x : Str) | ty (n : String) | ktup (xs : List D)

/-- what may change -/
inductive Ob where
  | lst (xs : List D)
  | cst (xs : List D)
  | dK (kvs : List (Key × D))
  | dT (kvs : List (List Key × D))
  /-- a dict that is being walked -/
  | lkK (kvs : List (Key × D))

def Ob.own : Ob → Bool
  | .cst _ => false
  | _ => true
def Ob.mut : Ob → Bool
  | .cst _ => false
  | .lkK _ => false
  | _ => true
theorem Ob.own_of {o : Ob} (h : o.mut = true) : o.own = true := by
  cases o <;> first | rfl | cases h
abbrev Sto := List Ob
abbrev Env := List (Option D)

section
variable (K : PySem.W.Frag) (mg : Str → Option Value)

/-- a tuple that was made -/
def TupAt (H : Hp) (a : Addr) (xs : List V) : Prop := H a = some (.tup xs)
omit K mg in
theorem TupAt.sq {K : PySem.W.Frag} {H : Hp} {a : Addr} {xs : List V} (h : TupAt H a xs) : SqT K H a xs := .inl (.inl h)
/-- a tuple of the module -/
def KtAt (a : Addr) (xs : List V) : Prop := ∃ (o : Obj) (its : Array Value) (n : Nat), K.lookup a = some o ∧ o.cls = .type "tuple" ∧ o.data = .seq its n ∧ its.size ≤ sizeLine ∧ Vals xs its.toList
theorem KtAt.sq {K : PySem.W.Frag} {H : Hp} {a : Addr} {xs : List V} (h : KtAt K a xs) : SqT K H a xs := .inr h
/-- a list that is read alone -/
def CstAt (H : Hp) (a : Addr) (xs : List V) : Prop :=
  (∃ o, H a = some (.frz o (.lst xs))) ∨ ∃ (o : Obj) (its : Array Value) (n : Nat), K.lookup a = some o ∧ o.cls = .type "list" ∧ o.dict = none ∧ o.data = .seq its n ∧ its.size ≤ sizeLine ∧ Vals xs its.toList
theorem CstAt.sq {K : PySem.W.Frag} {H : Hp} {a : Addr} {xs : List V} (h : CstAt K H a xs) : SqL K H a xs := by
  rcases h with ⟨o, h⟩ | h
  · exact .inl (.inr ⟨o, h⟩)
  · exact .inr h

mutual
inductive RepV (r : List Addr) (H : Hp) : D → V → Prop
  | non : RepV r H .non .non
  | bl (b : Bool) : RepV r H (.bl b) (.bl b)
  | int (i : Int) : RepV r H (.int i) (.int i)
  | str (x : Str) : RepV r H (.str x) (.str x)
  | ty (n : String) : RepV r H (.ty n) (.ty n)
  | tup {a : Addr} {vs : List V} {ds : List D} : TupAt H a vs → RepL r H ds vs → RepV r H (.tup ds) (.ref a)
  | ktup {a : Addr} {vs : List V} {ds : List D} : KtAt K a vs → RepL r H ds vs → RepV r H (.ktup ds) (.ref a)
  | ref {n : Nat} {a : Addr} : r[n]? = some a → RepV r H (.ref n) (.ref a)
  | fn {x : Str} {f : Addr} : mg x = some (.ref f) → RepV r H (.fn x) (.ref f)
inductive RepL (r : List Addr) (H : Hp) : List D → List V → Prop
  | nil : RepL r H [] []
  | cons {d : D} {v : V} {ds : List D} {vs : List V} : RepV r H d v → RepL r H ds vs → RepL r H (d :: ds) (v :: vs)
end

/-- what is kept: the numbers' addresses, the tuples, the locked lists -/
structure Lat (r : List Addr) (H : Hp) (r' : List Addr) (H' : Hp) : Prop where
  pre : ∀ (n : Nat) (a : Addr), r[n]? = some a → r'[n]? = some a
  tup : ∀ a xs, H a = some (.tup xs) → H' a = some (.tup xs)
  frz : ∀ a o u, H a = some (.frz o u) → H' a = some (.frz o u)

variable {K mg}
theorem Lat.refl {r : List Addr} {H : Hp} : Lat r H r H := ⟨fun _ _ h => h, fun _ _ h => h, fun _ _ _ h => h⟩
theorem Lat.trans {r r1 r2 : List Addr} {H H1 H2 : Hp} (a : Lat r H r1 H1) (b : Lat r1 H1 r2 H2) : Lat r H r2 H2 :=
  ⟨fun n x h => b.pre n x (a.pre n x h), fun x y h => b.tup x y (a.tup x y h), fun x o u h => b.frz x o u (a.frz x o u h)⟩
theorem TupAt.lat {r r' : List Addr} {H H' : Hp} {a : Addr} {xs : List V} (l : Lat r H r' H') (h : TupAt H a xs) : TupAt H' a xs := l.tup _ _ h
theorem CstAt.lat {r r' : List Addr} {H H' : Hp} {a : Addr} {xs : List V} (l : Lat r H r' H') (h : CstAt K H a xs) : CstAt K H' a xs := by
  rcases h with ⟨o, h⟩ | h
  · exact .inl ⟨o, l.frz _ _ _ h⟩
  · exact .inr h
mutual
theorem RepV.lat {r r' : List Addr} {H H' : Hp} (l : Lat r H r' H') : ∀ {d : D} {v : V}, RepV K mg r H d v → RepV K mg r' H' d v
  | _, _, .non => .non
  | _, _, .bl b => .bl b
  | _, _, .int i => .int i
  | _, _, .str x => .str x
  | _, _, .ty n => .ty n
  | _, _, .tup h q => .tup (h.lat l) (RepL.lat l q)
  | _, _, .ktup h q => .ktup h (RepL.lat l q)
  | _, _, .ref h => .ref (l.pre _ _ h)
  | _, _, .fn h => .fn h
theorem RepL.lat {r r' : List Addr} {H H' : Hp} (l : Lat r H r' H') : ∀ {ds : List D} {vs : List V}, RepL K mg r H ds vs → RepL K mg r' H' ds vs
  | _, _, .nil => .nil
  | _, _, .cons h q => .cons (RepV.lat l h) (RepL.lat l q)
end
theorem RepL.length {r : List Addr} {H : Hp} : ∀ {ds : List D} {vs : List V}, RepL K mg r H ds vs → ds.length = vs.length
  | _, _, .nil => rfl
  | _, _, .cons _ q => congrArg Nat.succ q.length
theorem RepL.get {r : List Addr} {H : Hp} : ∀ {ds : List D} {vs : List V} {i : Nat} {d : D}, RepL K mg r H ds vs → ds[i]? = some d → ∃ v, vs[i]? = some v ∧ RepV K mg r H d v
  | _, _, _, _, .nil, e => by simp at e
  | _, _, 0, _, .cons h _, e => by simp at e; subst e; exact ⟨_, rfl, h⟩
  | _, _, i + 1, d, .cons _ q, e => by
    obtain ⟨v, h1, h2⟩ := RepL.get (i := i) (d := d) q (by simpa using e)
    exact ⟨v, by simpa using h1, h2⟩
theorem RepL.getV {r : List Addr} {H : Hp} : ∀ {ds : List D} {vs : List V} {i : Nat} {v : V}, RepL K mg r H ds vs → vs[i]? = some v → ∃ d, ds[i]? = some d ∧ RepV K mg r H d v
  | _, _, _, _, .nil, e => by simp at e
  | _, _, 0, _, .cons h _, e => by simp at e; subst e; exact ⟨_, rfl, h⟩
  | _, _, i + 1, d, .cons _ q, e => by
    obtain ⟨v, h1, h2⟩ := RepL.getV (i := i) (v := d) q (by simpa using e)
    exact ⟨v, by simpa using h1, h2⟩
theorem RepL.append {r : List Addr} {H : Hp} : ∀ {ds es : List D} {vs ws : List V}, RepL K mg r H ds vs → RepL K mg r H es ws → RepL K mg r H (ds ++ es) (vs ++ ws)
  | _, _, _, _, .nil, q => q
  | _, _, _, _, .cons h t, q => .cons h (t.append q)
theorem RepL.take {r : List Addr} {H : Hp} : ∀ {ds : List D} {vs : List V} (n : Nat), RepL K mg r H ds vs → RepL K mg r H (ds.take n) (vs.take n)
  | _, _, 0, _ => .nil
  | _, _, _ + 1, .nil => .nil
  | _, _, n + 1, .cons h t => .cons h (t.take n)
theorem RepL.drop {r : List Addr} {H : Hp} : ∀ {ds : List D} {vs : List V} (n : Nat), RepL K mg r H ds vs → RepL K mg r H (ds.drop n) (vs.drop n)
  | _, _, 0, q => q
  | _, _, _ + 1, .nil => .nil
  | _, _, n + 1, .cons _ t => t.drop n
theorem RepL.set {r : List Addr} {H : Hp} {d : D} {v : V} (h : RepV K mg r H d v) : ∀ {ds : List D} {vs : List V} (n : Nat), RepL K mg r H ds vs → RepL K mg r H (ds.set n d) (vs.set n v)
  | _, _, _, .nil => .nil
  | _, _, 0, .cons _ t => .cons h t
  | _, _, n + 1, .cons q t => .cons q (t.set h n)
theorem RepL.reverse {r : List Addr} {H : Hp} {ds : List D} {vs : List V} (q : RepL K mg r H ds vs) : RepL K mg r H ds.reverse vs.reverse := by
  induction ds generalizing vs with
  | nil => cases q; exact .nil
  | cons d ds ih =>
    cases q with
    | cons h t =>
      rw [List.reverse_cons, List.reverse_cons]
      exact (ih t).append (.cons h .nil)
end

section
variable (K : PySem.W.Frag) (mg : Str → Option Value)
def RepKs {k : Type} (r : List Addr) (H : Hp) : List (k × D) → List (k × V) → Prop := Paired fun (p : k × D) (q : k × V) => p.1 = q.1 ∧ RepV K mg r H p.2 q.2
/-- an object of the store stands at a -/
def RepO (r : List Addr) (H : Hp) : Ob → Addr → Prop
  | .lst xs, a => ∃ vs, H a = some (.lst vs) ∧ RepL K mg r H xs vs
  | .cst xs, a => ∃ vs, CstAt K H a vs ∧ RepL K mg r H xs vs
  | .dK kvs, a => ∃ ws, H a = some (.dK ws) ∧ RepKs K mg r H kvs ws
  | .dT kvs, a => ∃ ws, H a = some (.dT ws) ∧ RepKs K mg r H kvs ws
  | .lkK kvs, a => ∃ od ws, H a = some (.frz od (.dK ws)) ∧ RepKs K mg r H kvs ws
structure Sim (r : List Addr) (S : Sto) (H : Hp) : Prop where
  len : r.length = S.length
  nd : ∀ (i j : Nat) (a : Addr) (o u : Ob), r[i]? = some a → r[j]? = some a → S[i]? = some o → S[j]? = some u → o.own = true → u.own = true → i = j
  ob : ∀ (n : Nat) (o : Ob) (a : Addr), S[n]? = some o → r[n]? = some a → RepO K mg r H o a
/-- the slots -/
structure REnv (r : List Addr) (H : Hp) (env : Env) (s : L2.St) : Prop where
  len : s.length = env.length
  at_ : ∀ (i : Nat) (d : D), env[i]? = some (some d) → ∃ v, s[i]? = some (some v) ∧ RepV K mg r H d v
variable {K mg}
theorem RepKs.lat {k : Type} {r r' : List Addr} {H H' : Hp} (l : Lat r H r' H') {ks : List (k × D)} {ws : List (k × V)} (h : RepKs K mg r H ks ws) : RepKs K mg r' H' ks ws :=
  Paired.mapP h fun _ _ q => ⟨q.1, q.2.lat l⟩
theorem RepO.lat {r r' : List Addr} {H H' : Hp} {o : Ob} {a : Addr} (l : Lat r H r' H') (he : H' a = H a) (h : RepO K mg r H o a) : RepO K mg r' H' o a := by
  cases o with
  | lst xs => obtain ⟨vs, e, q⟩ := h; exact ⟨vs, he.trans e, q.lat l⟩
  | cst xs => obtain ⟨vs, e, q⟩ := h; exact ⟨vs, e.lat l, q.lat l⟩
  | dK xs => obtain ⟨vs, e, q⟩ := h; exact ⟨vs, he.trans e, q.lat l⟩
  | dT xs => obtain ⟨vs, e, q⟩ := h; exact ⟨vs, he.trans e, q.lat l⟩
  | lkK xs => obtain ⟨od, vs, e, q⟩ := h; exact ⟨od, vs, he.trans e, q.lat l⟩
theorem REnv.lat {r r' : List Addr} {H H' : Hp} {env : Env} {s : L2.St} (l : Lat r H r' H') (h : REnv K mg r H env s) : REnv K mg r' H' env s :=
  ⟨h.len, fun i d e => let ⟨v, e1, q⟩ := h.at_ i d e; ⟨v, e1, q.lat l⟩⟩
theorem REnv.set {r : List Addr} {H : Hp} {env : Env} {s : L2.St} {i : Nat} {d : D} {v : V} (h : REnv K mg r H env s) (q : RepV K mg r H d v) : REnv K mg r H (env.set i (some d)) (s.set i (some v)) := by
  refine ⟨by simpa using h.len, fun j e hj => ?_⟩
  by_cases hij : i = j
  · subst hij
    by_cases hi : i < env.length
    · rw [List.getElem?_set_self hi] at hj
      cases hj
      exact ⟨v, List.getElem?_set_self (by rw [h.len]; exact hi), q⟩
    · rw [List.getElem?_eq_none (by simpa using hi)] at hj
      cases hj
  · rw [List.getElem?_set_ne hij] at hj
    obtain ⟨w, e1, q1⟩ := h.at_ j e hj
    exact ⟨w, by rw [List.getElem?_set_ne hij]; exact e1, q1⟩
theorem Sim.addr {r : List Addr} {S : Sto} {H : Hp} (h : Sim K mg r S H) {n : Nat} {o : Ob} (e : S[n]? = some o) : ∃ a, r[n]? = some a ∧ RepO K mg r H o a := by
  have hn : n < r.length := by rw [h.len]; exact (List.getElem?_eq_some_iff.mp e).1
  exact ⟨r[n], List.getElem?_eq_getElem hn, h.ob n o _ e (List.getElem?_eq_getElem hn)⟩
theorem RepO.there {r : List Addr} {H : Hp} {o : Ob} {a : Addr} (h : RepO K mg r H o a) (hc : o.mut = true) : ∃ u, H a = some u ∧ Mut (some u) := by
  cases o with
  | lst xs => obtain ⟨vs, e, q⟩ := h; exact ⟨_, e, trivial⟩
  | cst xs => cases hc
  | lkK xs => cases hc
  | dK xs => obtain ⟨vs, e, q⟩ := h; exact ⟨_, e, trivial⟩
  | dT xs => obtain ⟨vs, e, q⟩ := h; exact ⟨_, e, trivial⟩
theorem RepO.some {r : List Addr} {H : Hp} {o : Ob} {a : Addr} (h : RepO K mg r H o a) (hc : o.own = true) : ∃ u, H a = some u := by
  cases o with
  | lst xs => obtain ⟨vs, e, q⟩ := h; exact ⟨_, e⟩
  | cst xs => cases hc
  | lkK xs => obtain ⟨od, vs, e, q⟩ := h; exact ⟨_, e⟩
  | dK xs => obtain ⟨vs, e, q⟩ := h; exact ⟨_, e⟩
  | dT xs => obtain ⟨vs, e, q⟩ := h; exact ⟨_, e⟩
/-- a tuple is laid -/
theorem lat_tup {r : List Addr} {H : Hp} {p : Addr} {vs : List V} (np : H p = none) : Lat r H r (upd H p (.tup vs)) :=
  ⟨fun _ _ h => h, fun b xs e => by rw [upd_ne (ne_of_none e np)]; exact e, fun b o u e => by rw [upd_ne (ne_of_none e np)]; exact e⟩
theorem Sim.tup {r : List Addr} {S : Sto} {H : Hp} {p : Addr} {vs : List V} (h : Sim K mg r S H) (np : H p = none) : Sim K mg r S (upd H p (.tup vs)) := by
  refine ⟨h.len, h.nd, fun n o a e1 e2 => ?_⟩
  have q := h.ob n o a e1 e2
  cases o with
  | cst xs => obtain ⟨ws, e, z⟩ := q; exact ⟨ws, e.lat (lat_tup (r := r) np), z.lat (lat_tup np)⟩
  | lst xs => obtain ⟨ws, e, _⟩ := id q; exact q.lat (lat_tup np) (upd_ne (ne_of_none e np))
  | dK xs => obtain ⟨ws, e, _⟩ := id q; exact q.lat (lat_tup np) (upd_ne (ne_of_none e np))
  | dT xs => obtain ⟨ws, e, _⟩ := id q; exact q.lat (lat_tup np) (upd_ne (ne_of_none e np))
  | lkK xs => obtain ⟨od, ws, e, _⟩ := id q; exact q.lat (lat_tup np) (upd_ne (ne_of_none e np))
/-- a list, a dict is laid -/
theorem lat_new {r : List Addr} {H : Hp} {p : Addr} {u : HO} (np : H p = none) : Lat r H (r ++ [p]) (upd H p u) :=
  ⟨fun n a h => by rw [List.getElem?_append_left (List.getElem?_eq_some_iff.mp h).1]; exact h, fun b xs e => by rw [upd_ne (ne_of_none e np)]; exact e, fun b o u e => by rw [upd_ne (ne_of_none e np)]; exact e⟩
theorem Sim.new {r : List Addr} {S : Sto} {H : Hp} {p : Addr} {u : HO} {o : Ob} (h : Sim K mg r S H) (np : H p = none) (q : RepO K mg (r ++ [p]) (upd H p u) o p) : Sim K mg (r ++ [p]) (S ++ [o]) (upd H p u) := by
  have hz : ∀ (i : Nat) (a : Addr), (r ++ [p])[i]? = some a → (i < r.length ∧ r[i]? = some a) ∨ (i = r.length ∧ a = p) := fun i a e => by
    by_cases hi : i < r.length
    · rw [List.getElem?_append_left hi] at e
      exact .inl ⟨hi, e⟩
    · rw [List.getElem?_append_right (by omega)] at e
      by_cases h0 : i = r.length
      · subst h0
        rw [Nat.sub_self] at e
        exact .inr ⟨rfl, (Option.some.inj e).symm⟩
      · obtain ⟨m, hm⟩ : ∃ m, i - r.length = m + 1 := ⟨i - r.length - 1, by omega⟩
        rw [hm] at e
        simp at e
  have old : ∀ (i : Nat) (o' : Ob), i < r.length → (S ++ [o])[i]? = some o' → S[i]? = some o' := fun i o' hi e => by
    rw [List.getElem?_append_left (by rw [← h.len]; exact hi)] at e
    exact e
  have keep : ∀ (i : Nat) (a : Addr) (o' : Ob), r[i]? = some a → S[i]? = some o' → o'.own = true → a ≠ p := fun i a o' e1 e2 hm z => by
    obtain ⟨w, e3⟩ := (h.ob i o' a e2 e1).some hm
    rw [z, np] at e3
    cases e3
  refine ⟨by rw [List.length_append, List.length_append, h.len]; rfl, fun i j a o1 o2 ei ej e1 e2 m1 m2 => ?_, fun n o' a e1 e2 => ?_⟩
  · rcases hz i a ei with ⟨li, fi⟩ | ⟨li, fi⟩
    · rcases hz j a ej with ⟨lj, fj⟩ | ⟨lj, fj⟩
      · exact h.nd i j a o1 o2 fi fj (old i _ li e1) (old j _ lj e2) m1 m2
      · exact absurd fj (keep i a o1 fi (old i _ li e1) m1)
    · rcases hz j a ej with ⟨lj, fj⟩ | ⟨lj, fj⟩
      · exact absurd fi (keep j a o2 fj (old j _ lj e2) m2)
      · rw [li, lj]
  · rcases hz n a e2 with ⟨li, fi⟩ | ⟨li, fi⟩
    · have q1 := h.ob n o' a (old n _ li e1) fi
      cases hm : o'.own with
      | true => exact q1.lat (lat_new np) (upd_ne (keep n a o' fi (old n _ li e1) hm))
      | false =>
        cases o' with
        | cst xs => obtain ⟨ws, e, z⟩ := q1; exact ⟨ws, e.lat (lat_new (r := r) np), z.lat (lat_new np)⟩
        | lst xs => cases hm
        | dK xs => cases hm
        | dT xs => cases hm
        | lkK xs => cases hm
    · subst fi
      subst li
      rw [h.len, List.getElem?_append_right (Nat.le_refl _), Nat.sub_self] at e1
      cases e1
      exact q
/-- an object is written -/
theorem lat_upd {r : List Addr} {H : Hp} {a : Addr} {u v : HO} (e : H a = some u) (hm : Mut (some u)) : Lat r H r (upd H a v) := by
  refine ⟨fun _ _ h => h, fun b xs eb => ?_, fun b o w eb => ?_⟩
  · have : b ≠ a := fun z => by rw [z, e] at eb; cases eb; exact hm
    rw [upd_ne this]; exact eb
  · have : b ≠ a := fun z => by rw [z, e] at eb; cases eb; exact hm
    rw [upd_ne this]; exact eb
theorem Sim.put {r : List Addr} {S : Sto} {H : Hp} {a : Addr} {n : Nat} {o o' : Ob} {v : HO} (h : Sim K mg r S H) (eo : S[n]? = some o) (ea : r[n]? = some a) (hm : o.mut = true) (hm' : o'.own = true)
    (q : RepO K mg r (upd H a v) o' a) : Sim K mg r (S.set n o') (upd H a v) ∧ Lat r H r (upd H a v) := by
  obtain ⟨u, eu, mu⟩ := (h.ob n o a eo ea).there hm
  have L : Lat r H r (upd H a v) := lat_upd eu mu
  have hn : n < S.length := (List.getElem?_eq_some_iff.mp eo).1
  have back : ∀ (i : Nat) (w : Ob), (S.set n o')[i]? = some w → (i = n ∧ w = o') ∨ (i ≠ n ∧ S[i]? = some w) := fun i w e => by
    by_cases hi : n = i
    · subst hi
      rw [List.getElem?_set_self hn] at e
      exact .inl ⟨rfl, (Option.some.inj e).symm⟩
    · rw [List.getElem?_set_ne hi] at e
      exact .inr ⟨fun z => hi z.symm, e⟩
  refine ⟨⟨by rw [h.len, List.length_set], fun i j b o1 o2 ei ej e1 e2 m1 m2 => ?_, fun m w b e1 e2 => ?_⟩, L⟩
  · rcases back i o1 e1 with ⟨i1, i2⟩ | ⟨i1, i2⟩
    · rcases back j o2 e2 with ⟨j1, j2⟩ | ⟨j1, j2⟩
      · rw [i1, j1]
      · exact h.nd i j b o o2 ei ej (by rw [i1]; exact eo) j2 (Ob.own_of hm) m2
    · rcases back j o2 e2 with ⟨j1, j2⟩ | ⟨j1, j2⟩
      · exact h.nd i j b o1 o ei ej i2 (by rw [j1]; exact eo) m1 (Ob.own_of hm)
      · exact h.nd i j b o1 o2 ei ej i2 j2 m1 m2
  · rcases back m w e1 with ⟨i1, i2⟩ | ⟨i1, i2⟩
    · subst i1
      subst i2
      rw [ea] at e2
      cases e2
      exact q
    · have q1 := h.ob m w b i2 e2
      cases hw : w.own with
      | true =>
        refine q1.lat L (upd_ne fun z => ?_)
        subst z
        exact i1 (h.nd m n b w o e2 ea i2 eo hw (Ob.own_of hm))
      | false =>
        cases w with
        | cst xs => obtain ⟨ws, e, z⟩ := q1; exact ⟨ws, e.lat L, z.lat L⟩
        | lst xs => cases hw
        | dK xs => cases hw
        | dT xs => cases hw
        | lkK xs => cases hw

/-! ### the largest readings -/
section
variable {X : Cx}
def TM (X : Cx) (e : Expr) : TE := fun σ H Q => ∀ pins s, Inv X pins σ H s → wpAny (model X.prog X.w) X.A (eval e X.env) (EP X pins σ Q) X.xe s
theorem pe_tm {e : Expr} : PE X e (TM X e) := ⟨fun pins s _ _ _ I h => h pins s I⟩
theorem tm_of {e : Expr} {t : TE} {σ : L2.St} {H : Hp} {Q : VK} (h : PE X e t) (q : t σ H Q) : TM X e σ H Q := fun pins s I => h.run pins s σ H Q I q
def TMt (X : Cx) (e : Expr) : TT := fun σ H Q => ∀ pins s, Inv X pins σ H s → wpAny (model X.prog X.w) X.A (isTrue e X.env (eval e X.env)) (TP X pins σ Q) X.xe s
theorem pt_tm {e : Expr} : PT X e (TMt X e) := ⟨fun pins s _ _ _ I h => h pins s I⟩
theorem tmt_of {e : Expr} {t : TT} {σ : L2.St} {H : Hp} {Q : Bool → Hp → Prop} (h : PT X e t) (q : t σ H Q) : TMt X e σ H Q := fun pins s I => h.run pins s σ H Q I q
def TMw (X : Cx) (e : Expr) : TT := fun σ H Q => ∀ (whole : Sem Value) pins s, Inv X pins σ H s → wpAny (model X.prog X.w) X.A (isTrue e X.env whole) (TP X pins σ Q) X.xe s
theorem pw_tm {e : Expr} : PW X e (TMw X e) := ⟨fun wh pins s _ _ _ I h => h wh pins s I⟩
theorem tmw_of {e : Expr} {t : TT} {σ : L2.St} {H : Hp} {Q : Bool → Hp → Prop} (h : PW X e t) (q : t σ H Q) : TMw X e σ H Q := fun wh pins s I => h.run wh pins s σ H Q I q
def TMa (X : Cx) (es : List Expr) : TA := fun σ H Q => ∀ (pos : Pos) pins s, Inv X pins σ H s → wpAny (model X.prog X.w) X.A (spliced (backTo pos (starEach es X.env))) (AP X pins σ Q) X.xe s
theorem pa_tm {es : List Expr} : PA X es (TMa X es) := ⟨fun pos pins s _ _ _ I h => h pos pins s I⟩
theorem tma_of {es : List Expr} {t : TA} {σ : L2.St} {H : Hp} {Q : List V → Hp → Prop} (h : PA X es t) (q : t σ H Q) : TMa X es σ H Q := fun pos pins s I => h.run pos pins s σ H Q I q
def TMs (X : Cx) (st : Stmt) : TS := fun D σ H => ∀ pins s, Inv X pins σ H s → wpAny (model X.prog X.w) X.A (exec st X.env) (SP X pins D) X.xe s
theorem ps_tm {st : Stmt} : PS X st (TMs X st) := ⟨fun pins s _ _ _ I h => h pins s I⟩
theorem tms_of {st : Stmt} {t : TS} {σ : L2.St} {H : Hp} {D : Ends} (h : PS X st t) (q : t D σ H) : TMs X st D σ H := fun pins s I => h.run pins s σ H D I q
def TMss (X : Cx) (st : List Stmt) : TS := fun D σ H => ∀ pins s, Inv X pins σ H s → wpAny (model X.prog X.w) X.A (execs st X.env) (SP X pins D) X.xe s
theorem pss_tm {st : List Stmt} : PSs X st (TMss X st) := ⟨fun pins s _ _ _ I h => h pins s I⟩
theorem tmss_of {st : List Stmt} {t : TS} {σ : L2.St} {H : Hp} {D : Ends} (h : PSs X st t) (q : t D σ H) : TMss X st D σ H := fun pins s I => h.run pins s σ H D I q
def TMg (X : Cx) (tg : Expr) : TG := fun v σ H Q => ∀ pins s u, Inv X pins σ H s → RelV v u → wpAny (model X.prog X.w) X.A (assign tg X.env u) (fun _ s' => ∃ σ' H', Inv X pins σ' H' s' ∧ Q σ' H') X.xe s
theorem pg_tm {tg : Expr} : PG X tg (TMg X tg) := ⟨fun pins s _ _ _ u _ I r h => h pins s u I r⟩
theorem tmg_of {tg : Expr} {t : TG} {σ : L2.St} {H : Hp} {v : V} {Q : L2.St → Hp → Prop} (h : PG X tg t) (q : t v σ H Q) : TMg X tg v σ H Q := fun pins s u I r => h.run pins s σ H v u Q I r q
end

/-! ### mirrors and what they promise -/
abbrev ME := Env → Sto → Option (D × Sto)
abbrev MT := Env → Sto → Option (Bool × Sto)
abbrev MA := Env → Sto → Option (List D × Sto)
inductive Flw where | nx | rt (d : D) | bk | ct
abbrev MS := Env → Sto → Option (Flw × Env × Sto)
abbrev MG := D → Env → Sto → Option (Env × Sto)
abbrev MF := List D → Sto → Option (D × Sto)

structure At (X : Cx) (r : List Addr) (env : Env) (S : Sto) (σ : L2.St) (H : Hp) : Prop where
  sim : Sim X.K X.mg r S H
  env : REnv X.K X.mg r H env σ

/-- e does what m says -/
def CE0 (X : Cx) (e : Expr) (m : ME) : Prop := ∀ env S d S', m env S = some (d, S') → ∀ r σ H (Q : VK), At X r env S σ H →
  (∀ r' H' v, Sim X.K X.mg r' S' H' → Lat r H r' H' → RepV X.K X.mg r' H' d v → Q v H') → TM X e σ H Q
structure CE (X : Cx) (e : Expr) (m : ME) : Prop where
  run : ∀ env S d S', m env S = some (d, S') → ∀ r σ H (Q : VK), At X r env S σ H →
  (∀ r' H' v, Sim X.K X.mg r' S' H' → Lat r H r' H' → RepV X.K X.mg r' H' d v → Q v H') → TM X e σ H Q
instance {X : Cx} {e : Expr} {m : ME} : CoeFun (CE X e m) (fun _ => ∀ env S d S', m env S = some (d, S') → ∀ r σ H (Q : VK), At X r env S σ H →
  (∀ r' H' v, Sim X.K X.mg r' S' H' → Lat r H r' H' → RepV X.K X.mg r' H' d v → Q v H') → TM X e σ H Q
) := ⟨CE.run⟩
def CT0 (X : Cx) (e : Expr) (m : MT) : Prop := ∀ env S b S', m env S = some (b, S') → ∀ r σ H (Q : Bool → Hp → Prop), At X r env S σ H →
  (∀ r' H', Sim X.K X.mg r' S' H' → Lat r H r' H' → Q b H') → TMt X e σ H Q
structure CT (X : Cx) (e : Expr) (m : MT) : Prop where
  run : ∀ env S b S', m env S = some (b, S') → ∀ r σ H (Q : Bool → Hp → Prop), At X r env S σ H →
  (∀ r' H', Sim X.K X.mg r' S' H' → Lat r H r' H' → Q b H') → TMt X e σ H Q
instance {X : Cx} {e : Expr} {m : MT} : CoeFun (CT X e m) (fun _ => ∀ env S b S', m env S = some (b, S') → ∀ r σ H (Q : Bool → Hp → Prop), At X r env S σ H →
  (∀ r' H', Sim X.K X.mg r' S' H' → Lat r H r' H' → Q b H') → TMt X e σ H Q
) := ⟨CT.run⟩
def CW0 (X : Cx) (e : Expr) (m : MT) : Prop := ∀ env S b S', m env S = some (b, S') → ∀ r σ H (Q : Bool → Hp → Prop), At X r env S σ H →
  (∀ r' H', Sim X.K X.mg r' S' H' → Lat r H r' H' → Q b H') → TMw X e σ H Q
structure CW (X : Cx) (e : Expr) (m : MT) : Prop where
  run : ∀ env S b S', m env S = some (b, S') → ∀ r σ H (Q : Bool → Hp → Prop), At X r env S σ H →
  (∀ r' H', Sim X.K X.mg r' S' H' → Lat r H r' H' → Q b H') → TMw X e σ H Q
instance {X : Cx} {e : Expr} {m : MT} : CoeFun (CW X e m) (fun _ => ∀ env S b S', m env S = some (b, S') → ∀ r σ H (Q : Bool → Hp → Prop), At X r env S σ H →
  (∀ r' H', Sim X.K X.mg r' S' H' → Lat r H r' H' → Q b H') → TMw X e σ H Q
) := ⟨CW.run⟩
def CA0 (X : Cx) (es : List Expr) (m : MA) : Prop := ∀ env S ds S', m env S = some (ds, S') → ∀ r σ H (Q : List V → Hp → Prop), At X r env S σ H →
  (∀ r' H' vs, Sim X.K X.mg r' S' H' → Lat r H r' H' → RepL X.K X.mg r' H' ds vs → Q vs H') → TMa X es σ H Q
structure CA (X : Cx) (es : List Expr) (m : MA) : Prop where
  run : ∀ env S ds S', m env S = some (ds, S') → ∀ r σ H (Q : List V → Hp → Prop), At X r env S σ H →
  (∀ r' H' vs, Sim X.K X.mg r' S' H' → Lat r H r' H' → RepL X.K X.mg r' H' ds vs → Q vs H') → TMa X es σ H Q
instance {X : Cx} {es : List Expr} {m : MA} : CoeFun (CA X es m) (fun _ => ∀ env S ds S', m env S = some (ds, S') → ∀ r σ H (Q : List V → Hp → Prop), At X r env S σ H →
  (∀ r' H' vs, Sim X.K X.mg r' S' H' → Lat r H r' H' → RepL X.K X.mg r' H' ds vs → Q vs H') → TMa X es σ H Q
) := ⟨CA.run⟩
/-- what a statement's end is asked -/
def EndsOk (X : Cx) (r : List Addr) (H : Hp) (f : Flw) (env' : Env) (S' : Sto) (D : Ends) : Prop :=
  match f with
  | .nx => ∀ r' σ' H', At X r' env' S' σ' H' → Lat r H r' H' → D.nx σ' H'
  | .bk => ∀ r' σ' H', At X r' env' S' σ' H' → Lat r H r' H' → D.bk σ' H'
  | .ct => ∀ r' σ' H', At X r' env' S' σ' H' → Lat r H r' H' → D.ct σ' H'
  | .rt d => ∀ r' H' v, Sim X.K X.mg r' S' H' → Lat r H r' H' → RepV X.K X.mg r' H' d v → D.rt v H'
def CS0 (X : Cx) (st : Stmt) (m : MS) : Prop := ∀ env S f env' S', m env S = some (f, env', S') → ∀ r σ H (D : Ends), At X r env S σ H → EndsOk X r H f env' S' D → TMs X st D σ H
structure CS (X : Cx) (st : Stmt) (m : MS) : Prop where
  run : ∀ env S f env' S', m env S = some (f, env', S') → ∀ r σ H (D : Ends), At X r env S σ H → EndsOk X r H f env' S' D → TMs X st D σ H
instance {X : Cx} {st : Stmt} {m : MS} : CoeFun (CS X st m) (fun _ => ∀ env S f env' S', m env S = some (f, env', S') → ∀ r σ H (D : Ends), At X r env S σ H → EndsOk X r H f env' S' D → TMs X st D σ H
) := ⟨CS.run⟩
def CSs0 (X : Cx) (st : List Stmt) (m : MS) : Prop := ∀ env S f env' S', m env S = some (f, env', S') → ∀ r σ H (D : Ends), At X r env S σ H → EndsOk X r H f env' S' D → TMss X st D σ H
structure CSs (X : Cx) (st : List Stmt) (m : MS) : Prop where
  run : ∀ env S f env' S', m env S = some (f, env', S') → ∀ r σ H (D : Ends), At X r env S σ H → EndsOk X r H f env' S' D → TMss X st D σ H
instance {X : Cx} {st : List Stmt} {m : MS} : CoeFun (CSs X st m) (fun _ => ∀ env S f env' S', m env S = some (f, env', S') → ∀ r σ H (D : Ends), At X r env S σ H → EndsOk X r H f env' S' D → TMss X st D σ H
) := ⟨CSs.run⟩
theorem EndsOk.lat {X : Cx} {r r1 : List Addr} {H H1 : Hp} {f : Flw} {env' : Env} {S' : Sto} {D : Ends} (l : Lat r H r1 H1) (h : EndsOk X r H f env' S' D) : EndsOk X r1 H1 f env' S' D := by
  cases f with
  | nx => exact fun r' σ' H' a b => h r' σ' H' a (l.trans b)
  | bk => exact fun r' σ' H' a b => h r' σ' H' a (l.trans b)
  | ct => exact fun r' σ' H' a b => h r' σ' H' a (l.trans b)
  | rt d => exact fun r' H' v a b c => h r' H' v a (l.trans b) c
end
end PL
end

section
set_option Elab.async false
set_option linter.all false
set_option maxRecDepth 100000
/-! PL1: the rules of expressions -/
namespace PL
open PySem PySem.Spec PyProof.Rows L2

abbrev R := Option (D × Sto)
section
variable {X : Cx}

/-! ### names, constants -/
def mVar (i : Nat) : ME := fun env S => match env[i]? with
  | some (some d) => some (d, S)
  | _ => none
def mC (d : D) : ME := fun _ S => some (d, S)
theorem cE_var {i : Nat} {x : Str} {pos : Pos} (hN : X.N[i]? = some x) (hv : Vis X.env.scope x) (hd : (x == ("__debug__" : Str)) = false := by decide) (hcd : (x == ("__classdict__" : Str)) = false := by decide) : CE X (.Name x pos) (mVar i) := by
  refine ⟨?_⟩
  intro env S d S' h r σ H Q A hq
  unfold mVar at h
  split at h
  · rename_i d' e
    cases h
    obtain ⟨v, e1, q⟩ := A.env.at_ i d e
    exact tm_of (pe_var hN hv hd hcd) ⟨v, e1, hq r H v A.sim .refl q⟩
  · cases h
theorem cE_const {e : Expr} {d : D} {v : V} (h : PE X e (tC v)) (q : ∀ r H, RepV X.K X.mg r H d v) : CE X e (mC d) := by
  refine ⟨?_⟩
  intro env S d' S' hm r σ H Q A hq
  cases hm
  exact tm_of h (hq r H v A.sim .refl (q r H))
theorem cE_int {i j pos} : CE X (.Constant (.int i) j pos) (mC (.int i)) := cE_const pe_int fun _ _ => .int i
theorem cE_bl {i j pos} : CE X (.Constant (.bool i) j pos) (mC (.bl i)) := cE_const pe_bl fun _ _ => .bl i
theorem cE_non {j pos} : CE X (.Constant .none j pos) (mC .non) := cE_const pe_non fun _ _ => .non
theorem cE_str {x j pos} : CE X (.Constant (.str x) j pos) (mC (.str x)) := cE_const pe_str fun _ _ => .str x
/-- a def of the module as a value -/
theorem cE_fn {x : Str} {f : Addr} {pos : Pos} (hg : Gl X x) (hm : X.mg x = some (.ref f)) (hd : (x == ("__debug__" : Str)) = false := by decide) : CE X (.Name x pos) (mC (.fn x)) :=
  cE_const (pe_glob hg hm (v := .ref f) rfl hd) fun _ _ => .fn hm
/-- a constant of the module -/
theorem cE_glob {x : Str} {u : Value} {v : V} {d : D} {pos : Pos} (hg : Gl X x) (hm : X.mg x = some u) (rv : RelV v u) (q : ∀ r H, RepV X.K X.mg r H d v) (hd : (x == ("__debug__" : Str)) = false := by decide) : CE X (.Name x pos) (mC d) :=
  cE_const (pe_glob hg hm rv hd) q

/-! ### argument lists, displays -/
def mNil : MA := fun _ S => some ([], S)
def mCons (a : ME) (b : MA) : MA := fun env S => (a env S).bind fun p => (b env p.2).bind fun q => some (p.1 :: q.1, q.2)
theorem cA_nil : CA X [] mNil := by
  refine ⟨?_⟩
  intro env S ds S' h r σ H Q A hq
  cases h
  exact tma_of pa_nil (hq r H [] A.sim .refl .nil)
theorem At.lat {r r' : List Addr} {env : Env} {S S' : Sto} {σ : L2.St} {H H' : Hp} (A : At X r env S σ H) (s : Sim X.K X.mg r' S' H') (l : Lat r H r' H') : At X r' env S' σ H' := ⟨s, A.env.lat l⟩
theorem cA_cons {e : Expr} {es : List Expr} {a : ME} {b : MA} (ha : CE X e a) (hb : CA X es b) (hs : starEach (e :: es) X.env = (false, eval e X.env) :: starEach es X.env := by rfl) : CA X (e :: es) (mCons a b) := by
  refine ⟨?_⟩
  intro env S ds S' h r σ H Q A hq
  obtain ⟨⟨d, S1⟩, e1, h⟩ := Option.bind_eq_some_iff.mp h
  obtain ⟨⟨ds', S2⟩, e2, h⟩ := Option.bind_eq_some_iff.mp h
  cases h
  refine tma_of (pa_cons pe_tm pa_tm hs) (ha env S d S1 e1 r σ H _ A fun r1 H1 v s1 l1 q1 => ?_)
  refine hb env S1 ds' S2 e2 r1 σ H1 _ (A.lat s1 l1) fun r2 H2 vs s2 l2 q2 => ?_
  exact hq r2 H2 (v :: vs) s2 (l1.trans l2) (.cons (q1.lat l2) q2)
def newL (xs : List D) (S : Sto) : R := some (.ref S.length, S ++ [.lst xs])
theorem newL_ok {r : List Addr} {S : Sto} {H : Hp} {xs : List D} {vs : List V} {d : D} {S' : Sto} {p : Addr} (s : Sim X.K X.mg r S H) (np : H p = none) (q : RepL X.K X.mg r H xs vs) (h : newL xs S = some (d, S')) :
    Sim X.K X.mg (r ++ [p]) S' (upd H p (.lst vs)) ∧ Lat r H (r ++ [p]) (upd H p (.lst vs)) ∧ RepV X.K X.mg (r ++ [p]) (upd H p (.lst vs)) d (.ref p) := by
  cases h
  refine ⟨s.new np ⟨vs, upd_same, q.lat (lat_new np)⟩, lat_new np, .ref ?_⟩
  rw [← s.len, List.getElem?_append_right (Nat.le_refl _), Nat.sub_self]
  rfl
def mLst (a : MA) : ME := fun env S => (a env S).bind fun p => if p.1.length ≤ sizeLine then newL p.1 p.2 else none
def mTup (a : MA) : ME := fun env S => (a env S).bind fun p => if p.1.length ≤ sizeLine then some (.tup p.1, p.2) else none
theorem cE_lst {es : List Expr} {a : MA} {pos : Pos} (ha : CA X es a) : CE X (.List es pos) (mLst a) := by
  refine ⟨?_⟩
  intro env S d S' h r σ H Q A hq
  obtain ⟨⟨ds, S1⟩, e1, h⟩ := Option.bind_eq_some_iff.mp h
  split at h
  · rename_i hz
    refine tm_of (pe_lst pa_tm) (ha env S ds S1 e1 r σ H _ A fun r1 H1 vs s1 l1 q1 => ⟨by rw [← q1.length]; exact hz, fun p np => ?_⟩)
    obtain ⟨a1, a2, a3⟩ := newL_ok (X := X) s1 np q1 h
    exact hq _ _ _ a1 (l1.trans a2) a3
  · cases h
theorem cE_tup {es : List Expr} {a : MA} {x1} {pos : Pos} (ha : CA X es a) : CE X (.Tuple es x1 pos) (mTup a) := by
  refine ⟨?_⟩
  intro env S d S' h r σ H Q A hq
  obtain ⟨⟨ds, S1⟩, e1, h⟩ := Option.bind_eq_some_iff.mp h
  split at h
  · rename_i hz
    cases h
    refine tm_of (pe_tup pa_tm) (ha env S ds S1 e1 r σ H _ A fun r1 H1 vs s1 l1 q1 => ⟨by rw [← q1.length]; exact hz, fun p np => ?_⟩)
    exact hq r1 _ _ (s1.tup np) (l1.trans (lat_tup np)) (.tup upd_same (q1.lat (lat_tup np)))
  · cases h

/-! ### operators by values -/
/-- what rr asks is given where g tells -/
def OpS (X : Cx) (rr : R2) (g : D → D → Sto → R) : Prop := ∀ x y S d S', g x y S = some (d, S') → ∀ r H u v (Q : VK), Sim X.K X.mg r S H → RepV X.K X.mg r H x u → RepV X.K X.mg r H y v →
  (∀ r' H' w, Sim X.K X.mg r' S' H' → Lat r H r' H' → RepV X.K X.mg r' H' d w → Q w H') → rr u v H Q
def mBin (g : D → D → Sto → R) (a b : ME) : ME := fun env S => (a env S).bind fun p => (b env p.2).bind fun q => g p.1 q.1 q.2
theorem bin_ok {a b : Expr} {ma mb : ME} {rr : R2} {g : D → D → Sto → R} (ha : CE X a ma) (hb : CE X b mb) (hg : OpS X rr g) {env : Env} {S : Sto} {d : D} {S' : Sto} (h : mBin g ma mb env S = some (d, S')) {r : List Addr} {σ : L2.St} {H : Hp} {Q : VK} (A : At X r env S σ H)
    (hq : ∀ r' H' v, Sim X.K X.mg r' S' H' → Lat r H r' H' → RepV X.K X.mg r' H' d v → Q v H') : tOp rr (TM X a) (TM X b) σ H Q := by
  obtain ⟨⟨x, S1⟩, e1, h⟩ := Option.bind_eq_some_iff.mp h
  obtain ⟨⟨y, S2⟩, e2, h⟩ := Option.bind_eq_some_iff.mp h
  refine ha env S x S1 e1 r σ H _ A fun r1 H1 u s1 l1 q1 => ?_
  refine hb env S1 y S2 e2 r1 σ H1 _ (A.lat s1 l1) fun r2 H2 v s2 l2 q2 => ?_
  exact hg x y S2 d S' h r2 H2 u v Q s2 (q1.lat l2) q2 fun r3 H3 w s3 l3 q3 => hq r3 H3 w s3 (l1.trans (l2.trans l3)) q3
theorem cE_bin {a b : Expr} {op : Operator} {pos : Pos} {ma mb : ME} {rr : R2} {g : D → D → Sto → R} (ho : OpR X (binaryOp op) rr) (hg : OpS X rr g) (ha : CE X a ma) (hb : CE X b mb) : CE X (.BinOp a op b pos) (mBin g ma mb) :=
  ⟨fun env S d S' h r σ H Q A hq => tm_of (pe_op ho pe_tm pe_tm) (bin_ok ha hb hg h A hq)⟩
theorem cE_cmp {a b : Expr} {op : CmpOp} {pos : Pos} {ma mb : ME} {rr : R2} {g : D → D → Sto → R} (ho : OpR X (compareOp op) rr) (hg : OpS X rr g) (ha : CE X a ma) (hb : CE X b mb) (hm : behindInMarks op b = false) : CE X (.Compare a [op] [b] pos) (mBin g ma mb) :=
  ⟨fun env S d S' h r σ H Q A hq => tm_of (pe_cmpR ho pe_tm pe_tm hm) (bin_ok ha hb hg h A hq)⟩
/-- a value as a truth -/
def asB (m : ME) : MT := fun env S => (m env S).bind fun p => match p.1 with
  | .bl b => some (b, p.2)
  | _ => none
theorem cT_cmp {a b : Expr} {op : CmpOp} {pos : Pos} {ma mb : ME} {rr : R2} {g : D → D → Sto → R} (ho : OpR X (compareOp op) rr) (hg : OpS X rr g) (ha : CE X a ma) (hb : CE X b mb) (hm : behindInMarks op b = false) : CT X (.Compare a [op] [b] pos) (asB (mBin g ma mb)) := by
  refine ⟨?_⟩
  intro env S c S' h r σ H Q A hq
  obtain ⟨⟨d, S1⟩, e1, h⟩ := Option.bind_eq_some_iff.mp h
  split at h
  · rename_i b' eb
    cases h
    have eb' : d = .bl c := eb
    subst eb'
    refine tmt_of (pt_cmpR ho pe_tm pe_tm hm) (bin_ok (Q := fun x H' => ∃ k, x = .bl k ∧ Q k H') ha hb hg e1 A fun r' H' v s l q => ?_)
    cases q
    exact ⟨c, rfl, hq r' H' s l⟩
  · cases h

/-! ### truth -/
def dTru : D → Sto → Option Bool
  | .non, _ => some false
  | .bl b, _ => some b
  | .int i, _ => some (i != 0)
  | .str x, _ => if x.length ≤ sizeLine then some ((x.length : Int) != 0) else none
  | .tup xs, _ => some (!xs.isEmpty)
  | .ktup xs, _ => some (!xs.isEmpty)
  | .ref n, S => match S[n]? with
    | some (.lst xs) => some (!xs.isEmpty)
    | some (.cst xs) => some (!xs.isEmpty)
    | some (.dK xs) => some (!xs.isEmpty)
    | _ => none
  | _, _ => none
theorem isEmpty_len {α β : Type} {xs : List α} {ys : List β} (h : xs.length = ys.length) : xs.isEmpty = ys.isEmpty := by
  cases xs <;> cases ys <;> simp at h ⊢
theorem Paired.len {α β : Type} {P : α → β → Prop} : ∀ {xs : List α} {ys : List β}, Paired P xs ys → xs.length = ys.length
  | _, _, .nil => rfl
  | _, _, .cons _ t => congrArg Nat.succ (Paired.len t)
theorem dTru_ok {r : List Addr} {S : Sto} {H : Hp} {d : D} {v : V} {b : Bool} (s : Sim X.K X.mg r S H) (q : RepV X.K X.mg r H d v) (h : dTru d S = some b) : TruV X.K v H b := by
  cases q with
  | non => cases h; rfl
  | bl k => cases h; rfl
  | int i => cases h; rfl
  | str x =>
    have h' : (if x.length ≤ sizeLine then some ((x.length : Int) != 0) else none) = some b := h
    split at h'
    · rename_i hz
      cases h'
      exact ⟨hz, rfl⟩
    · cases h'
  | ty n => cases h
  | tup ht hl => cases h; exact .inr (.inl ⟨_, ht.sq, by rw [isEmpty_len hl.length]⟩)
  | ktup ht hl => cases h; exact .inr (.inl ⟨_, ht.sq, by rw [isEmpty_len hl.length]⟩)
  | fn _ => cases h
  | ref e =>
    rename_i n a
    simp only [dTru] at h
    split at h <;> first | (rename_i xs he; cases h; have o := s.ob n _ a he e) | cases h
    · obtain ⟨vs, e1, q1⟩ := o
      exact .inl ⟨vs, SqL.of e1, by rw [isEmpty_len q1.length]⟩
    · obtain ⟨vs, e1, q1⟩ := o
      exact .inl ⟨vs, e1.sq, by rw [isEmpty_len q1.length]⟩
    · obtain ⟨vs, e1, q1⟩ := o
      exact .inr (.inr ⟨vs, e1, by rw [isEmpty_len (Paired.len q1)]⟩)
def mTru (m : ME) : MT := fun env S => (m env S).bind fun p => (dTru p.1 p.2).bind fun b => some (b, p.2)
theorem cT_tru {a : Expr} {m : ME} (ha : CE X a m) (he : ∀ whole, isTrue a X.env whole = (do let v ← whole; standAt a.pos; holding [v] (truthy v))) : CT X a (mTru m) := by
  refine ⟨?_⟩
  intro env S c S' h r σ H Q A hq
  obtain ⟨⟨d, S1⟩, e1, h⟩ := Option.bind_eq_some_iff.mp h
  obtain ⟨k, e2, h⟩ := Option.bind_eq_some_iff.mp h
  cases h
  refine tmt_of (pt_truth pe_tm he) (ha env S d S1 e1 r σ H _ A fun r1 H1 v s1 l1 q1 => ⟨_, dTru_ok (X := X) s1 q1 e2, hq r1 H1 s1 l1⟩)
def mNotT (m : MT) : MT := fun env S => (m env S).bind fun p => some (!p.1, p.2)
theorem cT_not {a : Expr} {m : MT} {pos : Pos} (ha : CT X a m) : CT X (.UnaryOp .Not a pos) (mNotT m) := by
  refine ⟨?_⟩
  intro env S c S' h r σ H Q A hq
  obtain ⟨⟨d, S1⟩, e1, h⟩ := Option.bind_eq_some_iff.mp h
  cases h
  exact tmt_of (pt_not pt_tm) (ha env S d S1 e1 r σ H _ A fun r1 H1 s1 l1 => hq r1 H1 s1 l1)
def mAndT (a b : MT) : MT := fun env S => (a env S).bind fun p => if p.1 = true then b env p.2 else some (false, p.2)
def mOrT (a b : MT) : MT := fun env S => (a env S).bind fun p => if p.1 = true then some (true, p.2) else b env p.2
theorem cT_w {e : Expr} {m : MT} (h : CW X e m) : CT X e m := ⟨fun env S c S' hm r σ H Q A hq => tmt_of (pw_tm.pt) (h env S c S' hm r σ H Q A hq)⟩
theorem cW_and1 {a : Expr} {m : MT} {pos : Pos} (h : CT X a m) : CW X (.BoolOp .And [a] pos) m := ⟨fun env S c S' hm r σ H Q A hq => tmw_of (pw_and1 pt_tm) (h env S c S' hm r σ H Q A hq)⟩
theorem cW_or1 {a : Expr} {m : MT} {pos : Pos} (h : CT X a m) : CW X (.BoolOp .Or [a] pos) m := ⟨fun env S c S' hm r σ H Q A hq => tmw_of (pw_or1 pt_tm) (h env S c S' hm r σ H Q A hq)⟩
theorem cW_and {a b : Expr} {rest : List Expr} {m n : MT} {pos : Pos} (ha : CT X a m) (hb : CW X (.BoolOp .And (b :: rest) pos) n) : CW X (.BoolOp .And (a :: b :: rest) pos) (mAndT m n) := by
  refine ⟨?_⟩
  intro env S c S' h r σ H Q A hq
  obtain ⟨⟨d, S1⟩, e1, h⟩ := Option.bind_eq_some_iff.mp h
  refine tmw_of (pw_and pt_tm pw_tm) (ha env S d S1 e1 r σ H _ A fun r1 H1 s1 l1 => ?_)
  cases d with
  | true => exact hb env S1 c S' h r1 σ H1 Q (A.lat s1 l1) fun r2 H2 s2 l2 => hq r2 H2 s2 (l1.trans l2)
  | false => cases h; exact hq r1 H1 s1 l1
theorem cW_or {a b : Expr} {rest : List Expr} {m n : MT} {pos : Pos} (ha : CT X a m) (hb : CW X (.BoolOp .Or (b :: rest) pos) n) : CW X (.BoolOp .Or (a :: b :: rest) pos) (mOrT m n) := by
  refine ⟨?_⟩
  intro env S c S' h r σ H Q A hq
  obtain ⟨⟨d, S1⟩, e1, h⟩ := Option.bind_eq_some_iff.mp h
  refine tmw_of (pw_or pt_tm pw_tm) (ha env S d S1 e1 r σ H _ A fun r1 H1 s1 l1 => ?_)
  cases d with
  | false => exact hb env S1 c S' h r1 σ H1 Q (A.lat s1 l1) fun r2 H2 s2 l2 => hq r2 H2 s2 (l1.trans l2)
  | true => cases h; exact hq r1 H1 s1 l1
/-- x or y, x and y, not x as values, by truth -/
def mOrV (a b : ME) : ME := fun env S => (a env S).bind fun p => (dTru p.1 p.2).bind fun k => if k = true then some p else b env p.2
def mAndV (a b : ME) : ME := fun env S => (a env S).bind fun p => (dTru p.1 p.2).bind fun k => if k = true then b env p.2 else some p
def mNotV (a : ME) : ME := fun env S => (a env S).bind fun p => (dTru p.1 p.2).bind fun k => some (.bl (!k), p.2)
theorem cE_one {op} {a : Expr} {m : ME} {pos : Pos} (h : CE X a m) : CE X (.BoolOp op [a] pos) m := ⟨fun env S c S' hm r σ H Q A hq => tm_of (pe_one pe_tm) (h env S c S' hm r σ H Q A hq)⟩
theorem cE_or {a b : Expr} {rest : List Expr} {m n : ME} {pos : Pos} (ha : CE X a m) (hb : CE X (.BoolOp .Or (b :: rest) pos) n) : CE X (.BoolOp .Or (a :: b :: rest) pos) (mOrV m n) := by
  refine ⟨?_⟩
  intro env S c S' h r σ H Q A hq
  obtain ⟨⟨d, S1⟩, e1, h⟩ := Option.bind_eq_some_iff.mp h
  obtain ⟨k, e2, h⟩ := Option.bind_eq_some_iff.mp h
  refine tm_of (pe_orT pe_tm pe_tm) (ha env S d S1 e1 r σ H _ A fun r1 H1 v s1 l1 q1 => ⟨k, dTru_ok (X := X) s1 q1 e2, ?_⟩)
  cases k with
  | false => exact hb env S1 c S' h r1 σ H1 Q (A.lat s1 l1) fun r2 H2 w s2 l2 q2 => hq r2 H2 w s2 (l1.trans l2) q2
  | true => cases h; exact hq r1 H1 v s1 l1 q1
theorem cE_and {a b : Expr} {rest : List Expr} {m n : ME} {pos : Pos} (ha : CE X a m) (hb : CE X (.BoolOp .And (b :: rest) pos) n) : CE X (.BoolOp .And (a :: b :: rest) pos) (mAndV m n) := by
  refine ⟨?_⟩
  intro env S c S' h r σ H Q A hq
  obtain ⟨⟨d, S1⟩, e1, h⟩ := Option.bind_eq_some_iff.mp h
  obtain ⟨k, e2, h⟩ := Option.bind_eq_some_iff.mp h
  refine tm_of (pe_andT pe_tm pe_tm) (ha env S d S1 e1 r σ H _ A fun r1 H1 v s1 l1 q1 => ⟨k, dTru_ok (X := X) s1 q1 e2, ?_⟩)
  cases k with
  | true => exact hb env S1 c S' h r1 σ H1 Q (A.lat s1 l1) fun r2 H2 w s2 l2 q2 => hq r2 H2 w s2 (l1.trans l2) q2
  | false => cases h; exact hq r1 H1 v s1 l1 q1
theorem cE_not {a : Expr} {m : ME} {pos : Pos} (ha : CE X a m) : CE X (.UnaryOp .Not a pos) (mNotV m) := by
  refine ⟨?_⟩
  intro env S c S' h r σ H Q A hq
  obtain ⟨⟨d, S1⟩, e1, h⟩ := Option.bind_eq_some_iff.mp h
  obtain ⟨k, e2, h⟩ := Option.bind_eq_some_iff.mp h
  cases h
  exact tm_of (pe_notT pe_tm) (ha env S d S1 e1 r σ H _ A fun r1 H1 v s1 l1 q1 => ⟨k, dTru_ok (X := X) s1 q1 e2, hq r1 H1 _ s1 l1 (.bl _)⟩)
/-- a if c else b -/
def mIf (c : MT) (a b : ME) : ME := fun env S => (c env S).bind fun p => if p.1 = true then a env p.2 else b env p.2
theorem cE_if {c a b : Expr} {mc : MT} {ma mb : ME} {pos : Pos} (hc : CT X c mc) (ha : CE X a ma) (hb : CE X b mb) : CE X (.IfExp c a b pos) (mIf mc ma mb) := by
  refine ⟨?_⟩
  intro env S d S' h r σ H Q A hq
  obtain ⟨⟨k, S1⟩, e1, h⟩ := Option.bind_eq_some_iff.mp h
  refine tm_of (pe_ifExp pt_tm pe_tm pe_tm) (hc env S k S1 e1 r σ H _ A fun r1 H1 s1 l1 => ?_)
  cases k with
  | true => exact ha env S1 d S' h r1 σ H1 Q (A.lat s1 l1) fun r2 H2 w s2 l2 q2 => hq r2 H2 w s2 (l1.trans l2) q2
  | false => exact hb env S1 d S' h r1 σ H1 Q (A.lat s1 l1) fun r2 H2 w s2 l2 q2 => hq r2 H2 w s2 (l1.trans l2) q2

/-! ### calls of defs -/
def spM (K : PySem.W.Frag) (mg : Str → Option Value) (n : Nat) (m : MF) : Sp := fun vs H Q _ => ∃ r S ds d S', ds.length = n ∧ Sim K mg r S H ∧ RepL K mg r H ds vs ∧ m ds S = some (d, S') ∧
  ∀ r' H' v, Sim K mg r' S' H' → Lat r H r' H' → RepV K mg r' H' d v → Q v H'
def mCall (n : Nat) (m : MF) (a : MA) : ME := fun env S => (a env S).bind fun p => if p.1.length = n then m p.1 p.2 else none
theorem cE_call {f : Addr} {fd : FuncData} {ps : List Str} {k n : Nat} {m : MF} {x : Str} {p pos : Pos} {e : Expr} {es : List Expr} {a : MA} (F : FnOk X.prog X.w X.K X.mg X.base CX0 k f fd ps (spM X.K X.mg n m)) (hr : Room k X.A) (hg : Gl X x) (hm : X.mg x = some (.ref f))
    (hk : PySem.W.keepIn X.K (.ref f) = true) (hb : Binds X.K fd ps []) (ha : CA X (e :: es) a) (hdb : (x == ("__debug__" : Str)) = false := by decide) (he : starEach (e :: es) X.env = (false, eval e X.env) :: starEach es X.env := by rfl)
    (hpl : (backTo pos (starEach es X.env)).any (·.1) = false := by rfl) : CE X (.Call (.Name x p) (e :: es) [] pos) (mCall n m a) := by
  refine ⟨?_⟩
  intro env S d S' h r σ H Q A hq
  obtain ⟨⟨ds, S1⟩, e1, h⟩ := Option.bind_eq_some_iff.mp h
  split at h
  · rename_i hl
    refine tm_of (pe_call F hr hg hm hk hb .nil pass0 pa_tm hdb he hpl) (ha env S ds S1 e1 r σ H _ A fun r1 H1 vs s1 l1 q1 => ?_)
    rw [List.append_nil]
    exact ⟨r1, S1, ds, d, S', hl, s1, q1, h, fun r2 H2 v s2 l2 q2 => hq r2 H2 v s2 (l1.trans l2) q2⟩
  · cases h
theorem cE_call0 {f : Addr} {fd : FuncData} {ps : List Str} {k : Nat} {m : MF} {x : Str} {p pos : Pos} (F : FnOk X.prog X.w X.K X.mg X.base CX0 k f fd ps (spM X.K X.mg 0 m)) (hr : Room k X.A) (hg : Gl X x) (hm : X.mg x = some (.ref f))
    (hk : PySem.W.keepIn X.K (.ref f) = true) (hb : Binds X.K fd ps []) (hdb : (x == ("__debug__" : Str)) = false := by decide) : CE X (.Call (.Name x p) [] [] pos) (mCall 0 m mNil) := by
  refine ⟨?_⟩
  intro env S d S' h r σ H Q A hq
  refine tm_of (pe_call0 F hr hg hm hk hb .nil pass0 hdb) ?_
  exact ⟨r, S, [], d, S', rfl, A.sim, .nil, h, fun r2 H2 v s2 l2 q2 => hq r2 H2 v s2 l2 q2⟩
/-- built-ins by values -/
def CallS (X : Cx) (rr : List V → Hp → VK → Prop) (g : List D → Sto → R) : Prop := ∀ xs S d S', g xs S = some (d, S') → ∀ r H vs (Q : VK), Sim X.K X.mg r S H → RepL X.K X.mg r H xs vs →
  (∀ r' H' w, Sim X.K X.mg r' S' H' → Lat r H r' H' → RepV X.K X.mg r' H' d w → Q w H') → rr vs H Q
def mBlt (g : List D → Sto → R) (a : MA) : ME := fun env S => (a env S).bind fun p => g p.1 p.2
section
variable {x : Str} {p pos : Pos} {e : Expr} {es : List Expr} {a : MA} {rr : List V → Hp → VK → Prop} {g : List D → Sto → R} {id T : String}
theorem cE_callB (hc : CallR X (.builtin id) rr) (hs : CallS X rr g) (hg : Gl X x) (hm : X.mg x = none) (hv : bootBuiltins x = some (.builtin id)) (ha : CA X (e :: es) a) (hn : x ≠ "__name__" := by decide) (hdb : (x == ("__debug__" : Str)) = false := by decide)
    (he : starEach (e :: es) X.env = (false, eval e X.env) :: starEach es X.env := by rfl) (hpl : (backTo pos (starEach es X.env)).any (·.1) = false := by rfl) : CE X (.Call (.Name x p) (e :: es) [] pos) (mBlt g a) := by
  refine ⟨?_⟩
  intro env S d S' h r σ H Q A hq
  obtain ⟨⟨ds, S1⟩, e1, h⟩ := Option.bind_eq_some_iff.mp h
  refine tm_of (pe_callB hc hg hm hv pa_tm hn hdb he hpl) (ha env S ds S1 e1 r σ H _ A fun r1 H1 vs s1 l1 q1 => ?_)
  exact hs ds S1 d S' h r1 H1 vs Q s1 q1 fun r2 H2 w s2 l2 q2 => hq r2 H2 w s2 (l1.trans l2) q2
theorem cE_callTy (hc : CallR X (.type T) rr) (hs : CallS X rr g) (hg : Gl X x) (hm : X.mg x = none) (hv : bootBuiltins x = some (.type T)) (ha : CA X (e :: es) a) (hn : x ≠ "__name__" := by decide) (hdb : (x == ("__debug__" : Str)) = false := by decide)
    (he : starEach (e :: es) X.env = (false, eval e X.env) :: starEach es X.env := by rfl) (hpl : (backTo pos (starEach es X.env)).any (·.1) = false := by rfl) : CE X (.Call (.Name x p) (e :: es) [] pos) (mBlt g a) := by
  refine ⟨?_⟩
  intro env S d S' h r σ H Q A hq
  obtain ⟨⟨ds, S1⟩, e1, h⟩ := Option.bind_eq_some_iff.mp h
  refine tm_of (pe_callTy hc hg hm hv pa_tm hn hdb he hpl) (ha env S ds S1 e1 r σ H _ A fun r1 H1 vs s1 l1 q1 => ?_)
  exact hs ds S1 d S' h r1 H1 vs Q s1 q1 fun r2 H2 w s2 l2 q2 => hq r2 H2 w s2 (l1.trans l2) q2
end
/-- methods of built-in types by values -/
def MtS (X : Cx) (T : String) (rr : V → List V → Hp → VK → Prop) (g : D → List D → Sto → R) : Prop := ∀ x xs S d S', g x xs S = some (d, S') → ∀ r H u vs (Q : VK), Sim X.K X.mg r S H → RepV X.K X.mg r H x u → RepL X.K X.mg r H xs vs →
  (∀ r' H' w, Sim X.K X.mg r' S' H' → Lat r H r' H' → RepV X.K X.mg r' H' d w → Q w H') → rr u vs H Q
/-- x is of the type T in the store -/
def dIs (T : String) : D → Sto → Bool
  | .str _, _ => T == "str"
  | .int _, _ => T == "int"
  | .ref n, S => match S[n]? with
    | some (.lst _) => T == "list"
    | some (.cst _) => T == "list"
    | some (.dK _) => T == "dict"
    | some (.dT _) => T == "dict"
    | _ => false
  | _, _ => false
theorem dIs_ok {T : String} {r : List Addr} {S : Sto} {H : Hp} {d : D} {v : V} (s : Sim X.K X.mg r S H) (q : RepV X.K X.mg r H d v) (h : dIs T d S = true) : tyV X.K T v H := by
  cases q with
  | str x => exact eq_of_beq h
  | int i => exact eq_of_beq h
  | ref e =>
    rename_i n a
    simp only [dIs] at h
    split at h <;> first | (rename_i xs he; have o := s.ob n _ a he e; have hT := eq_of_beq h; subst hT) | cases h
    · obtain ⟨vs, e1, q1⟩ := o
      exact .inl ⟨rfl, vs, SqL.of e1⟩
    · obtain ⟨vs, e1, q1⟩ := o
      exact .inl ⟨rfl, vs, e1.sq⟩
    · obtain ⟨vs, e1, q1⟩ := o
      exact .inr (.inr (.inl ⟨rfl, .inl ⟨vs, e1⟩⟩))
    · obtain ⟨vs, e1, q1⟩ := o
      exact .inr (.inr (.inl ⟨rfl, .inr ⟨vs, e1⟩⟩))
  | _ => cases h
def mMt (T : String) (g : D → List D → Sto → R) (o : ME) (a : MA) : ME := fun env S => (o env S).bind fun p => if dIs T p.1 p.2 = true then (a env p.2).bind fun q => g p.1 q.1 q.2 else none
section
variable {T id : String} {name : Str} {apos cpos : Pos} {o e : Expr} {es : List Expr} {a : MA} {mo : ME} {rr : V → List V → Hp → VK → Prop} {g : D → List D → Sto → R}
theorem cE_mt0 (pa : PlainAttrs T) (slot : Slot T name id) (hty : typeOf (.builtin id) = pure (.type "method_descriptor")) (hm : MtR X id rr) (hs : MtS X T rr g) (ho : CE X o mo)
    (hbase : attributeBase o name X.env (eval o X.env) = eval o X.env := by rfl) (hline : (apos.endLine == cpos.line) = true := by rfl) : CE X (.Call (.Attribute o name apos) [] [] cpos) (mMt T g mo mNil) := by
  refine ⟨?_⟩
  intro env S d S' h r σ H Q A hq
  obtain ⟨⟨x, S1⟩, e1, h⟩ := Option.bind_eq_some_iff.mp h
  split at h
  · rename_i hT
    refine tm_of (pe_bm0 pa slot hty hm pe_tm hbase hline) (ho env S x S1 e1 r σ H _ A fun r1 H1 v s1 l1 q1 => ⟨dIs_ok (X := X) s1 q1 hT, ?_⟩)
    exact hs x [] S1 d S' h r1 H1 v [] Q s1 q1 .nil fun r2 H2 w s2 l2 q2 => hq r2 H2 w s2 (l1.trans l2) q2
  · cases h
theorem cE_mt (pa : PlainAttrs T) (slot : Slot T name id) (hty : typeOf (.builtin id) = pure (.type "method_descriptor")) (hm : MtR X id rr) (hs : MtS X T rr g) (ho : CE X o mo) (ha : CA X (e :: es) a)
    (hbase : attributeBase o name X.env (eval o X.env) = eval o X.env := by rfl)
    (hfew : ((backTo cpos (starEach (e :: es) X.env)).all (fun x => !x.1) && (backToKw cpos (keywordEach [] X.env)).all (fun x => x.1.isSome)
      && decide ((e :: es).length + ([] : List Keyword).length + (if ([] : List Keyword).isEmpty then 0 else 1) < 30)) = true := by rfl)
    (hline : (apos.endLine == cpos.line) = true := by rfl) (hst : starEach (e :: es) X.env = (false, eval e X.env) :: starEach es X.env := by rfl) (hplain : (backTo cpos (starEach es X.env)).any (·.1) = false := by rfl) :
    CE X (.Call (.Attribute o name apos) (e :: es) [] cpos) (mMt T g mo a) := by
  refine ⟨?_⟩
  intro env S d S' h r σ H Q A hq
  obtain ⟨⟨x, S1⟩, e1, h⟩ := Option.bind_eq_some_iff.mp h
  split at h
  · rename_i hT
    obtain ⟨⟨ds, S2⟩, e2, h⟩ := Option.bind_eq_some_iff.mp h
    refine tm_of (pe_bm pa slot hty hm pe_tm pa_tm hbase hfew hline hst hplain) (ho env S x S1 e1 r σ H _ A fun r1 H1 v s1 l1 q1 => ⟨dIs_ok (X := X) s1 q1 hT, ?_⟩)
    refine ha env S1 ds S2 e2 r1 σ H1 _ (A.lat s1 l1) fun r2 H2 vs s2 l2 q2 => ?_
    exact hs x ds S2 d S' h r2 H2 v vs Q s2 (q1.lat l2) q2 fun r3 H3 w s3 l3 q3 => hq r3 H3 w s3 (l1.trans (l2.trans l3)) q3
  · cases h
end
/-! ### subscripts, slices -/
theorem cE_ix {a b : Expr} {pos : Pos} {ma mb : ME} {rr : R2} {g : D → D → Sto → R} (hr : IxR X rr) (hg : OpS X rr g) (ha : CE X a ma) (hb : CE X b mb) (hs : PlainIx b) : CE X (.Subscript a b pos) (mBin g ma mb) :=
  ⟨fun env S d S' h r σ H Q A hq => tm_of (pe_ix hr pe_tm pe_tm hs) (bin_ok ha hb hg h A hq)⟩
abbrev MO := Env → Sto → Option (Option Int × Sto)
def CO0 (X : Cx) (e : Option Expr) (m : MO) : Prop := ∃ t, PO X e t ∧ ∀ env S i S', m env S = some (i, S') → ∀ r σ H (Q : Option Int → Hp → Prop), At X r env S σ H →
  (∀ r' H', Sim X.K X.mg r' S' H' → Lat r H r' H' → Q i H') → t σ H Q
structure CO (X : Cx) (e : Option Expr) (m : MO) : Prop where
  run : ∃ t, PO X e t ∧ ∀ env S i S', m env S = some (i, S') → ∀ r σ H (Q : Option Int → Hp → Prop), At X r env S σ H →
  (∀ r' H', Sim X.K X.mg r' S' H' → Lat r H r' H' → Q i H') → t σ H Q
def mNo : MO := fun _ S => some (none, S)
def mPart (m : ME) : MO := fun env S => (m env S).bind fun p => match p.1 with
  | .int i => if -(2 ^ 63) ≤ i ∧ i < 2 ^ 63 then some (some i, p.2) else none
  | _ => none
theorem cO_some {e : Expr} {m : ME} (he : CE X e m) : CO X (some e) (mPart m) := by
  refine ⟨_, po_some pe_tm, fun env S i S' h r σ H Q A hq => ?_⟩
  obtain ⟨⟨x, S1⟩, e1, h⟩ := Option.bind_eq_some_iff.mp h
  split at h
  · rename_i j ej
    have ej' : x = .int j := ej
    subst ej'
    split at h
    · cases h
      refine he env S _ S1 e1 r σ H _ A fun r1 H1 v s1 l1 q1 => ?_
      cases q1
      exact ⟨_, rfl, hq r1 H1 s1 l1⟩
    · cases h
  · cases h
theorem cO_none : CO X none mNo := ⟨_, po_none, fun env S i S' h r σ H Q A hq => by cases h; exact hq r H A.sim .refl⟩
def SlS (X : Cx) (rr : V → Option Int → Option Int → Hp → VK → Prop) (g : D → Option Int → Option Int → Sto → R) : Prop := ∀ x lo hi S d S', g x lo hi S = some (d, S') → ∀ r H u (Q : VK), Sim X.K X.mg r S H → RepV X.K X.mg r H x u →
  (∀ r' H' w, Sim X.K X.mg r' S' H' → Lat r H r' H' → RepV X.K X.mg r' H' d w → Q w H') → rr u lo hi H Q
def mSl (g : D → Option Int → Option Int → Sto → R) (o : ME) (a b : MO) : ME := fun env S => (o env S).bind fun p => (a env p.2).bind fun q => (b env q.2).bind fun t => g p.1 q.1 t.1 t.2
theorem cE_sl {e : Expr} {lo hi : Option Expr} {p2 pos : Pos} {m : ME} {a b : MO} {rr : V → Option Int → Option Int → Hp → VK → Prop} {g : D → Option Int → Option Int → Sto → R} (hr : SlR X rr) (hg : SlS X rr g) (he : CE X e m) (ha : CO X lo a) (hb : CO X hi b) : CE X (.Subscript e (.Slice lo hi none p2) pos) (mSl g m a b) := by
  refine ⟨?_⟩
  intro env S d S' h r σ H Q A hq
  obtain ⟨ta, pa, ha⟩ := ha
  obtain ⟨tb, pb, hb⟩ := hb
  obtain ⟨⟨x, S1⟩, e1, h⟩ := Option.bind_eq_some_iff.mp h
  obtain ⟨⟨i, S2⟩, e2, h⟩ := Option.bind_eq_some_iff.mp h
  obtain ⟨⟨j, S3⟩, e3, h⟩ := Option.bind_eq_some_iff.mp h
  refine tm_of (pe_slice hr pe_tm pa pb) (he env S x S1 e1 r σ H _ A fun r1 H1 v s1 l1 q1 => ?_)
  refine ha env S1 i S2 e2 r1 σ H1 _ (A.lat s1 l1) fun r2 H2 s2 l2 => ?_
  refine hb env S2 j S3 e3 r2 σ H2 _ ((A.lat s1 l1).lat s2 l2) fun r3 H3 s3 l3 => ?_
  exact hg x i j S3 d S' h r3 H3 v Q s3 ((q1.lat l2).lat l3) fun r4 H4 w s4 l4 q4 => hq r4 H4 w s4 (l1.trans (l2.trans (l3.trans l4))) q4
end
end PL
end

section
set_option Elab.async false
set_option linter.all false
set_option maxRecDepth 100000
/-! PL2: statements, targets, loops, comprehensions -/
namespace PL
open PySem PySem.Spec PyProof.Rows L2

section
variable {X : Cx}
/-! ### blocks, small statements -/
def mNext : MS := fun env S => some (.nx, env, S)
def mSeq (a b : MS) : MS := fun env S => (a env S).bind fun p => match p.1 with
  | .nx => b p.2.1 p.2.2
  | _ => some p
theorem cSs_nil : CSs X [] mNext := by
  refine ⟨?_⟩
  intro env S f env' S' h r σ H D A hq
  cases h
  exact tmss_of pss_nil (hq r σ H A .refl)
theorem cSs_cons {st : Stmt} {rest : List Stmt} {a b : MS} (ha : CS X st a) (hb : CSs X rest b) : CSs X (st :: rest) (mSeq a b) := by
  refine ⟨?_⟩
  intro env S f env' S' h r σ H D A hq
  obtain ⟨⟨f1, env1, S1⟩, e1, h⟩ := Option.bind_eq_some_iff.mp h
  refine tmss_of (pss_cons ps_tm pss_tm) (ha env S f1 env1 S1 e1 r σ H _ A ?_)
  cases f1 with
  | nx => exact fun r1 σ1 H1 A1 l1 => hb env1 S1 f env' S' h r1 σ1 H1 D A1 (hq.lat l1)
  | bk => cases h; exact hq
  | ct => cases h; exact hq
  | rt d => cases h; exact hq
theorem cSs_one {st : Stmt} {a : MS} (ha : CS X st a) : CSs X [st] a := by
  refine ⟨?_⟩
  intro env S f env' S' h r σ H D A hq
  exact tmss_of (pss_one ps_tm) (ha env S f env' S' h r σ H D A hq)
theorem cS_pass {pos : Pos} : CS X (.Pass pos) mNext := by
  refine ⟨?_⟩
  intro env S f env' S' h r σ H D A hq
  cases h
  exact tms_of ps_pass (hq r σ H A .refl)
def mBk : MS := fun env S => some (.bk, env, S)
def mCt : MS := fun env S => some (.ct, env, S)
theorem cS_break {pos : Pos} : CS X (.Break pos) mBk := by
  refine ⟨?_⟩
  intro env S f env' S' h r σ H D A hq
  cases h
  exact tms_of ps_break (hq r σ H A .refl)
theorem cS_cont {pos : Pos} : CS X (.Continue pos) mCt := by
  refine ⟨?_⟩
  intro env S f env' S' h r σ H D A hq
  cases h
  exact tms_of ps_continue (hq r σ H A .refl)
def mDrop (m : ME) : MS := fun env S => (m env S).bind fun p => some (.nx, env, p.2)
theorem cS_expr {e : Expr} {m : ME} {pos : Pos} (he : CE X e m) (hs : swapsWith e none pos.line X.env = pure false := by rfl) : CS X (.Expr e pos) (mDrop m) := by
  refine ⟨?_⟩
  intro env S f env' S' h r σ H D A hq
  obtain ⟨⟨d, S1⟩, e1, h⟩ := Option.bind_eq_some_iff.mp h
  cases h
  exact tms_of (ps_expr pe_tm hs) (he env S d S1 e1 r σ H _ A fun r1 H1 v s1 l1 q1 => hq r1 σ H1 (A.lat s1 l1) l1)
def mRet (m : ME) : MS := fun env S => (m env S).bind fun p => some (.rt p.1, env, p.2)
theorem cS_ret {e : Expr} {m : ME} {pos : Pos} (he : CE X e m) : CS X (.Return (some e) pos) (mRet m) := by
  refine ⟨?_⟩
  intro env S f env' S' h r σ H D A hq
  obtain ⟨⟨d, S1⟩, e1, h⟩ := Option.bind_eq_some_iff.mp h
  cases h
  exact tms_of (ps_ret pe_tm) (he env S d S1 e1 r σ H _ A fun r1 H1 v s1 l1 q1 => hq r1 H1 v s1 l1 q1)
def mRetN : MS := fun env S => some (.rt .non, env, S)
theorem cS_retN {pos : Pos} : CS X (.Return none pos) mRetN := by
  refine ⟨?_⟩
  intro env S f env' S' h r σ H D A hq
  cases h
  exact tms_of ps_retN (hq r H .non A.sim .refl .non)
def mIfS (c : MT) (a b : MS) : MS := fun env S => (c env S).bind fun p => if p.1 = true then a env p.2 else b env p.2
theorem cS_if {c : Expr} {x y : List Stmt} {mc : MT} {a b : MS} {pos : Pos} (hc : CT X c mc) (ha : CSs X x a) (hb : CSs X y b) : CS X (.If c x y pos) (mIfS mc a b) := by
  refine ⟨?_⟩
  intro env S f env' S' h r σ H D A hq
  obtain ⟨⟨k, S1⟩, e1, h⟩ := Option.bind_eq_some_iff.mp h
  refine tms_of (ps_if pt_tm pss_tm pss_tm) (hc env S k S1 e1 r σ H _ A fun r1 H1 s1 l1 => ?_)
  cases k with
  | true => exact ha env S1 f env' S' h r1 σ H1 D (A.lat s1 l1) (hq.lat l1)
  | false => exact hb env S1 f env' S' h r1 σ H1 D (A.lat s1 l1) (hq.lat l1)

/-! ### targets: L the slots that they store to -/
def CG0 (X : Cx) (tg : Expr) (L : List Nat) (m : MG) : Prop := ∀ d env S env' S', m d env S = some (env', S') → ∀ r σ H v (Q : L2.St → Hp → Prop), At X r env S σ H → RepV X.K X.mg r H d v →
  (∀ r' σ' H', At X r' env' S' σ' H' → Lat r H r' H' → (∀ vs : List Nat, (∀ i ∈ L, i ∈ vs) → wipe σ' vs = wipe σ vs) → Q σ' H') → TMg X tg v σ H Q
structure CG (X : Cx) (tg : Expr) (L : List Nat) (m : MG) : Prop where
  run : ∀ d env S env' S', m d env S = some (env', S') → ∀ r σ H v (Q : L2.St → Hp → Prop), At X r env S σ H → RepV X.K X.mg r H d v →
  (∀ r' σ' H', At X r' env' S' σ' H' → Lat r H r' H' → (∀ vs : List Nat, (∀ i ∈ L, i ∈ vs) → wipe σ' vs = wipe σ vs) → Q σ' H') → TMg X tg v σ H Q
instance {X : Cx} {tg : Expr} {L : List Nat} {m : MG} : CoeFun (CG X tg L m) (fun _ => ∀ d env S env' S', m d env S = some (env', S') → ∀ r σ H v (Q : L2.St → Hp → Prop), At X r env S σ H → RepV X.K X.mg r H d v →
  (∀ r' σ' H', At X r' env' S' σ' H' → Lat r H r' H' → (∀ vs : List Nat, (∀ i ∈ L, i ∈ vs) → wipe σ' vs = wipe σ vs) → Q σ' H') → TMg X tg v σ H Q
) := ⟨CG.run⟩
def CGs0 (X : Cx) (tgs : List Expr) (L : List Nat) (m : List D → Env → Sto → Option (Env × Sto)) : Prop := ∃ t : TGs, PGs X tgs t ∧ ∀ ds env S env' S', m ds env S = some (env', S') → ∀ r σ H vs (Q : L2.St → Hp → Prop), At X r env S σ H → RepL X.K X.mg r H ds vs →
  (∀ r' σ' H', At X r' env' S' σ' H' → Lat r H r' H' → (∀ vs : List Nat, (∀ i ∈ L, i ∈ vs) → wipe σ' vs = wipe σ vs) → Q σ' H') → t vs σ H Q
structure CGs (X : Cx) (tgs : List Expr) (L : List Nat) (m : List D → Env → Sto → Option (Env × Sto)) : Prop where
  run : ∃ t : TGs, PGs X tgs t ∧ ∀ ds env S env' S', m ds env S = some (env', S') → ∀ r σ H vs (Q : L2.St → Hp → Prop), At X r env S σ H → RepL X.K X.mg r H ds vs →
  (∀ r' σ' H', At X r' env' S' σ' H' → Lat r H r' H' → (∀ vs : List Nat, (∀ i ∈ L, i ∈ vs) → wipe σ' vs = wipe σ vs) → Q σ' H') → t vs σ H Q
theorem wipe_get (σ : L2.St) : ∀ (vs : List Nat) (j : Nat), (wipe σ vs)[j]? = if j < σ.length then (if j ∈ vs then some none else σ[j]?) else none
  | [], j => by
    by_cases h : j < σ.length
    · simp [wipe, h]
    · simp [wipe, h]
  | v :: vs, j => by
    have ih := wipe_get σ vs j
    unfold wipe
    by_cases hv : v = j
    · subst hv
      by_cases h : v < σ.length
      · rw [List.getElem?_set_self (by rw [wipe_length]; exact h), if_pos h, if_pos (List.mem_cons_self ..)]
      · rw [if_neg h, List.getElem?_eq_none (by rw [List.length_set, wipe_length]; omega)]
    · rw [List.getElem?_set_ne hv, ih]
      have e : (j ∈ v :: vs) ↔ j ∈ vs := by simp [Ne.symm hv]
      simp only [e]
theorem wipe_set {σ : L2.St} {vs : List Nat} {i : Nat} {x : Option V} (h : i ∈ vs) : wipe (σ.set i x) vs = wipe σ vs := by
  apply List.ext_getElem?
  intro j
  rw [wipe_get, wipe_get, List.length_set]
  by_cases hj : j ∈ vs
  · simp [hj]
  · have : i ≠ j := fun e => hj (e ▸ h)
    simp [hj, List.getElem?_set_ne this]
def gN (i : Nat) : MG := fun d env S => some (env.set i (some d), S)
theorem cG_name {i : Nat} {x : Str} {pos : Pos} (hN : X.N.Nodup) (hi : X.N[i]? = some x) (hx : Loc X.env.scope x) (hf : X.fn x = true ∨ X.env.scope.names.lookup x = some .local := by first | exact .inl rfl | exact .inr rfl | assumption) : CG X (.Name x pos) [i] (gN i) := by
  refine ⟨?_⟩
  intro d env S env' S' h r σ H v Q A q hq
  cases h
  exact tmg_of (pg_name hN hi hx hf) (hq r _ H ⟨A.sim, A.env.set q⟩ .refl fun vs hv => wipe_set (hv i (by simp)))
def gsN : List D → Env → Sto → Option (Env × Sto) := fun ds env S => match ds with
  | [] => some (env, S)
  | _ => none
def gsC (a : MG) (b : List D → Env → Sto → Option (Env × Sto)) : List D → Env → Sto → Option (Env × Sto) := fun ds env S => match ds with
  | d :: ds => (a d env S).bind fun p => b ds p.1 p.2
  | [] => none
theorem cGs_nil : CGs X [] [] gsN := by
  refine ⟨_, pgs_nil, fun ds env S env' S' h r σ H vs Q A q hq => ?_⟩
  cases q with
  | nil => cases h; exact ⟨rfl, hq r σ H A .refl fun _ _ => rfl⟩
  | cons _ _ => cases h
theorem cGs_cons {e : Expr} {es : List Expr} {L M : List Nat} {a : MG} {b : List D → Env → Sto → Option (Env × Sto)} (ha : CG X e L a) (hb : CGs X es M b) (hs : (assignEach (e :: es) X.env).map (·.2) = assign e X.env :: (assignEach es X.env).map (·.2) := by rfl) :
    CGs X (e :: es) (L ++ M) (gsC a b) := by
  obtain ⟨t, pt, hb⟩ := hb
  refine ⟨_, pgs_cons pg_tm pt hs, fun ds env S env' S' h r σ H vs Q A q hq => ?_⟩
  cases q with
  | nil => cases h
  | cons q1 q2 =>
    obtain ⟨⟨env1, S1⟩, e1, h⟩ := Option.bind_eq_some_iff.mp h
    refine ⟨_, _, rfl, ha _ env S env1 S1 e1 r σ H _ _ A q1 fun r1 σ1 H1 A1 l1 w1 => ?_⟩
    refine hb _ env1 S1 env' S' h r1 σ1 H1 _ Q A1 (q2.lat l1) fun r2 σ2 H2 A2 l2 w2 => ?_
    exact hq r2 σ2 H2 A2 (l1.trans l2) fun vs hv => (w2 vs fun i hi => hv i (List.mem_append_right _ hi)).trans (w1 vs fun i hi => hv i (List.mem_append_left _ hi))
def gT (n : Nat) (b : List D → Env → Sto → Option (Env × Sto)) : MG := fun d env S => match d with
  | .tup ds => if ds.length = n then b ds env S else none
  | _ => none
theorem cG_tup {es : List Expr} {k n : Nat} {L : List Nat} {pos : Pos} {b : List D → Env → Sto → Option (Env × Sto)} (hc : X.calm = true) (hb : CGs X es L b) (hn : (assignEach es X.env).length = n := by rfl) (hst : (assignEach es X.env).findIdx? (·.1) = none := by rfl) : CG X (.Tuple es k pos) L (gT n b) := by
  obtain ⟨t, pt, hb⟩ := hb
  refine ⟨?_⟩
  intro d env S env' S' h r σ H v Q A q hq
  unfold gT at h
  cases q with
  | tup ht hl =>
    simp only at h
    split at h
    · rename_i hz
      exact tmg_of (pg_tup hc pt hn hst) ⟨_, _, rfl, ht.sq, by rw [← hl.length]; exact hz, hb _ env S env' S' h r σ H _ Q A hl hq⟩
    · cases h
  | _ => cases h
/-- o[i] = v by values -/
def SetS (X : Cx) (t : TSet) (g : D → D → D → Sto → Option Sto) : Prop := ∀ o i d S S', g o i d S = some S' → ∀ r H u v w (Q : Hp → Prop), Sim X.K X.mg r S H → RepV X.K X.mg r H o u → RepV X.K X.mg r H i v → RepV X.K X.mg r H d w →
  (∀ r' H', Sim X.K X.mg r' S' H' → Lat r H r' H' → Q H') → t u v w H Q
def gSubM (o i : ME) (g : D → D → D → Sto → Option Sto) : MG := fun d env S => (o env S).bind fun p => (i env p.2).bind fun q => (g p.1 q.1 d q.2).bind fun S' => some (env, S')
theorem cG_sub {o i : Expr} {mo mi : ME} {t : TSet} {g : D → D → D → Sto → Option Sto} {pos : Pos} (hs : PSet X t) (hg : SetS X t g) (ho : CE X o mo) (hi : CE X i mi)
    (ha : ∀ v, assign (.Subscript o i pos) X.env v = (do
      let ov ← holding [v] (eval o X.env)
      let iv ← holding [v, ov] (eval i X.env)
      standAt pos
      holding [v, ov, iv] (setItem ov iv v)
      release [v, ov, iv] []) := by intro _; rfl) : CG X (.Subscript o i pos) [] (gSubM mo mi g) := by
  refine ⟨?_⟩
  intro d env S env' S' h r σ H v Q A q hq
  obtain ⟨⟨x, S1⟩, e1, h⟩ := Option.bind_eq_some_iff.mp h
  obtain ⟨⟨y, S2⟩, e2, h⟩ := Option.bind_eq_some_iff.mp h
  obtain ⟨S3, e3, h⟩ := Option.bind_eq_some_iff.mp h
  cases h
  refine tmg_of (pg_sub pe_tm pe_tm hs ha) (ho env S x S1 e1 r σ H _ A fun r1 H1 u s1 l1 q1 => ?_)
  refine hi env S1 y S2 e2 r1 σ H1 _ (A.lat s1 l1) fun r2 H2 w s2 l2 q2 => ?_
  refine hg x y d S2 S' e3 r2 H2 u w v _ s2 (q1.lat l2) q2 ((q.lat l1).lat l2) fun r3 H3 s3 l3 => ?_
  exact hq r3 σ H3 (((A.lat s1 l1).lat s2 l2).lat s3 l3) (l1.trans (l2.trans l3)) fun _ _ => rfl
def mAsg (m : ME) (g : MG) : MS := fun env S => (m env S).bind fun p => (g p.1 env p.2).bind fun q => some (.nx, q.1, q.2)
theorem cS_asg {tg e : Expr} {m : ME} {g : MG} {L : List Nat} {pos : Pos} (he : CE X e m) (hg : CG X tg L g) (hs : swapsWithSole [tg] e pos.line X.env = pure false := by rfl) (hw : swappedStores [tg] e X.env = pure none := by rfl)
    (h1 : (assignEach [tg] X.env).map (·.2) = [assign tg X.env] := by rfl) : CS X (.Assign [tg] e pos) (mAsg m g) := by
  refine ⟨?_⟩
  intro env S f env' S' h r σ H D A hq
  obtain ⟨⟨d, S1⟩, e1, h⟩ := Option.bind_eq_some_iff.mp h
  obtain ⟨⟨env2, S2⟩, e2, h⟩ := Option.bind_eq_some_iff.mp h
  cases h
  refine tms_of (ps_asg pe_tm pg_tm hs hw h1) (he env S d S1 e1 r σ H _ A fun r1 H1 v s1 l1 q1 => ?_)
  exact hg d env S1 _ _ e2 r1 σ H1 v _ (A.lat s1 l1) q1 fun r2 σ2 H2 A2 l2 _ => hq r2 σ2 H2 A2 (l1.trans l2)
theorem cS_set {i : Nat} {x : Str} {e : Expr} {m : ME} {pos pos' : Pos} (hN : X.N.Nodup) (hi : X.N[i]? = some x) (hx : Loc X.env.scope x) (he : CE X e m) (hs : swapsWith e (some (.Name x pos')) pos.line X.env = pure false := by rfl) (hf : X.fn x = true ∨ X.env.scope.names.lookup x = some .local := by first | exact .inl rfl | exact .inr rfl | assumption) :
    CS X (.Assign [.Name x pos'] e pos) (mAsg m (gN i)) := by
  refine ⟨?_⟩
  intro env S f env' S' h r σ H D A hq
  obtain ⟨⟨d, S1⟩, e1, h⟩ := Option.bind_eq_some_iff.mp h
  cases h
  refine tms_of (ps_set hN hi hx pe_tm hs hf) (he env S d _ e1 r σ H _ A fun r1 H1 v s1 l1 q1 => ?_)
  exact hq r1 _ H1 ⟨s1, (A.env.lat l1).set q1⟩ l1
/-- a, b = x, y -/
def mPar (is : List Nat) (a : MA) : MS := fun env S => (a env S).bind fun p => if p.1.length = is.length then some (.nx, (is.zip p.1).foldl (fun e q => e.set q.1 (some q.2)) env, p.2) else none
theorem cS_par {i j : Nat} {x y : Str} {a b : Expr} {ma : MA} {px py pt pos : Pos} {kt k2 pt2} (hc : X.calm = true) (hN : X.N.Nodup) (hi : X.N[i]? = some x) (hj : X.N[j]? = some y) (hij : i ≠ j)
    (hx : X.env.scope.names.lookup x = some .local) (hy : X.env.scope.names.lookup y = some .local) (ha : CA X [a, b] ma)
    (hw : swappedStores [.Tuple [.Name x px, .Name y py] kt pt] (.Tuple [a, b] k2 pt2) X.env = pure (some [x, y]))
    (hs : swapsWithSole [.Tuple [.Name x px, .Name y py] kt pt] (.Tuple [a, b] k2 pt2) pos.line X.env = pure false := by rfl) :
    CS X (.Assign [.Tuple [.Name x px, .Name y py] kt pt] (.Tuple [a, b] k2 pt2) pos) (mPar [i, j] ma) := by
  refine ⟨?_⟩
  intro env S f env' S' h r σ H D A hq
  obtain ⟨⟨ds, S1⟩, e1, h⟩ := Option.bind_eq_some_iff.mp h
  split at h
  · rename_i hl
    cases h
    refine tms_of (ps_par hc hN hi hj hij hx hy pa_tm hw hs) (ha env S ds _ e1 r σ H _ A fun r1 H1 vs s1 l1 q1 => ?_)
    match ds, hl, q1 with
    | [d1, d2], _, .cons (v := v1) z1 (.cons (v := v2) z2 .nil) => exact ⟨v1, v2, rfl, hq r1 _ H1 ⟨s1, ((A.env.lat l1).set z1).set z2⟩ l1⟩
  · cases h
theorem cS_par3 {i j l : Nat} {x y z : Str} {a b c : Expr} {ma : MA} {px py pz pt pos : Pos} {kt k2 pt2} (hc : X.calm = true) (hN : X.N.Nodup) (hi : X.N[i]? = some x) (hj : X.N[j]? = some y) (hl : X.N[l]? = some z) (hij : i ≠ j) (hil : i ≠ l) (hjl : j ≠ l)
    (hx : X.env.scope.names.lookup x = some .local) (hy : X.env.scope.names.lookup y = some .local) (hz : X.env.scope.names.lookup z = some .local) (ha : CA X [a, b, c] ma)
    (hw : swappedStores [.Tuple [.Name x px, .Name y py, .Name z pz] kt pt] (.Tuple [a, b, c] k2 pt2) X.env = pure (some [x, y, z]))
    (hs : swapsWithSole [.Tuple [.Name x px, .Name y py, .Name z pz] kt pt] (.Tuple [a, b, c] k2 pt2) pos.line X.env = pure false := by rfl) :
    CS X (.Assign [.Tuple [.Name x px, .Name y py, .Name z pz] kt pt] (.Tuple [a, b, c] k2 pt2) pos) (mPar [i, j, l] ma) := by
  refine ⟨?_⟩
  intro env S f env' S' h r σ H D A hq
  obtain ⟨⟨ds, S1⟩, e1, h⟩ := Option.bind_eq_some_iff.mp h
  split at h
  · rename_i hln
    cases h
    refine tms_of (ps_par3 hc hN hi hj hl hij hil hjl hx hy hz pa_tm hw hs) (ha env S ds _ e1 r σ H _ A fun r1 H1 vs s1 l1 q1 => ?_)
    match ds, hln, q1 with
    | [d1, d2, d3], _, .cons (v := v1) z1 (.cons (v := v2) z2 (.cons (v := v3) z3 .nil)) => exact ⟨v1, v2, v3, rfl, hq r1 _ H1 ⟨s1, (((A.env.lat l1).set z1).set z2).set z3⟩ l1⟩
  · cases h

/-! ### while -/
def mWh (c : MT) (b : MS) : Nat → MS
  | 0 => fun _ _ => none
  | n + 1 => fun env S => (c env S).bind fun p => if p.1 = true then (b env p.2).bind fun q => match q.1 with
      | .nx => mWh c b n q.2.1 q.2.2
      | .ct => mWh c b n q.2.1 q.2.2
      | .bk => some (.nx, q.2.1, q.2.2)
      | .rt d => some (.rt d, q.2.1, q.2.2)
    else some (.nx, env, p.2)
theorem cS_while {c : Expr} {body : List Stmt} {mc : MT} {mb : MS} {pos : Pos} (n : Nat) (hp : PassesOwn (model X.prog X.w) X.A X.env X.xe) (hc : CT X c mc) (hb : CSs X body mb) : CS X (.While c body [] pos) (mWh mc mb n) := by
  refine ⟨?_⟩
  intro env S f env' S' h r σ H D A hq
  refine tms_of (ps_while hp pt_tm pss_tm) ⟨fun m σ1 H1 => ∃ r1 env1 S1, At X r1 env1 S1 σ1 H1 ∧ Lat r H r1 H1 ∧ mWh mc mb m env1 S1 = some (f, env', S'), ⟨n, r, env, S, A, .refl, h⟩, ?_⟩
  rintro m σ1 H1 ⟨r1, env1, S1, A1, l1, h1⟩
  cases m with
  | zero => cases h1
  | succ m =>
    obtain ⟨⟨k, S2⟩, e2, h1⟩ := Option.bind_eq_some_iff.mp h1
    refine hc env1 S1 k S2 e2 r1 σ1 H1 _ A1 fun r2 H2 s2 l2 => ?_
    cases k with
    | false =>
      cases h1
      exact iteF (hq r2 σ1 H2 (A1.lat s2 l2) (l1.trans l2))
    | true =>
      refine iteT ⟨fun σ' H' => ∃ m', m' < m + 1 ∧ ∃ r1 env1 S1, At X r1 env1 S1 σ' H' ∧ Lat r H r1 H' ∧ mWh mc mb m' env1 S1 = some (f, env', S'), fun σ' H' z => z, ?_⟩
      obtain ⟨⟨f3, env3, S3⟩, e3, h1⟩ := Option.bind_eq_some_iff.mp h1
      refine hb env1 S2 f3 env3 S3 e3 r2 σ1 H2 _ (A1.lat s2 l2) ?_
      cases f3 with
      | nx => exact fun r4 σ4 H4 A4 l4 => ⟨m, Nat.lt_succ_self m, r4, env3, S3, A4, l1.trans (l2.trans l4), h1⟩
      | ct => exact fun r4 σ4 H4 A4 l4 => ⟨m, Nat.lt_succ_self m, r4, env3, S3, A4, l1.trans (l2.trans l4), h1⟩
      | bk => cases h1; exact fun r4 σ4 H4 A4 l4 => hq r4 σ4 H4 A4 (l1.trans (l2.trans l4))
      | rt d => cases h1; exact fun r4 H4 v s4 l4 q4 => hq r4 H4 v s4 (l1.trans (l2.trans l4)) q4

/-! ### what is walked -/
abbrev Nxt := Nat → Sto → Option (Option D)
structure ItOk (X : Cx) (J : It) (r0 : List Addr) (H0 : Hp) (nx : Nxt) : Prop where
  stop : ∀ i S r H, Sim X.K X.mg r S H → Lat r0 H0 r H → nx i S = some none → J.stop i H
  go : ∀ i S r H d, Sim X.K X.mg r S H → Lat r0 H0 r H → nx i S = some (some d) → J.go i H
  yld : ∀ i S r H d x H', Sim X.K X.mg r S H → Lat r0 H0 r H → nx i S = some (some d) → J.yld i H x H' → Sim X.K X.mg r S H' ∧ Lat r H r H' ∧ RepV X.K X.mg r H' d x
abbrev MI := Env → Sto → Option ((Nat × Nxt) × Sto)
def CI0 (X : Cx) (tg iter : Expr) (m : MI) : Prop := ∃ wi, PI X tg iter wi ∧ ∀ env S k nx S', m env S = some ((k, nx), S') → ∀ r σ H (Q : It → Hp → Prop), At X r env S σ H →
  (∀ r' H' J, Sim X.K X.mg r' S' H' → Lat r H r' H' → ItOk X J r' H' nx → Q J H') → wi σ H Q
structure CI (X : Cx) (tg iter : Expr) (m : MI) : Prop where
  run : ∃ wi, PI X tg iter wi ∧ ∀ env S k nx S', m env S = some ((k, nx), S') → ∀ r σ H (Q : It → Hp → Prop), At X r env S σ H →
  (∀ r' H' J, Sim X.K X.mg r' S' H' → Lat r H r' H' → ItOk X J r' H' nx → Q J H') → wi σ H Q
def mForL (nx : Nxt) (g : MG) (b : MS) : Nat → Nat → MS
  | 0, _ => fun _ _ => none
  | k + 1, i => fun env S => (nx i S).bind fun o => match o with
    | none => some (.nx, env, S)
    | some d => (g d env S).bind fun p => (b p.1 p.2).bind fun q => match q.1 with
      | .nx => mForL nx g b k (i + 1) q.2.1 q.2.2
      | .ct => mForL nx g b k (i + 1) q.2.1 q.2.2
      | .bk => some (.nx, q.2.1, q.2.2)
      | .rt d => some (.rt d, q.2.1, q.2.2)
def mFor (it : MI) (g : MG) (b : MS) : MS := fun env S => (it env S).bind fun p => mForL p.1.2 g b p.1.1 0 env p.2
theorem cS_for {tg iter : Expr} {body : List Stmt} {it : MI} {g : MG} {b : MS} {L : List Nat} {pos : Pos} (hp : PassesOwn (model X.prog X.w) X.A X.env X.xe) (hc : X.calm = true) (hi : CI X tg iter it) (hg : CG X tg L g) (hb : CSs X body b)
    (hs : ∀ x, foldedSetIterable iter X.env x = pure x := by intro _; rfl) : CS X (.For tg iter body [] pos) (mFor it g b) := by
  obtain ⟨wi, pw, hi⟩ := hi
  refine ⟨?_⟩
  intro env S f env' S' h r σ H D A hq
  obtain ⟨⟨⟨k, nx⟩, S0⟩, e0, h⟩ := Option.bind_eq_some_iff.mp h
  refine tms_of (ps_for hp hc pw pg_tm pss_tm hs) (hi env S k nx S0 e0 r σ H _ A fun r0 H0 J s0 l0 ok => ?_)
  refine ⟨fun i m σ1 H1 => ∃ r1 env1 S1, At X r1 env1 S1 σ1 H1 ∧ Lat r0 H0 r1 H1 ∧ mForL nx g b m i env1 S1 = some (f, env', S'), ⟨k, r0, env, S0, A.lat s0 l0, .refl, h⟩, ?_⟩
  rintro i m σ1 H1 ⟨r1, env1, S1, A1, l1, h1⟩
  cases m with
  | zero => cases h1
  | succ m =>
    obtain ⟨o, e2, h1⟩ := Option.bind_eq_some_iff.mp h1
    cases o with
    | none =>
      cases h1
      exact .inl ⟨ok.stop i _ r1 H1 A1.sim l1 e2, hq r1 σ1 H1 A1 (l0.trans l1)⟩
    | some d =>
      refine .inr ⟨ok.go i S1 r1 H1 d A1.sim l1 e2, fun σ' H' => ∃ m', m' < m + 1 ∧ ∃ r1 env1 S1, At X r1 env1 S1 σ' H' ∧ Lat r0 H0 r1 H' ∧ mForL nx g b m' (i + 1) env1 S1 = some (f, env', S'), fun σ' H' z => z, fun x H' y => ?_⟩
      obtain ⟨s2, l2, q2⟩ := ok.yld i S1 r1 H1 d x H' A1.sim l1 e2 y
      obtain ⟨⟨env3, S3⟩, e3, h1⟩ := Option.bind_eq_some_iff.mp h1
      obtain ⟨⟨f4, env4, S4⟩, e4, h1⟩ := Option.bind_eq_some_iff.mp h1
      refine hg d env1 S1 env3 S3 e3 r1 σ1 H' x _ (A1.lat s2 l2) q2 fun r3 σ3 H3 A3 l3 _ => ?_
      have l13 := (l1.trans l2).trans l3
      refine hb env3 S3 f4 env4 S4 e4 r3 σ3 H3 _ A3 ?_
      cases f4 with
      | nx => exact fun r5 σ5 H5 A5 l5 => ⟨m, Nat.lt_succ_self m, r5, env4, S4, A5, l13.trans l5, h1⟩
      | ct => exact fun r5 σ5 H5 A5 l5 => ⟨m, Nat.lt_succ_self m, r5, env4, S4, A5, l13.trans l5, h1⟩
      | bk => cases h1; exact fun r5 σ5 H5 A5 l5 => hq r5 σ5 H5 A5 (l0.trans (l13.trans l5))
      | rt d => cases h1; exact fun r5 H5 v s5 l5 q5 => hq r5 H5 v s5 (l0.trans (l13.trans l5)) q5
end
end PL
end

section
set_option Elab.async false
set_option linter.all false
set_option maxRecDepth 100000
/-! PL3: what is walked; comprehensions; defs -/
namespace PL
open PySem PySem.Spec PyProof.Rows L2

section
variable {X : Cx}
/-- the store's sequence -/
def seqAt (n : Nat) (S : Sto) : Option (List D) := match S[n]? with
  | some (.lst xs) => some xs
  | some (.cst xs) => some xs
  | _ => none
theorem seqAt_ok {r : List Addr} {S : Sto} {H : Hp} {n : Nat} {a : Addr} {xs : List D} (s : Sim X.K X.mg r S H) (ea : r[n]? = some a) (h : seqAt n S = some xs) : ∃ vs, SqL X.K H a vs ∧ RepL X.K X.mg r H xs vs := by
  unfold seqAt at h
  split at h
  · rename_i ys e
    cases h
    obtain ⟨vs, e1, q⟩ := s.ob n _ a e ea
    exact ⟨vs, SqL.of e1, q⟩
  · rename_i ys e
    cases h
    obtain ⟨vs, e1, q⟩ := s.ob n _ a e ea
    exact ⟨vs, e1.sq, q⟩
  · cases h
def nxL (n : Nat) : Nxt := fun i S => (seqAt n S).bind fun xs => some xs[i]?
def nxT (xs : List D) : Nxt := fun i _ => some xs[i]?
def nxS (x : Str) : Nxt := fun i _ => some ((x.cps[i]?).map fun c => .str ⟨#[c]⟩)
def nxR (lo : Int) (n : Nat) : Nxt := fun i _ => some (if i < n then some (.int (lo + i)) else none)
theorem itL {r0 : List Addr} {H0 : Hp} {n : Nat} {a : Addr} (ea : r0[n]? = some a) : ItOk X (Itl X.K a) r0 H0 (nxL n) where
  stop i S r H s l e := by
    obtain ⟨xs, e1, e⟩ := Option.bind_eq_some_iff.mp e
    obtain ⟨vs, h1, q⟩ := seqAt_ok (X := X) s (l.pre _ _ ea) e1
    exact ⟨vs, h1, by rw [← q.length]; exact List.getElem?_eq_none_iff.mp (Option.some.inj e)⟩
  go i S r H d s l e := by
    obtain ⟨xs, e1, e⟩ := Option.bind_eq_some_iff.mp e
    obtain ⟨vs, h1, q⟩ := seqAt_ok (X := X) s (l.pre _ _ ea) e1
    obtain ⟨v, h2, _⟩ := q.get (Option.some.inj e)
    exact ⟨vs, v, h1, h2⟩
  yld i S r H d x H' s l e y := by
    obtain ⟨xs, e1, e⟩ := Option.bind_eq_some_iff.mp e
    obtain ⟨vs, h1, q⟩ := seqAt_ok (X := X) s (l.pre _ _ ea) e1
    obtain ⟨v, h2, h3⟩ := q.get (Option.some.inj e)
    obtain ⟨rfl, hx⟩ := y
    have := hx vs h1
    rw [h2] at this
    cases this
    exact ⟨s, .refl, h3⟩
theorem itT {r0 : List Addr} {H0 : Hp} {a : Addr} {xs : List D} {vs : List V} (ht : TupAt H0 a vs) (q0 : RepL X.K X.mg r0 H0 xs vs) : ItOk X (Itt X.K a) r0 H0 (nxT xs) where
  stop i S r H s l e := ⟨vs, (ht.lat l).sq, by rw [← q0.length]; exact List.getElem?_eq_none_iff.mp (Option.some.inj e)⟩
  go i S r H d s l e := by
    obtain ⟨v, h2, _⟩ := q0.get (Option.some.inj e)
    exact ⟨vs, v, (ht.lat l).sq, h2⟩
  yld i S r H d x H' s l e y := by
    obtain ⟨v, h2, h3⟩ := (q0.lat l).get (Option.some.inj e)
    obtain ⟨rfl, hx⟩ := y
    have := hx vs (ht.lat l).sq
    rw [h2] at this
    cases this
    exact ⟨s, .refl, h3⟩
theorem itK {r0 : List Addr} {H0 : Hp} {a : Addr} {xs : List D} {vs : List V} (ht : KtAt X.K a vs) (q0 : RepL X.K X.mg r0 H0 xs vs) : ItOk X (Itt X.K a) r0 H0 (nxT xs) where
  stop i S r H s l e := ⟨vs, ht.sq, by rw [← q0.length]; exact List.getElem?_eq_none_iff.mp (Option.some.inj e)⟩
  go i S r H d s l e := by
    obtain ⟨v, h2, _⟩ := q0.get (Option.some.inj e)
    exact ⟨vs, v, ht.sq, h2⟩
  yld i S r H d x H' s l e y := by
    obtain ⟨v, h2, h3⟩ := (q0.lat l).get (Option.some.inj e)
    obtain ⟨rfl, hx⟩ := y
    have := hx vs ht.sq
    rw [h2] at this
    cases this
    exact ⟨s, .refl, h3⟩
theorem itS {r0 : List Addr} {H0 : Hp} {x : Str} : ItOk X (Its x) r0 H0 (nxS x) where
  stop i S r H s l e := by
    have e' := Option.some.inj e
    exact Array.getElem?_eq_none_iff.mp (Option.map_eq_none_iff.mp e')
  go i S r H d s l e := by
    obtain ⟨c, h1, _⟩ := Option.map_eq_some_iff.mp (Option.some.inj e)
    exact (Array.getElem?_eq_some_iff.mp h1).1
  yld i S r H d y H' s l e z := by
    obtain ⟨c, h1, h2⟩ := Option.map_eq_some_iff.mp (Option.some.inj e)
    obtain ⟨rfl, c', h3, rfl⟩ := z
    rw [h1] at h3
    cases h3
    subst h2
    exact ⟨s, .refl, .str _⟩
theorem itR {r0 : List Addr} {H0 : Hp} {lo : Int} {n : Nat} : ItOk X (Itr lo n) r0 H0 (nxR lo n) where
  stop i S r H s l e := by
    have e' := Option.some.inj e
    show n ≤ i
    split at e'
    · cases e'
    · omega
  go i S r H d s l e := by
    have e' := Option.some.inj e
    show i < n
    split at e'
    · assumption
    · cases e'
  yld i S r H d y H' s l e z := by
    have e' := Option.some.inj e
    obtain ⟨rfl, rfl⟩ := z
    split at e'
    · cases e'
      exact ⟨s, .refl, .int _⟩
    · cases e'
def itrOf (d : D) (S : Sto) : Option ((Nat × Nxt) × Sto) := match d with
  | .tup xs => some ((xs.length + 1, nxT xs), S)
  | .ktup xs => some ((xs.length + 1, nxT xs), S)
  | .str x => some ((x.cps.size + 1, nxS x), S)
  | .ref n => (seqAt n S).bind fun xs => some ((xs.length + 1, nxL n), S)
  | _ => none
def mItr (m : ME) : MI := fun env S => (m env S).bind fun p => itrOf p.1 p.2
theorem PI.or {tg iter : Expr} {a b : TI} (h : PI X tg iter a) (g : PI X tg iter b) : PI X tg iter (fun σ H R => a σ H R ∨ b σ H R) := ⟨fun pins s σ H R I q => q.elim (h.run pins s σ H R I) (g.run pins s σ H R I)⟩
theorem cI_seq {tg e : Expr} {m : ME} (he : CE X e m) : CI X tg e (mItr m) := by
  refine ⟨_, PI.or (pi_list pe_tm) (PI.or (pi_tup pe_tm) (pi_str pe_tm)), fun env S k nx S' h r σ H Q A hq => ?_⟩
  obtain ⟨⟨d, S1⟩, e1, h⟩ := Option.bind_eq_some_iff.mp h
  have h' : itrOf d S1 = some ((k, nx), S') := h
  clear h
  unfold itrOf at h'
  split at h'
  · cases h'
    refine .inr (.inl (he env S _ _ e1 r σ H _ A fun r1 H1 v s1 l1 q1 => ?_))
    cases q1 with
    | tup ht hl => exact ⟨_, rfl, ⟨_, ht.sq⟩, hq r1 H1 _ s1 l1 (itT ht hl)⟩
  · cases h'
    refine .inr (.inl (he env S _ _ e1 r σ H _ A fun r1 H1 v s1 l1 q1 => ?_))
    cases q1 with
    | ktup ht hl => exact ⟨_, rfl, ⟨_, ht.sq⟩, hq r1 H1 _ s1 l1 (itK ht hl)⟩
  · cases h'
    refine .inr (.inr (he env S _ _ e1 r σ H _ A fun r1 H1 v s1 l1 q1 => ?_))
    cases q1
    exact ⟨_, rfl, hq r1 H1 _ s1 l1 itS⟩
  · obtain ⟨xs, e2, h'⟩ := Option.bind_eq_some_iff.mp h'
    cases h'
    refine .inl (he env S _ _ e1 r σ H _ A fun r1 H1 v s1 l1 q1 => ?_)
    cases q1 with
    | ref ea =>
      obtain ⟨vs, h1, _⟩ := seqAt_ok (X := X) s1 ea e2
      exact ⟨_, rfl, ⟨vs, h1⟩, hq r1 H1 _ s1 l1 (itL ea)⟩
  · cases h'
def r1Of (ds : List D) (S : Sto) : Option ((Nat × Nxt) × Sto) := match ds with
  | [.int j] => if -(2 ^ 62) ≤ j ∧ j < 2 ^ 62 then some ((j.toNat + 1, nxR 0 j.toNat), S) else none
  | _ => none
def mR1 (a : MA) : MI := fun env S => (a env S).bind fun p => r1Of p.1 p.2
theorem cI_r1 {tg a : Expr} {m : MA} {p pos : Pos} (hg : Gl X "range") (hm : X.mg "range" = none) (ha : CA X [a] m) (hs : starEach [a] X.env = [(false, eval a X.env)] := by rfl) : CI X tg (.Call (.Name "range" p) [a] [] pos) (mR1 m) := by
  refine ⟨_, pi_range1 hg hm pa_tm hs, fun env S k nx S' h r σ H Q A hq => ?_⟩
  obtain ⟨⟨ds, S1⟩, e1, h⟩ := Option.bind_eq_some_iff.mp h
  have h' : r1Of ds S1 = some ((k, nx), S') := h
  clear h
  unfold r1Of at h'
  split at h'
  · rename_i j
    split at h'
    · rename_i hj
      cases h'
      refine ha env S _ _ e1 r σ H _ A fun r1 H1 vs s1 l1 q1 => ?_
      match vs, q1 with
      | [v], .cons z .nil => cases z; exact ⟨j, rfl, hj.1, hj.2, hq r1 H1 _ s1 l1 itR⟩
    · cases h'
  · cases h'
def r2Of (ds : List D) (S : Sto) : Option ((Nat × Nxt) × Sto) := match ds with
  | [.int i, .int j] => if -(2 ^ 62) ≤ i ∧ i < 2 ^ 62 ∧ -(2 ^ 62) ≤ j ∧ j < 2 ^ 62 then some (((j - i).toNat + 1, nxR i (j - i).toNat), S) else none
  | _ => none
def mR2 (a : MA) : MI := fun env S => (a env S).bind fun p => r2Of p.1 p.2
theorem cI_r2 {tg a b : Expr} {m : MA} {p pos : Pos} (hg : Gl X "range") (hm : X.mg "range" = none) (ha : CA X [a, b] m) (hs : starEach [a, b] X.env = [(false, eval a X.env), (false, eval b X.env)] := by rfl) (hs2 : starEach [b] X.env = [(false, eval b X.env)] := by rfl) : CI X tg (.Call (.Name "range" p) [a, b] [] pos) (mR2 m) := by
  refine ⟨_, pi_range2 hg hm pa_tm hs hs2, fun env S k nx S' h r σ H Q A hq => ?_⟩
  obtain ⟨⟨ds, S1⟩, e1, h⟩ := Option.bind_eq_some_iff.mp h
  have h' : r2Of ds S1 = some ((k, nx), S') := h
  clear h
  unfold r2Of at h'
  split at h'
  · rename_i i j
    split at h'
    · rename_i hj
      cases h'
      refine ha env S _ _ e1 r σ H _ A fun r1 H1 vs s1 l1 q1 => ?_
      match vs, q1 with
      | [v, w], .cons z (.cons z2 .nil) => cases z; cases z2; exact ⟨i, j, rfl, hj, hq r1 H1 _ s1 l1 itR⟩
    · cases h'
  · cases h'
/-- enumerate(a list) -/
def nxE (n : Nat) : Nxt := fun i S => (seqAt n S).bind fun xs => some ((xs[i]?).map fun d => .tup [.int i, d])
theorem tup2 {r : List Addr} {S : Sto} {H : Hp} {T : Addr} {d e : D} {v w : V} (s : Sim X.K X.mg r S H) (n : H T = none) (q : RepV X.K X.mg r H d v) (q2 : RepV X.K X.mg r H e w) :
    Sim X.K X.mg r S (upd H T (.tup [v, w])) ∧ Lat r H r (upd H T (.tup [v, w])) ∧ RepV X.K X.mg r (upd H T (.tup [v, w])) (.tup [d, e]) (.ref T) :=
  ⟨s.tup n, lat_tup n, .tup upd_same (.cons (q.lat (lat_tup n)) (.cons (q2.lat (lat_tup n)) .nil))⟩
theorem itE {r0 : List Addr} {H0 : Hp} {n : Nat} {a : Addr} (ea : r0[n]? = some a) : ItOk X (Ite X.K a) r0 H0 (nxE n) where
  stop i S r H s l e := by
    obtain ⟨xs, e1, e⟩ := Option.bind_eq_some_iff.mp e
    obtain ⟨vs, h1, q⟩ := seqAt_ok (X := X) s (l.pre _ _ ea) e1
    exact ⟨vs, h1, by rw [← q.length]; exact List.getElem?_eq_none_iff.mp (Option.map_eq_none_iff.mp (Option.some.inj e))⟩
  go i S r H d s l e := by
    obtain ⟨xs, e1, e⟩ := Option.bind_eq_some_iff.mp e
    obtain ⟨d1, e2, e3⟩ := Option.map_eq_some_iff.mp (Option.some.inj e)
    obtain ⟨vs, h1, q⟩ := seqAt_ok (X := X) s (l.pre _ _ ea) e1
    obtain ⟨v, h2, _⟩ := q.get e2
    exact ⟨vs, v, h1, h2⟩
  yld i S r H d x H' s l e y := by
    obtain ⟨xs, e1, e⟩ := Option.bind_eq_some_iff.mp e
    obtain ⟨d1, e2, e3⟩ := Option.map_eq_some_iff.mp (Option.some.inj e)
    obtain ⟨vs, h1, q⟩ := seqAt_ok (X := X) s (l.pre _ _ ea) e1
    obtain ⟨v, h2, h3⟩ := q.get e2
    obtain ⟨T, z, rfl, nT, rfl, hx⟩ := y
    have := hx vs h1
    rw [h2] at this
    cases this
    subst e3
    exact tup2 s nT (.int _) h3
def enOf (ds : List D) (S : Sto) : Option ((Nat × Nxt) × Sto) := match ds with
  | [.ref n] => (seqAt n S).bind fun xs => some ((xs.length + 1, nxE n), S)
  | _ => none
def mEn (a : MA) : MI := fun env S => (a env S).bind fun p => enOf p.1 p.2
theorem cI_en {e : Expr} {m : MA} {elts : List Expr} {kk : Nat} {p pos tpos : Pos} (hg : Gl X "enumerate") (hm : X.mg "enumerate" = none) (ha : CA X [e] m) (hs : starEach [e] X.env = [(false, eval e X.env)] := by rfl) : CI X (.Tuple elts kk tpos) (.Call (.Name "enumerate" p) [e] [] pos) (mEn m) := by
  refine ⟨_, pi_enum hg hm pa_tm hs, fun env S k nx S' h r σ H Q A hq => ?_⟩
  obtain ⟨⟨ds, S1⟩, e1, h⟩ := Option.bind_eq_some_iff.mp h
  have h' : enOf ds S1 = some ((k, nx), S') := h
  clear h
  unfold enOf at h'
  split at h'
  · obtain ⟨xs, e2, h'⟩ := Option.bind_eq_some_iff.mp h'
    cases h'
    refine ha env S _ _ e1 r σ H _ A fun r1 H1 vs s1 l1 q1 => ?_
    match vs, q1 with
    | [v], .cons z .nil =>
      cases z with
      | ref ea =>
        obtain ⟨ws, h1, _⟩ := seqAt_ok (X := X) s1 ea e2
        exact ⟨_, ws, rfl, h1, hq r1 H1 _ s1 l1 (itE ea)⟩
  · cases h'

/-! ### comprehensions -/
def TMts (X : Cx) (ifs : List Expr) : TT := fun σ H Q => ∃ t, PTs X ifs t ∧ t σ H Q
theorem pts_tm {ifs : List Expr} : PTs X ifs (TMts X ifs) := ⟨fun pins s σ H Q I ⟨_, pt, q⟩ => pt.run pins s σ H Q I q⟩
def CTs0 (X : Cx) (ifs : List Expr) (m : MT) : Prop := ∀ env S b S', m env S = some (b, S') → ∀ r σ H (Q : Bool → Hp → Prop), At X r env S σ H → (∀ r' H', Sim X.K X.mg r' S' H' → Lat r H r' H' → Q b H') → TMts X ifs σ H Q
structure CTs (X : Cx) (ifs : List Expr) (m : MT) : Prop where
  run : ∀ env S b S', m env S = some (b, S') → ∀ r σ H (Q : Bool → Hp → Prop), At X r env S σ H → (∀ r' H', Sim X.K X.mg r' S' H' → Lat r H r' H' → Q b H') → TMts X ifs σ H Q
instance {X : Cx} {ifs : List Expr} {m : MT} : CoeFun (CTs X ifs m) (fun _ => ∀ env S b S', m env S = some (b, S') → ∀ r σ H (Q : Bool → Hp → Prop), At X r env S σ H → (∀ r' H', Sim X.K X.mg r' S' H' → Lat r H r' H' → Q b H') → TMts X ifs σ H Q
) := ⟨CTs.run⟩
def mYes : MT := fun _ S => some (true, S)
theorem cTs_nil : CTs X [] mYes := ⟨fun env S b S' h r σ H Q A hq => by
  cases h
  exact ⟨_, pts_nil, hq r H A.sim .refl⟩⟩
theorem cTs_one {c : Expr} {m : MT} (hc : CT X c m) : CTs X [c] m := ⟨fun env S b S' h r σ H Q A hq => ⟨_, pts_one pt_tm, hc env S b S' h r σ H Q A hq⟩⟩
/-- a block's context -/
abbrev bX (X : Cx) (scope : Scope) (s : Shared) (H : Hp) (C : Addr) (cl : List (Str × Addr)) (fp : List Addr) : Cx := X.blk s H scope (compEnvC scope cl C X.env) fp
def bTE (X : Cx) (sc : Scope) (e : Expr) : TE := fun σ H Q => ∀ s H0 C cl fp, TM (bX X sc s H0 C cl fp) e σ H Q
def bTG (X : Cx) (sc : Scope) (e : Expr) : TG := fun v σ H Q => ∀ s H0 C cl fp, TMg (bX X sc s H0 C cl fp) e v σ H Q
def bTT (X : Cx) (sc : Scope) (es : List Expr) : TT := fun σ H Q => ∀ s H0 C cl fp, TMts (bX X sc s H0 C cl fp) es σ H Q
def wipeE (env : Env) : List Nat → Env
  | [] => env
  | v :: vs => (wipeE env vs).set v none
theorem wipeE_len (env : Env) : ∀ vs : List Nat, (wipeE env vs).length = env.length
  | [] => rfl
  | v :: vs => by unfold wipeE; rw [List.length_set, wipeE_len env vs]
theorem wipeE_some {env : Env} {i : Nat} {x : D} : ∀ {vs : List Nat}, (wipeE env vs)[i]? = some (some x) → env[i]? = some (some x) ∧ i ∉ vs
  | [], h => ⟨h, by simp⟩
  | v :: vs, h => by
    unfold wipeE at h
    by_cases hi : v = i
    · subst hi
      by_cases hv : v < (wipeE env vs).length
      · rw [List.getElem?_set_self hv] at h; cases h
      · rw [List.getElem?_eq_none (by simpa using hv)] at h; cases h
    · rw [List.getElem?_set_ne hi] at h
      obtain ⟨h1, h2⟩ := wipeE_some h
      exact ⟨h1, by simp only [List.mem_cons, not_or]; exact ⟨fun e => hi e.symm, h2⟩⟩
theorem REnv.wipe {K : PySem.W.Frag} {mg : Str → Option Value} {r : List Addr} {H : Hp} {env : Env} {σ : L2.St} (h : REnv K mg r H env σ) (vs : List Nat) : REnv K mg r H (wipeE env vs) (wipe σ vs) := by
  refine ⟨by rw [wipe_length, wipeE_len, h.len], fun i d e => ?_⟩
  obtain ⟨e1, e2⟩ := wipeE_some e
  obtain ⟨v, h1, q⟩ := h.at_ i d e1
  refine ⟨v, ?_, q⟩
  rw [wipe_get, if_pos (List.getElem?_eq_some_iff.mp h1).1, if_neg e2]
  exact h1
theorem wipe_wipe (σ : L2.St) (vs : List Nat) : wipe (wipe σ vs) vs = wipe σ vs := by
  apply List.ext_getElem?
  intro j
  rw [wipe_get, wipe_get, wipe_length]
  by_cases hj : j < σ.length
  · by_cases hv : j ∈ vs
    · simp [hj, hv]
    · simp [hj, hv]
  · simp [hj]
def mLcL (nx : Nxt) (g : MG) (t : MT) (e : ME) (n : Nat) : Nat → Nat → Env → Sto → Option Sto
  | 0, _, _, _ => none
  | k + 1, i, env, S => (nx i S).bind fun o => match o with
    | none => some S
    | some d => (g d env S).bind fun p => (t p.1 p.2).bind fun c => if c.1 = true then (e p.1 c.2).bind fun q => match q.2[n]? with
        | some (.lst acc) => if acc.length < sizeLine then mLcL nx g t e n k (i + 1) env (q.2.set n (.lst (acc ++ [q.1]))) else none
        | _ => none
      else mLcL nx g t e n k (i + 1) env c.2
def mLc (it : MI) (g : MG) (t : MT) (e : ME) (vs : List Nat) : ME := fun env S => (it env S).bind fun p => (mLcL p.1.2 g t e p.2.length p.1.1 0 (wipeE env vs) (p.2 ++ [.lst []])).bind fun S' => some (.ref p.2.length, S')
theorem lc_ok {tg elt : Expr} {ifs : List Expr} {it : MI} {wi : TI} {g : MG} {t : MT} {me : ME} {L vs : List Nat} {scope : Scope}
    (hi : ∀ env S k nx S', it env S = some ((k, nx), S') → ∀ r σ H (Q : It → Hp → Prop), At X r env S σ H → (∀ r' H' J, Sim X.K X.mg r' S' H' → Lat r H r' H' → ItOk X J r' H' nx → Q J H') → wi σ H Q)
    (hL : ∀ i ∈ L, i ∈ vs) (hg : ∀ s H C cl fp, CG (bX X scope s H C cl fp) tg L g) (ht : ∀ s H C cl fp, CTs (bX X scope s H C cl fp) ifs t) (he : ∀ s H C cl fp, CE (bX X scope s H C cl fp) elt me)
    {env : Env} {S : Sto} {d : D} {S' : Sto} (h : mLc it g t me vs env S = some (d, S')) {r : List Addr} {σ : L2.St} {H : Hp} {Q : VK} (A : At X r env S σ H)
    (hq : ∀ r' H' v, Sim X.K X.mg r' S' H' → Lat r H r' H' → RepV X.K X.mg r' H' d v → Q v H') : tLc wi (bTG X scope tg) (bTT X scope ifs) (bTE X scope elt) vs σ H Q := by
  obtain ⟨⟨⟨k, nx⟩, S0⟩, e0, h⟩ := Option.bind_eq_some_iff.mp h
  obtain ⟨Sf, e1, h⟩ := Option.bind_eq_some_iff.mp h
  cases h
  refine hi env S k nx S0 e0 r σ H _ A fun r0 H0 J s0 l0 ok p np => ?_
  obtain ⟨s1, l1, q1⟩ := newL_ok (X := X) (d := .ref S0.length) s0 np .nil rfl
  have pn : (r0 ++ [p])[S0.length]? = some p := by
    rw [← s0.len, List.getElem?_append_right (Nat.le_refl _), Nat.sub_self]
    rfl
  refine ⟨fun i m H1 => ∃ r1 S1, Sim X.K X.mg r1 S1 H1 ∧ Lat (r0 ++ [p]) (upd H0 p (.lst [])) r1 H1 ∧ mLcL nx g t me S0.length m i (wipeE env vs) S1 = some S', ⟨k, r0 ++ [p], _, s1, .refl, e1⟩, ?_⟩
  rintro i m H1 ⟨r1, S1, s2, l2, h1⟩
  have l02 : Lat r0 H0 r1 H1 := l1.trans l2
  cases m with
  | zero => cases h1
  | succ m =>
    obtain ⟨o, e2, h1⟩ := Option.bind_eq_some_iff.mp h1
    cases o with
    | none =>
      cases h1
      exact .inl ⟨ok.stop i _ r1 H1 s2 l02 e2, hq r1 H1 _ s2 (l0.trans l02) (.ref (l2.pre _ _ pn))⟩
    | some d1 =>
      refine .inr ⟨ok.go i S1 r1 H1 d1 s2 l02 e2, fun H' => ∃ m', m' < m + 1 ∧ ∃ r1 S1, Sim X.K X.mg r1 S1 H' ∧ Lat (r0 ++ [p]) (upd H0 p (.lst [])) r1 H' ∧ mLcL nx g t me S0.length m' (i + 1) (wipeE env vs) S1 = some S', fun H' z => z, fun x H' y => ?_⟩
      obtain ⟨s3, l3, q3⟩ := ok.yld i S1 r1 H1 d1 x H' s2 l02 e2 y
      obtain ⟨⟨env4, S4⟩, e4, h1⟩ := Option.bind_eq_some_iff.mp h1
      obtain ⟨⟨c, S5⟩, e5, h1⟩ := Option.bind_eq_some_iff.mp h1
      have A3 : At X r1 (wipeE env vs) S1 (wipe σ vs) H' := ⟨s3, (A.env.lat ((l0.trans l02).trans l3)).wipe vs⟩
      intro bs bH bC bcl bfp
      refine hg bs bH bC bcl bfp d1 (wipeE env vs) S1 env4 S4 e4 r1 (wipe σ vs) H' x _ ⟨A3.sim, A3.env⟩ q3 fun r4 σ4 H4 A4 l4 w4 => ⟨?_, ?_⟩
      · rw [w4 vs hL, wipe_wipe]
      · intro bs bH bC bcl bfp
        refine ht bs bH bC bcl bfp env4 S4 c S5 e5 r4 σ4 H4 _ ⟨A4.sim, A4.env⟩ fun r5 H5 s5 l5 => ?_
        have l25 := ((l2.trans l3).trans l4).trans l5
        cases c with
        | false => exact iteF ⟨m, Nat.lt_succ_self m, r5, S5, s5, l25, h1⟩
        | true =>
          refine iteT ?_
          obtain ⟨⟨d6, S6⟩, e6, h1⟩ := Option.bind_eq_some_iff.mp h1
          intro bs bH bC bcl bfp
          refine he bs bH bC bcl bfp env4 S5 d6 S6 e6 r5 σ4 H5 _ ⟨s5, A4.env.lat l5⟩ fun r6 H6 v s6 l6 q6 => ?_
          split at h1
          · rename_i acc ea
            have hp6 : r6[S0.length]? = some p := l6.pre _ _ (l25.pre _ _ pn)
            obtain ⟨ws, e7, q7⟩ := s6.ob _ _ p ea hp6
            split at h1
            · rename_i hz
              have qn : RepL X.K X.mg r6 H6 (acc ++ [d6]) (ws ++ [v]) := q7.append (.cons q6 .nil)
              have L7 : Lat r6 H6 r6 (upd H6 p (.lst (ws ++ [v]))) := lat_upd e7 trivial
              obtain ⟨s8, l8⟩ := s6.put (o' := .lst (acc ++ [d6])) (v := .lst (ws ++ [v])) ea hp6 rfl rfl ⟨_, upd_same, qn.lat L7⟩
              exact ⟨ws, e7, by rw [← q7.length]; exact hz, m, Nat.lt_succ_self m, r6, _, s8, (l25.trans l6).trans l8, h1⟩
            · cases h1
          · cases h1
theorem cE_lc {elt tg iter : Expr} {ifs : List Expr} {scope : Scope} {own : List (Str × Nat)} {pos : Pos} {it : MI} {g : MG} {t : MT} {me : ME} {L : List Nat} (hc : X.calm = true) (hN : X.N.Nodup) (hi : CI X tg iter it) (ok : BlkOk X.N X.env.scope scope own)
    (hL : ∀ i ∈ L, i ∈ own.map (·.2)) (hg : ∀ s H C cl fp, CG (bX X scope s H C cl fp) tg L g) (ht : ∀ s H C cl fp, CTs (bX X scope s H C cl fp) ifs t) (he : ∀ s H C cl fp, CE (bX X scope s H C cl fp) elt me)
    (hs : ∀ x, foldedSetIterable iter X.env x = pure x := by intro _; rfl) : CE X (.ListComp elt [⟨tg, iter, ifs, 0⟩] scope pos) (mLc it g t me (own.map (·.2))) := by
  obtain ⟨wi, pw, hi⟩ := hi
  refine ⟨?_⟩
  intro env S d S' h r σ H Q A hq
  refine tm_of (pe_lc (own := own) (g := bTG X scope tg) (tt := bTT X scope ifs) (te := bTE X scope elt) hc hN pw ok (fun s H C cl fp => ⟨fun pins s' σ H v u Q I rv q => q _ _ _ _ _ pins s' u I rv⟩) (fun s H C cl fp => ⟨fun pins s' σ H Q I q => pts_tm.run pins s' σ H Q I (q _ _ _ _ _)⟩) (fun s H C cl fp => ⟨fun pins s' σ H Q I q => q _ _ _ _ _ pins s' I⟩) hs)
    (lc_ok hi hL hg ht he h A hq)
theorem cS_setLc {i : Nat} {y : Str} {py : Pos} {elt tg iter : Expr} {ifs : List Expr} {scope : Scope} {own : List (Str × Nat)} {pos spos : Pos} {it : MI} {g : MG} {t : MT} {me : ME} {L : List Nat} (hc : X.calm = true) (hN : X.N.Nodup) (hy : X.N[i]? = some y) (hyl : X.env.scope.names.lookup y = some .local)
    (hsw : swapsWith (.ListComp elt [⟨tg, iter, ifs, 0⟩] scope pos) (some (.Name y py)) spos.line X.env = pure true) (hi : CI X tg iter it) (ok : BlkOk X.N X.env.scope scope own)
    (hL : ∀ i ∈ L, i ∈ own.map (·.2)) (hg : ∀ s H C cl fp, CG (bX X scope s H C cl fp) tg L g) (ht : ∀ s H C cl fp, CTs (bX X scope s H C cl fp) ifs t) (he : ∀ s H C cl fp, CE (bX X scope s H C cl fp) elt me)
    (hs : ∀ x, foldedSetIterable iter X.env x = pure x := by intro _; rfl) : CS X (.Assign [.Name y py] (.ListComp elt [⟨tg, iter, ifs, 0⟩] scope pos) spos) (mAsg (mLc it g t me (own.map (·.2))) (gN i)) := by
  obtain ⟨wi, pw, hi⟩ := hi
  refine ⟨?_⟩
  intro env S f env' S' h r σ H D A hq
  obtain ⟨⟨d, S1⟩, e1, h⟩ := Option.bind_eq_some_iff.mp h
  cases h
  refine tms_of (ps_setLc (own := own) (g := bTG X scope tg) (tt := bTT X scope ifs) (te := bTE X scope elt) hc hN hy hyl hsw pw ok (fun s H C cl fp => ⟨fun pins s' σ H v u Q I rv q => q _ _ _ _ _ pins s' u I rv⟩) (fun s H C cl fp => ⟨fun pins s' σ H Q I q => pts_tm.run pins s' σ H Q I (q _ _ _ _ _)⟩) (fun s H C cl fp => ⟨fun pins s' σ H Q I q => q _ _ _ _ _ pins s' I⟩) hs)
    (lc_ok (Q := fun x H1 => gName i x σ H1 D.nx) hi hL hg ht he e1 A fun r1 H1 v s1 l1 q1 => hq r1 _ H1 ⟨s1, (A.env.lat l1).set q1⟩ l1)

/-! ### defs -/
def startE (n : Nat) (ds : List D) : Env := ds.map some ++ List.replicate (n - ds.length) none
def mBody (n : Nat) (b : MS) : MF := fun ds S => (b (startE n ds) S).bind fun p => match p.1 with
  | .nx => some (.non, p.2.2)
  | .rt d => some (d, p.2.2)
  | _ => none
theorem startE_ok {K : PySem.W.Frag} {mg : Str → Option Value} {r : List Addr} {H : Hp} {ds : List D} {vs : List V} (N : List Str) (q : RepL K mg r H ds vs) : REnv K mg r H (startE N.length ds) (L2.start N vs) := by
  have hl := q.length
  refine ⟨by unfold startE L2.start; simp [hl], fun i d e => ?_⟩
  unfold startE at e
  unfold L2.start
  by_cases hi : i < ds.length
  · rw [List.getElem?_append_left (by simpa using hi), List.getElem?_map] at e
    obtain ⟨d', h1, h2⟩ := Option.map_eq_some_iff.mp e
    cases h2
    obtain ⟨v, h3, q3⟩ := q.get h1
    exact ⟨v, by rw [List.getElem?_append_left (by simpa [← hl] using hi), List.getElem?_map, h3]; rfl, q3⟩
  · rw [List.getElem?_append_right (by simpa using hi), List.getElem?_replicate] at e
    split at e <;> cases e
theorem fn_ok {P : Program} {w : World} {K : PySem.W.Frag} {mg : Str → Option Value} {base : Heap} {x qual : Str} {st : Stmt} {f : Addr} {fd : FuncData} {N ps : List Str} {k n : Nat} {b : MS} (F : Fun K x qual st f fd) (S : FnScope N ps (defScope st)) (hn : ps.length = n)
    (hb : ∀ (cdv : Value) (A : Around) (outer : List PySem.Env) (s : Shared) (H : Hp) (E : XK), Room k (A.deeper (envOfC qual (defScope st) s.heap.objs.size f cdv)) → CSs (cxOf CX0 P w K mg base N qual (defScope st) f cdv A outer s H E).nox (defBody st) b) :
    FnOk P w K mg base CX0 (k + 1) f fd ps (spM K mg n (mBody N.length b)) := by
  refine F.ok S (fun vs H Q E h => ?_) (fun cdv A outer s H vs Q E hr h => ?_)
  · obtain ⟨r, S, ds, d, S', hl, s, q, h, hq⟩ := h
    rw [← q.length, hl, hn]
  · obtain ⟨r, S0, ds, d, S', hl, s0, q, h, hq⟩ := h
    obtain ⟨⟨fl, env', S1⟩, e1, h⟩ := Option.bind_eq_some_iff.mp h
    refine ⟨_, pss_tm, hb cdv A outer s H E hr _ S0 fl env' S1 e1 r _ H _ ⟨s0, startE_ok N q⟩ ?_⟩
    cases fl with
    | nx => cases h; exact fun r' σ' H' A' l' => hq r' H' .non A'.sim l' .non
    | rt d1 => cases h; exact fun r' H' v s' l' q' => hq r' H' v s' l' q'
    | bk => cases h
    | ct => cases h
end
end PL
end

section
set_option Elab.async false
set_option linter.all false
set_option maxRecDepth 100000
/-! PL4: operators by values -/
namespace PL
open PySem PySem.Spec PyProof.Rows L2

section
variable {X : Cx}
theorem OpS.or1 {a b : R2} {g : D → D → Sto → R} (h : OpS X a g) : OpS X (fun x y H Q => a x y H Q ∨ b x y H Q) g := fun x y S d S' e r H u v Q s q1 q2 hq => .inl (h x y S d S' e r H u v Q s q1 q2 hq)
theorem OpS.or2 {a b : R2} {g : D → D → Sto → R} (h : OpS X b g) : OpS X (fun x y H Q => a x y H Q ∨ b x y H Q) g := fun x y S d S' e r H u v Q s q1 q2 hq => .inr (h x y S d S' e r H u v Q s q1 q2 hq)
/-- one, else the other -/
def alt (g h : D → D → Sto → R) : D → D → Sto → R := fun x y S => (g x y S).orElse fun _ => h x y S
theorem OpS.alt {a b : R2} {g h : D → D → Sto → R} (ha : OpS X a g) (hb : OpS X b h) : OpS X (fun x y H Q => a x y H Q ∨ b x y H Q) (PL.alt g h) := fun x y S d S' e r H u v Q s q1 q2 hq => by
  unfold PL.alt at e
  cases eg : g x y S with
  | some z => rw [eg] at e; exact .inl (ha x y S d S' (by rw [eg]; exact e) r H u v Q s q1 q2 hq)
  | none => rw [eg] at e; exact .inr (hb x y S d S' e r H u v Q s q1 q2 hq)

/-! ### ints -/
def iiI (c : Int → Int → Bool) (f : Int → Int → Int) : D → D → Sto → R
  | .int i, .int j, S => if c i j = true then some (.int (f i j), S) else none
  | _, _, _ => none
def iiB (f : Int → Int → Bool) : D → D → Sto → R
  | .int i, .int j, S => some (.bl (f i j), S)
  | _, _, _ => none
theorem opS_iiI {C : Int → Int → Prop} {c : Int → Int → Bool} {f : Int → Int → Int} (h : ∀ i j, c i j = true → C i j) : OpS X (rI C fun i j => .int (f i j)) (iiI c f) := by
  intro x y S d S' e r H u v Q s q1 q2 hq
  unfold iiI at e
  split at e
  · rename_i i j _
    split at e
    · rename_i hc
      cases e
      cases q1
      cases q2
      exact ⟨_, _, rfl, rfl, h _ _ hc, hq r H _ s .refl (.int _)⟩
    · cases e
  · cases e
theorem opS_iiI0 {f : Int → Int → Int} : OpS X (rI0 fun i j => .int (f i j)) (iiI (fun _ _ => true) f) := by
  intro x y S d S' e r H u v Q s q1 q2 hq
  unfold iiI at e
  split at e
  · rename_i i j _
    split at e
    · cases e
      cases q1
      cases q2
      exact ⟨_, _, rfl, rfl, hq r H _ s .refl (.int _)⟩
    · cases e
  · cases e
theorem opS_iiB {f : Int → Int → Bool} : OpS X (rI0 fun i j => .bl (f i j)) (iiB f) := by
  intro x y S d S' e r H u v Q s q1 q2 hq
  unfold iiB at e
  split at e
  · rename_i i j _
    cases e
    cases q1
    cases q2
    exact ⟨_, _, rfl, rfl, hq r H _ s .refl (.bl _)⟩
  · cases e
def ssS : D → D → Sto → R
  | .str i, .str j, S => if i.length + j.length ≤ sizeLine then some (.str (i ++ j), S) else none
  | _, _, _ => none
def ssB (f : Str → Str → Bool) : D → D → Sto → R
  | .str i, .str j, S => some (.bl (f i j), S)
  | _, _, _ => none
theorem opS_ssB {f : Str → Str → Bool} : OpS X (fun x y H Q => ∃ i j, x = .str i ∧ y = .str j ∧ Q (.bl (f i j)) H) (ssB f) := by
  intro x y S d S' e r H u v Q s q1 q2 hq
  unfold ssB at e
  split at e
  · rename_i i j _
    cases e
    cases q1
    cases q2
    exact ⟨_, _, rfl, rfl, hq r H _ s .refl (.bl _)⟩
  · cases e
theorem opS_ssS : OpS X (fun x y H Q => ∃ i j, x = .str i ∧ y = .str j ∧ i.length + j.length ≤ sizeLine ∧ Q (.str (i ++ j)) H) ssS := by
  intro x y S d S' e r H u v Q s q1 q2 hq
  unfold ssS at e
  split at e
  · rename_i i j _
    split at e
    · rename_i hz
      cases e
      cases q1
      cases q2
      exact ⟨_, _, rfl, rfl, hz, hq r H _ s .refl (.str _)⟩
    · cases e
  · cases e
/-! ### tuples, lists -/
def ttT : D → D → Sto → R
  | .tup xs, .tup ys, S => if xs.length + ys.length ≤ sizeLine then some (.tup (xs ++ ys), S) else none
  | _, _, _ => none
theorem opS_ttT : OpS X (rCatA X.K) ttT := by
  intro x y S d S' e r H u v Q s q1 q2 hq
  unfold ttT at e
  split at e
  · rename_i xs ys _
    split at e
    · rename_i hz
      cases e
      cases q1 with
      | tup t1 l1 =>
        cases q2 with
        | tup t2 l2 =>
          rename_i a vs b ws
          have n1 := l1.length
          have n2 := l2.length
          refine ⟨a, b, vs, ws, rfl, rfl, t1.sq, t2.sq, by omega, fun e0 => ?_, fun h0 e0 => ?_, fun h0 h1 p np => ?_⟩
          · subst e0
            cases l1
            exact hq r H _ s .refl (.tup t2 l2)
          · subst e0
            cases l2
            rw [List.append_nil] at hq
            exact hq r H _ s .refl (.tup t1 l1)
          · exact hq r _ _ (s.tup np) (lat_tup np) (.tup upd_same ((l1.append l2).lat (lat_tup np)))
    · cases e
  · cases e
def llL : D → D → Sto → R
  | .ref a, .ref b, S => match S[a]?, S[b]? with
    | some (.lst xs), some (.lst ys) => if xs.length + ys.length ≤ sizeLine then newL (xs ++ ys) S else none
    | _, _ => none
  | _, _, _ => none
theorem opS_llL : OpS X rCat llL := by
  intro x y S d S' e r H u v Q s q1 q2 hq
  unfold llL at e
  split at e
  · rename_i a b _
    split at e
    · rename_i xs ys ex ey
      split at e
      · rename_i hz
        cases q1 with
        | ref ea =>
          cases q2 with
          | ref eb =>
            obtain ⟨vs, h1, l1⟩ := s.ob _ _ _ ex ea
            obtain ⟨ws, h2, l2⟩ := s.ob _ _ _ ey eb
            have n1 := l1.length
            have n2 := l2.length
            refine ⟨_, _, vs, ws, rfl, rfl, h1, h2, by omega, fun p np => ?_⟩
            obtain ⟨a1, a2, a3⟩ := newL_ok (X := X) s np (l1.append l2) e
            exact hq _ _ _ a1 a2 a3
      · cases e
    · cases e
  · cases e
def tiT : D → D → Sto → R
  | .tup xs, .int k, S => if xs ≠ [] ∧ 2 ≤ k ∧ k ≤ 1000 ∧ xs.length ≤ 1000 then some (.tup (List.replicate k.toNat xs).flatten, S) else none
  | _, _, _ => none
theorem RepL.rep {K : PySem.W.Frag} {mg : Str → Option Value} {r : List Addr} {H : Hp} {xs : List D} {vs : List V} (q : RepL K mg r H xs vs) : ∀ n : Nat, RepL K mg r H (List.replicate n xs).flatten (List.replicate n vs).flatten
  | 0 => .nil
  | n + 1 => by
    rw [List.replicate_succ, List.replicate_succ, List.flatten_cons, List.flatten_cons]
    exact q.append (RepL.rep q n)
instance decNil (xs : List D) : Decidable (xs ≠ []) := by
  cases xs with
  | nil => exact .isFalse fun h => h rfl
  | cons a b => exact .isTrue (by simp)
def tiT' : D → D → Sto → R
  | .tup (x :: xs), .int k, S => if 2 ≤ k ∧ k ≤ 1000 ∧ xs.length < 1000 then some (.tup (List.replicate k.toNat (x :: xs)).flatten, S) else none
  | _, _, _ => none
theorem opS_tiT : OpS X (rRepT X.K) tiT' := by
  intro x y S d S' e r H u v Q s q1 q2 hq
  unfold tiT' at e
  split at e
  · rename_i z xs k _
    split at e
    · rename_i hz
      cases e
      cases q1 with
      | tup t1 l1 =>
        cases q2
        rename_i a vs
        have n1 := l1.length
        rw [List.length_cons] at n1
        refine ⟨a, _, vs, rfl, rfl, t1.sq, (fun z => by subst z; cases n1), hz.1, hz.2.1, by omega, fun p np => ?_⟩
        exact hq r _ _ (s.tup np) (lat_tup np) (.tup upd_same ((l1.rep _).lat (lat_tup np)))
    · cases e
  · cases e

/-! ### data as a whole -/
mutual
/-- without what may change -/
def pyD : D → Option PyData
  | .non => some .none
  | .bl b => some (.bool b)
  | .int i => some (.int i)
  | .str x => some (.str x)
  | .tup xs => (pyDs xs).map .tuple
  | .ktup xs => (pyDs xs).map .tuple
  | _ => none
def pyDs : List D → Option (List PyData)
  | [] => some []
  | d :: ds => (pyD d).bind fun a => (pyDs ds).map (a :: ·)
end
/-- .. or a list of such -/
def pyT (S : Sto) : D → Option PyData
  | .ref n => (seqAt n S).bind fun xs => (pyDs xs).map .list
  | d => pyD d
mutual
theorem pyD_ok {K : PySem.W.Frag} {mg : Str → Option Value} {r : List Addr} {H : Hp} : ∀ {d : D} {v : V} {p : PyData}, RepV K mg r H d v → pyD d = some p → Dp K H v p
  | .non, _, _, q, h => by cases q; cases h; exact .non
  | .bl b, _, _, q, h => by cases q; cases h; exact .bl b
  | .int i, _, _, q, h => by cases q; cases h; exact .int i
  | .str x, _, _, q, h => by cases q; cases h; exact .str x
  | .tup xs, _, _, q, h => by
    cases q with
    | tup t l =>
      simp only [pyD] at h
      obtain ⟨ps, e1, e2⟩ := Option.map_eq_some_iff.mp h
      subst e2
      exact .tup t.sq (pyDs_ok l e1)
  | .ktup xs, _, _, q, h => by
    cases q with
    | ktup t l =>
      simp only [pyD] at h
      obtain ⟨ps, e1, e2⟩ := Option.map_eq_some_iff.mp h
      subst e2
      exact .tup t.sq (pyDs_ok l e1)
  | .ref _, _, _, _, h => by simp [pyD] at h
  | .fn _, _, _, _, h => by simp [pyD] at h
  | .ty _, _, _, _, h => by simp [pyD] at h
theorem pyDs_ok {K : PySem.W.Frag} {mg : Str → Option Value} {r : List Addr} {H : Hp} : ∀ {ds : List D} {vs : List V} {ps : List PyData}, RepL K mg r H ds vs → pyDs ds = some ps → DpAll K H vs ps
  | [], _, _, q, h => by cases q; simp [pyDs] at h; subst h; exact .nil
  | d :: ds, _, _, q, h => by
    cases q with
    | cons q1 q2 =>
      simp only [pyDs] at h
      obtain ⟨a, e1, h⟩ := Option.bind_eq_some_iff.mp h
      obtain ⟨as, e2, e3⟩ := Option.map_eq_some_iff.mp h
      subst e3
      exact .cons (pyD_ok q1 e1) (pyDs_ok q2 e2)
end
theorem pyT_ok {r : List Addr} {S : Sto} {H : Hp} {d : D} {v : V} {p : PyData} (s : Sim X.K X.mg r S H) (q : RepV X.K X.mg r H d v) (h : pyT S d = some p) : Dp X.K H v p := by
  cases d with
  | ref n =>
    simp only [pyT] at h
    cases q with
    | ref ea =>
      obtain ⟨xs, e1, h⟩ := Option.bind_eq_some_iff.mp h
      obtain ⟨ps, e2, e3⟩ := Option.map_eq_some_iff.mp h
      subst e3
      obtain ⟨vs, h1, l1⟩ := seqAt_ok (X := X) s ea e1
      exact .lst h1 (pyDs_ok l1 e2)
  | _ => exact pyD_ok q h
def deepB (f : Bool → Bool) : D → D → Sto → R := fun x y S => (pyT S x).bind fun p => (pyT S y).bind fun q => if (SeqAt.shaped p && SeqAt.shaped q) = true then some (.bl (f (PyData.eqv p q)), S) else none
theorem deepB_ok {f : Bool → Bool} {x y : D} {S S' : Sto} {d : D} (e : deepB f x y S = some (d, S')) {r : List Addr} {H : Hp} {u v : V} (s : Sim X.K X.mg r S H) (q1 : RepV X.K X.mg r H x u) (q2 : RepV X.K X.mg r H y v) :
    ∃ p q, Dp X.K H u p ∧ Dp X.K H v q ∧ SeqAt.shaped p = true ∧ SeqAt.shaped q = true ∧ d = .bl (f (PyData.eqv p q)) ∧ S' = S := by
  obtain ⟨p, e1, e⟩ := Option.bind_eq_some_iff.mp e
  obtain ⟨q, e2, e⟩ := Option.bind_eq_some_iff.mp e
  split at e
  · rename_i hs
    cases e
    rw [Bool.and_eq_true] at hs
    exact ⟨p, q, pyT_ok s q1 e1, pyT_ok s q2 e2, hs.1, hs.2, rfl, rfl⟩
  · cases e
theorem opS_deepEq : OpS X (rEqD X.K) (deepB id) := by
  intro x y S d S' e r H u v Q s q1 q2 hq
  obtain ⟨p, q, h1, h2, s1, s2, rfl, rfl⟩ := deepB_ok (X := X) e s q1 q2
  exact ⟨p, q, h1, h2, s1, s2, hq r H _ s .refl (.bl _)⟩
theorem opS_deepNe : OpS X (rNeD X.K) (deepB not) := by
  intro x y S d S' e r H u v Q s q1 q2 hq
  obtain ⟨p, q, h1, h2, s1, s2, rfl, rfl⟩ := deepB_ok (X := X) e s q1 q2
  exact ⟨p, q, h1, h2, s1, s2, hq r H _ s .refl (.bl _)⟩
/-- ==, of plain values at once -/
def sEq (f : Bool → Bool) : D → D → Sto → R
  | .int i, .int j, S => some (.bl (f (decide (i = j))), S)
  | .str i, .str j, S => some (.bl (f (decide (i = j))), S)
  | .bl i, .bl j, S => some (.bl (f (decide (i = j))), S)
  | .non, .non, S => some (.bl (f true), S)
  | .non, .str _, S => some (.bl (f false), S)
  | .str _, .non, S => some (.bl (f false), S)
  | _, _, _ => none
theorem opS_sEq : OpS X rEq (sEq id) := by
  intro x y S d S' e r H u v Q s q1 q2 hq
  unfold sEq at e
  split at e <;> first | cases e | skip
  · cases q1; cases q2; refine ⟨rfl, ?_⟩; rw [show ∀ i j : Int, decide (V.int i = V.int j) = decide (i = j) from fun i j => by simp]; exact hq r H _ s .refl (.bl _)
  · cases q1; cases q2; refine ⟨rfl, ?_⟩; rw [show ∀ i j : Str, decide (V.str i = V.str j) = decide (i = j) from fun i j => by simp]; exact hq r H _ s .refl (.bl _)
  · cases q1; cases q2; refine ⟨rfl, ?_⟩; rw [show ∀ i j : Bool, decide (V.bl i = V.bl j) = decide (i = j) from fun i j => by simp]; exact hq r H _ s .refl (.bl _)
  · cases q1; cases q2; exact ⟨rfl, by simpa using hq r H _ s .refl (.bl _)⟩
  · cases q1; cases q2; exact ⟨rfl, by simpa using hq r H _ s .refl (.bl _)⟩
  · cases q1; cases q2; exact ⟨rfl, by simpa using hq r H _ s .refl (.bl _)⟩
theorem opS_sNe : OpS X rNe (sEq not) := by
  intro x y S d S' e r H u v Q s q1 q2 hq
  unfold sEq at e
  split at e <;> first | cases e | skip
  · cases q1; cases q2; refine ⟨rfl, ?_⟩; rw [show ∀ i j : Int, decide (V.int i = V.int j) = decide (i = j) from fun i j => by simp]; exact hq r H _ s .refl (.bl _)
  · cases q1; cases q2; refine ⟨rfl, ?_⟩; rw [show ∀ i j : Str, decide (V.str i = V.str j) = decide (i = j) from fun i j => by simp]; exact hq r H _ s .refl (.bl _)
  · cases q1; cases q2; refine ⟨rfl, ?_⟩; rw [show ∀ i j : Bool, decide (V.bl i = V.bl j) = decide (i = j) from fun i j => by simp]; exact hq r H _ s .refl (.bl _)
  · cases q1; cases q2; exact ⟨rfl, by simpa using hq r H _ s .refl (.bl _)⟩
  · cases q1; cases q2; exact ⟨rfl, by simpa using hq r H _ s .refl (.bl _)⟩
  · cases q1; cases q2; exact ⟨rfl, by simpa using hq r H _ s .refl (.bl _)⟩
/-- is None, is not None; is True .. -/
def isN (f : Bool → Bool) : D → D → Sto → R
  | .non, .non, S => some (.bl (f true), S)
  | .bl _, .non, S => some (.bl (f false), S)
  | .int _, .non, S => some (.bl (f false), S)
  | .str _, .non, S => some (.bl (f false), S)
  | .tup _, .non, S => some (.bl (f false), S)
  | .ref _, .non, S => some (.bl (f false), S)
  | .fn _, .non, S => some (.bl (f false), S)
  | .ktup _, .non, S => some (.bl (f false), S)
  | _, _, _ => none
theorem opS_isN : OpS X (fun x y H Q => y = .non ∧ Q (.bl (decide (x = .non))) H) (isN id) := by
  intro x y S d S' e r H u v Q s q1 q2 hq
  unfold isN at e
  split at e <;> first | cases e | skip
  all_goals (cases q2; cases q1; exact ⟨rfl, by simpa using hq r H _ s .refl (.bl _)⟩)
theorem opS_isNot : OpS X (fun x y H Q => y = .non ∧ Q (.bl (!decide (x = .non))) H) (isN not) := by
  intro x y S d S' e r H u v Q s q1 q2 hq
  unfold isN at e
  split at e <;> first | cases e | skip
  all_goals (cases q2; cases q1; exact ⟨rfl, by simpa using hq r H _ s .refl (.bl _)⟩)
def bbB (f : Bool → Bool → Bool) : D → D → Sto → R
  | .bl a, .bl b, S => some (.bl (f a b), S)
  | _, _, _ => none
theorem opS_isB : OpS X rIsB (bbB fun a b => decide (a = b)) := by
  intro x y S d S' e r H u v Q s q1 q2 hq
  unfold bbB at e
  split at e
  · cases e; cases q1; cases q2; exact ⟨_, _, rfl, rfl, hq r H _ s .refl (.bl _)⟩
  · cases e
theorem opS_notB : OpS X rNotB (bbB fun a b => !decide (a = b)) := by
  intro x y S d S' e r H u v Q s q1 q2 hq
  unfold bbB at e
  split at e
  · cases e; cases q1; cases q2; exact ⟨_, _, rfl, rfl, hq r H _ s .refl (.bl _)⟩
  · cases e
/-! ### in -/
def flatD : D → Option V
  | .non => some .non
  | .bl b => some (.bl b)
  | .int i => some (.int i)
  | .str x => some (.str x)
  | _ => none
def flatDs : List D → Option (List V)
  | [] => some []
  | d :: ds => (flatD d).bind fun v => (flatDs ds).map (v :: ·)
theorem flatD_ok {K : PySem.W.Frag} {mg : Str → Option Value} {r : List Addr} {H : Hp} {d : D} {v w : V} (q : RepV K mg r H d v) (h : flatD d = some w) : v = w ∧ flatV v = true := by
  cases q <;> first | (cases h; exact ⟨rfl, rfl⟩) | cases h
theorem flatDs_ok {K : PySem.W.Frag} {mg : Str → Option Value} {r : List Addr} {H : Hp} : ∀ {ds : List D} {vs ws : List V}, RepL K mg r H ds vs → flatDs ds = some ws → vs = ws ∧ vs.all flatV = true
  | _, _, _, .nil, h => by simp [flatDs] at h; subst h; exact ⟨rfl, rfl⟩
  | _, _, _, .cons q1 q2, h => by
    simp only [flatDs] at h
    obtain ⟨a, e1, h⟩ := Option.bind_eq_some_iff.mp h
    obtain ⟨as, e2, e3⟩ := Option.map_eq_some_iff.mp h
    subst e3
    obtain ⟨h1, h2⟩ := flatD_ok q1 e1
    obtain ⟨h3, h4⟩ := flatDs_ok q2 e2
    subst h1
    subst h3
    exact ⟨rfl, by simp [h2, h4]⟩
def seqD (S : Sto) : D → Option (List D)
  | .tup xs => some xs
  | .ktup xs => some xs
  | .ref n => seqAt n S
  | _ => none
def inSeq (f : Bool → Bool) : D → D → Sto → R := fun x y S => (flatD x).bind fun v => (seqD S y).bind fun xs => (flatDs xs).bind fun ws => some (.bl (f (inV v ws)), S)
theorem opS_inSeq {neg : Bool} {f : Bool → Bool} (hf : ∀ b, f b = if neg then !b else b) : OpS X (rIn X.K neg) (inSeq f) := by
  intro x y S d S' e r H u v Q s q1 q2 hq
  obtain ⟨w, e1, e⟩ := Option.bind_eq_some_iff.mp e
  obtain ⟨xs, e2, e⟩ := Option.bind_eq_some_iff.mp e
  obtain ⟨ws, e3, e⟩ := Option.bind_eq_some_iff.mp e
  cases e
  obtain ⟨rfl, fu⟩ := flatD_ok q1 e1
  rw [hf] at hq
  cases y with
  | tup ys =>
    cases e2
    cases q2 with
    | tup t l =>
      obtain ⟨rfl, fs⟩ := flatDs_ok l e3
      refine ⟨_, _, rfl, .inr t.sq, fu, fs, ?_⟩
      have := hq r H _ s .refl (.bl _)
      cases neg <;> simpa using this
  | ktup ys =>
    cases e2
    cases q2 with
    | ktup t l =>
      obtain ⟨rfl, fs⟩ := flatDs_ok l e3
      refine ⟨_, _, rfl, .inr t.sq, fu, fs, ?_⟩
      have := hq r H _ s .refl (.bl _)
      cases neg <;> simpa using this
  | ref n =>
    cases q2 with
    | ref ea =>
      obtain ⟨vs, h1, l⟩ := seqAt_ok (X := X) s ea e2
      obtain ⟨rfl, fs⟩ := flatDs_ok l e3
      refine ⟨_, _, rfl, .inl h1, fu, fs, ?_⟩
      have := hq r H _ s .refl (.bl _)
      cases neg <;> simpa using this
  | _ => cases e2
/-! ### dicts -/
def keyD : D → Option Key
  | .int i => some (.inl i)
  | .str x => some (.inr x)
  | _ => none
def keysD : List D → Option (List Key)
  | [] => some []
  | d :: ds => (keyD d).bind fun v => (keysD ds).map (v :: ·)
theorem keyD_ok {K : PySem.W.Frag} {mg : Str → Option Value} {r : List Addr} {H : Hp} {d : D} {v : V} {k : Key} (q : RepV K mg r H d v) (h : keyD d = some k) : v = kV k := by
  cases q <;> first | (cases h; rfl) | cases h
theorem keysD_ok {K : PySem.W.Frag} {mg : Str → Option Value} {r : List Addr} {H : Hp} : ∀ {ds : List D} {vs : List V} {ks : List Key}, RepL K mg r H ds vs → keysD ds = some ks → vs = ks.map kV
  | _, _, _, .nil, h => by simp [keysD] at h; subst h; rfl
  | _, _, _, .cons q1 q2, h => by
    simp only [keysD] at h
    obtain ⟨a, e1, h⟩ := Option.bind_eq_some_iff.mp h
    obtain ⟨as, e2, e3⟩ := Option.map_eq_some_iff.mp h
    subst e3
    rw [keyD_ok q1 e1, keysD_ok q2 e2]
    rfl
def valD {k : Type} [DecidableEq k] (kvs : List (k × D)) (x : k) : Option D := (kvs.find? fun kv => decide (kv.1 = x)).map (·.2)
def putD {k : Type} [DecidableEq k] (kvs : List (k × D)) (x : k) (v : D) : List (k × D) := if (kvs.any fun kv => decide (kv.1 = x)) = true then kvs.map (fun kv => if kv.1 = x then (kv.1, v) else kv) else kvs ++ [(x, v)]
theorem valD_ok {K : PySem.W.Frag} {mg : Str → Option Value} {r : List Addr} {H : Hp} {k : Type} [DecidableEq k] {x : k} : ∀ {kvs : List (k × D)} {ws : List (k × V)}, RepKs K mg r H kvs ws →
    (valD kvs x = none ∧ valV ws x = none) ∨ ∃ d v, valD kvs x = some d ∧ valV ws x = some v ∧ RepV K mg r H d v
  | _, _, .nil => .inl ⟨rfl, rfl⟩
  | (a, d) :: kvs, (b, v) :: ws, .cons ⟨e, q⟩ t => by
    have e' : a = b := e
    subst e'
    by_cases h : a = x
    · refine .inr ⟨d, v, by simp [valD, List.find?_cons, h], by simp [valV, List.find?_cons, h], q⟩
    · have ih := valD_ok (x := x) t
      simp only [valD, valV, List.find?_cons, h, decide_false] at ih ⊢
      exact ih
def ixDict : D → D → Sto → R
  | .ref n, y, S => match S[n]? with
    | some (.dK kvs) => (keyD y).bind fun k => (valD kvs k).bind fun d => some (d, S)
    | some (.dT kvs) => match y with
      | .tup ds => (keysD ds).bind fun k => (valD kvs k).bind fun d => some (d, S)
      | _ => none
    | _ => none
  | _, _, _ => none
def inDict (f : Bool → Bool) : D → D → Sto → R
  | y, .ref n, S => match S[n]? with
    | some (.dK kvs) => (keyD y).bind fun k => some (.bl (f (valD kvs k).isSome), S)
    | some (.dT kvs) => match y with
      | .tup ds => (keysD ds).bind fun k => some (.bl (f (valD kvs k).isSome), S)
      | _ => none
    | _ => none
  | _, _, _ => none
/-- the tuple of a key is one that was made (not one of the module) -/
def madeT (ks : List Key) (H : Hp) (v : V) : Prop := ∃ b, v = .ref b ∧ H b = some (.tup (ks.map kV))
end
end PL
end

section
set_option Elab.async false
set_option linter.all false
set_option maxRecDepth 100000
/-! PL5: subscripts, slices, dicts, methods, built-ins -/
namespace PL
open PySem PySem.Spec PyProof.Rows L2

section
variable {X : Cx}
theorem PE.or {e : Expr} {a b : TE} (h : PE X e a) (g : PE X e b) : PE X e (fun σ H Q => a σ H Q ∨ b σ H Q) := ⟨fun pins s σ H Q I q => q.elim (h.run pins s σ H Q I) (g.run pins s σ H Q I)⟩
/-! ### subscripts -/
def ixSeq : D → D → Sto → R
  | .str z, .int i, S => if z.length ≤ sizeLine then (atI z.cps.toList i).map fun c => (.str ⟨#[c]⟩, S) else none
  | x, .int i, S => (seqD S x).bind fun xs => (atI xs i).map fun d => (d, S)
  | _, _, _ => none
theorem RepL.atI {K : PySem.W.Frag} {mg : Str → Option Value} {r : List Addr} {H : Hp} {xs : List D} {vs : List V} {i : Int} {d : D} (q : RepL K mg r H xs vs) (h : L2.atI xs i = some d) : ∃ v, L2.atI vs i = some v ∧ RepV K mg r H d v := by
  unfold L2.atI at h ⊢
  rw [q.length] at h
  obtain ⟨j, e1, e2⟩ := Option.bind_eq_some_iff.mp h
  obtain ⟨v, e3, q3⟩ := q.get e2
  exact ⟨v, by rw [e1]; exact e3, q3⟩
theorem seqD_ok {r : List Addr} {S : Sto} {H : Hp} {d : D} {v : V} {xs : List D} (s : Sim X.K X.mg r S H) (q : RepV X.K X.mg r H d v) (h : seqD S d = some xs) : ∃ a vs, v = .ref a ∧ (SqL X.K H a vs ∨ SqT X.K H a vs) ∧ RepL X.K X.mg r H xs vs := by
  cases q with
  | tup t l => cases h; exact ⟨_, _, rfl, .inr t.sq, l⟩
  | ktup t l => cases h; exact ⟨_, _, rfl, .inr t.sq, l⟩
  | ref ea =>
    obtain ⟨vs, h1, l⟩ := seqAt_ok (X := X) s ea h
    exact ⟨_, vs, rfl, .inl h1, l⟩
  | _ => cases h
theorem opS_ixSeq : OpS X (rIx X.K) ixSeq := by
  intro x y S d S' e r H u v Q s q1 q2 hq
  unfold ixSeq at e
  split at e
  · split at e
    · rename_i hz
      obtain ⟨c, e1, e2⟩ := Option.map_eq_some_iff.mp e
      cases e2
      cases q1
      cases q2
      exact .inr (.inr ⟨_, _, c, rfl, rfl, hz, e1, hq r H _ s .refl (.str _)⟩)
    · cases e
  · obtain ⟨xs, e1, e⟩ := Option.bind_eq_some_iff.mp e
    obtain ⟨d', e2, e3⟩ := Option.map_eq_some_iff.mp e
    cases e3
    obtain ⟨a, vs, rfl, hs, l⟩ := seqD_ok (X := X) s q1 e1
    obtain ⟨w, e4, q4⟩ := l.atI e2
    cases q2
    rcases hs with hs | hs
    · exact .inl ⟨a, vs, _, w, rfl, rfl, hs, e4, hq r H w s .refl q4⟩
    · exact .inr (.inl ⟨a, vs, _, w, rfl, rfl, hs, e4, hq r H w s .refl q4⟩)
  · cases e
theorem dget_ok {r : List Addr} {S : Sto} {H : Hp} {n : Nat} {a : Addr} {y : D} {v : V} {o : Option D} (s : Sim X.K X.mg r S H) (ea : r[n]? = some a) (q2 : RepV X.K X.mg r H y v)
    (h : (∃ kvs k, S[n]? = some (.dK kvs) ∧ keyD y = some k ∧ o = valD kvs k) ∨ ∃ kvs ds k, S[n]? = some (.dT kvs) ∧ y = .tup ds ∧ keysD ds = some k ∧ o = valD kvs k) :
    (o = none ∧ DGet H a v none) ∨ ∃ d w, o = some d ∧ DGet H a v (some w) ∧ RepV X.K X.mg r H d w := by
  rcases h with ⟨kvs, k, e1, e2, rfl⟩ | ⟨kvs, ds, k, e1, rfl, e2, rfl⟩
  · obtain ⟨ws, h1, q⟩ := s.ob n _ a e1 ea
    have hv := keyD_ok q2 e2
    rcases valD_ok (x := k) q with ⟨z1, z2⟩ | ⟨d, w, z1, z2, z3⟩
    · exact .inl ⟨z1, .inl ⟨ws, k, .inl h1, hv, z2.symm⟩⟩
    · exact .inr ⟨d, w, z1, .inl ⟨ws, k, .inl h1, hv, z2.symm⟩, z3⟩
  · obtain ⟨ws, h1, q⟩ := s.ob n _ a e1 ea
    cases q2 with
    | tup t l =>
      have hv := keysD_ok l e2
      subst hv
      rcases valD_ok (x := k) q with ⟨z1, z2⟩ | ⟨d, w, z1, z2, z3⟩
      · exact .inl ⟨z1, .inr ⟨ws, k, _, .inl h1, rfl, t, z2.symm⟩⟩
      · exact .inr ⟨d, w, z1, .inr ⟨ws, k, _, .inl h1, rfl, t, z2.symm⟩, z3⟩
/-- what a dict has at a key -/
def dictAt (n : Nat) (y : D) (S : Sto) : Option (Option D) := match S[n]? with
  | some (.dK kvs) => (keyD y).map fun k => valD kvs k
  | some (.dT kvs) => match y with
    | .tup ds => (keysD ds).map fun k => valD kvs k
    | _ => none
  | _ => none
theorem dictAt_ok {r : List Addr} {S : Sto} {H : Hp} {n : Nat} {a : Addr} {y : D} {v : V} {o : Option D} (s : Sim X.K X.mg r S H) (ea : r[n]? = some a) (q2 : RepV X.K X.mg r H y v) (h : dictAt n y S = some o) :
    (o = none ∧ DGet H a v none) ∨ ∃ d w, o = some d ∧ DGet H a v (some w) ∧ RepV X.K X.mg r H d w := by
  unfold dictAt at h
  split at h
  · rename_i kvs e1
    obtain ⟨k, e2, e3⟩ := Option.map_eq_some_iff.mp h
    exact dget_ok s ea q2 (.inl ⟨kvs, k, e1, e2, e3.symm⟩)
  · rename_i kvs e1
    split at h
    · rename_i ds
      obtain ⟨k, e2, e3⟩ := Option.map_eq_some_iff.mp h
      exact dget_ok s ea q2 (.inr ⟨kvs, ds, k, e1, rfl, e2, e3.symm⟩)
    · cases h
  · cases h
def ixD : D → D → Sto → R
  | .ref n, y, S => (dictAt n y S).bind fun o => o.map fun d => (d, S)
  | _, _, _ => none
/-- x[y] of a list, a tuple, a text, a dict -/
def ixA : D → D → Sto → R := fun x y S => (ixSeq x y S).orElse fun _ => ixD x y S
theorem cE_ixA {a b : Expr} {ma mb : ME} {pos : Pos} (hu : X.A.units + 1 < cLine) (ha : CE X a ma) (hb : CE X b mb) (hs : PlainIx b) : CE X (.Subscript a b pos) (mBin ixA ma mb) := by
  refine ⟨?_⟩
  intro env S d S' h r σ H Q A hq
  obtain ⟨⟨x, S1⟩, e1, h⟩ := Option.bind_eq_some_iff.mp h
  obtain ⟨⟨y, S2⟩, e2, h⟩ := Option.bind_eq_some_iff.mp h
  have h' : (ixSeq x y S2).orElse (fun _ => ixD x y S2) = some (d, S') := h
  cases eg : ixSeq x y S2 with
  | some z =>
    have hz : mBin ixSeq ma mb env S = some (d, S') := by
      show ((ma env S).bind fun p => (mb env p.2).bind fun q => ixSeq p.1 q.1 q.2) = _
      rw [e1]
      show ((mb env S1).bind fun q => ixSeq x q.1 q.2) = _
      rw [e2]
      show ixSeq x y S2 = _
      rw [eg] at h' ⊢
      exact h'
    exact cE_ix ix_seq opS_ixSeq ha hb hs env S d S' hz r σ H Q A hq
  | none =>
    rw [eg] at h'
    have h2 : ixD x y S2 = some (d, S') := h'
    unfold ixD at h2
    split at h2
    · rename_i n
      obtain ⟨o, e3, h2⟩ := Option.bind_eq_some_iff.mp h2
      obtain ⟨d', e4, e5⟩ := Option.map_eq_some_iff.mp h2
      subst e4
      cases e5
      refine tm_of (pe_dget hu pe_tm pe_tm hs) (ha env S _ S1 e1 r σ H _ A fun r1 H1 u s1 l1 q1 => ?_)
      refine hb env S1 _ _ e2 r1 σ H1 _ (A.lat s1 l1) fun r2 H2 v s2 l2 q2 => ?_
      cases q1 with
      | ref ea =>
        rcases dictAt_ok (X := X) s2 (l2.pre _ _ ea) q2 e3 with ⟨z, _⟩ | ⟨d2, w, z1, z2, z3⟩
        · cases z
        · cases z1
          exact ⟨_, w, rfl, z2, hq r2 H2 w s2 (l1.trans l2) z3⟩
    · cases h2
def inD (f : Bool → Bool) : D → D → Sto → R
  | y, .ref n, S => (dictAt n y S).map fun o => (.bl (f o.isSome), S)
  | _, _, _ => none
/-- in, not in a list, a tuple (of plain items), a text, a dict -/
def inA (f : Bool → Bool) : D → D → Sto → R := fun x y S => (inSeq f x y S).orElse fun _ => (ssB (fun i j => f (!(Builtin.Str.occurrences j i 0 j.length 1).isEmpty)) x y S).orElse fun _ => inD f x y S
theorem inA_ok {a b : Expr} {op : CmpOp} {ma mb : ME} {neg : Bool} {f : Bool → Bool} {t : TE} {pos : Pos} (hf : ∀ b, f b = if neg then !b else b) (ho : OpR X (compareOp op) (rIn X.K neg))
    (hs : OpR X (compareOp op) (fun x y H Q => ∃ i j, x = .str i ∧ y = .str j ∧ Q (.bl (f (!(Builtin.Str.occurrences j i 0 j.length 1).isEmpty))) H))
    (hd : PC X op a b (fun σ H Q => TM X a σ H fun y H1 => TM X b σ H1 fun x H2 => ∃ a o, x = .ref a ∧ DGet H2 a y o ∧ Q (.bl (f o.isSome)) H2))
    (ha : CE X a ma) (hb : CE X b mb) (hm : behindInMarks op b = false) : CE X (.Compare a [op] [b] pos) (mBin (inA f) ma mb) := by
  refine ⟨?_⟩
  intro env S d S' h r σ H Q A hq
  obtain ⟨⟨x, S1⟩, e1, h⟩ := Option.bind_eq_some_iff.mp h
  obtain ⟨⟨y, S2⟩, e2, h⟩ := Option.bind_eq_some_iff.mp h
  have two : ∀ g : D → D → Sto → R, g x y S2 = some (d, S') → mBin g ma mb env S = some (d, S') := fun g hg => by
    show ((ma env S).bind fun p => (mb env p.2).bind fun q => g p.1 q.1 q.2) = _
    rw [e1]
    show ((mb env S1).bind fun q => g x q.1 q.2) = _
    rw [e2]
    exact hg
  have h' : (inSeq f x y S2).orElse (fun _ => (ssB (fun i j => f (!(Builtin.Str.occurrences j i 0 j.length 1).isEmpty)) x y S2).orElse fun _ => inD f x y S2) = some (d, S') := h
  cases eg : inSeq f x y S2 with
  | some z =>
    rw [eg] at h'
    exact cE_cmp ho (opS_inSeq hf) ha hb hm env S d S' (two _ (by rw [eg]; exact h')) r σ H Q A hq
  | none =>
    rw [eg] at h'
    have h' : (ssB (fun i j => f (!(Builtin.Str.occurrences j i 0 j.length 1).isEmpty)) x y S2).orElse (fun _ => inD f x y S2) = some (d, S') := h'
    cases eh : ssB (fun i j => f (!(Builtin.Str.occurrences j i 0 j.length 1).isEmpty)) x y S2 with
    | some z =>
      rw [eh] at h'
      exact cE_cmp hs opS_ssB ha hb hm env S d S' (two _ (by rw [eh]; exact h')) r σ H Q A hq
    | none =>
      rw [eh] at h'
      have h2 : inD f x y S2 = some (d, S') := h'
      unfold inD at h2
      split at h2
      · rename_i n _
        obtain ⟨o, e3, e4⟩ := Option.map_eq_some_iff.mp h2
        cases e4
        refine tm_of (pe_cmp hd hm) (ha env S _ S1 e1 r σ H _ A fun r1 H1 u s1 l1 q1 => ?_)
        refine hb env S1 _ _ e2 r1 σ H1 _ (A.lat s1 l1) fun r2 H2 v s2 l2 q2 => ?_
        cases q2 with
        | ref ea =>
          rcases dictAt_ok (X := X) s2 ea (q1.lat l2) e3 with ⟨rfl, z⟩ | ⟨d2, w, rfl, z2, z3⟩
          · exact ⟨_, none, rfl, z, hq r2 H2 _ s2 (l1.trans l2) (.bl _)⟩
          · exact ⟨_, some w, rfl, z2, hq r2 H2 _ s2 (l1.trans l2) (.bl _)⟩
      · cases h2
theorem cE_in {a b : Expr} {ma mb : ME} {pos : Pos} (hu : X.A.units + 1 < cLine) (ha : CE X a ma) (hb : CE X b mb) (hm : behindInMarks .In b = false) : CE X (.Compare a [.In] [b] pos) (mBin (inA id) ma mb) :=
  inA_ok (neg := false) (t := TM X a) (fun _ => rfl) op_in_seq op_in_str (pc_din hu pe_tm pe_tm) ha hb hm
theorem cE_notIn {a b : Expr} {ma mb : ME} {pos : Pos} (hu : X.A.units + 1 < cLine) (ha : CE X a ma) (hb : CE X b mb) (hm : behindInMarks .NotIn b = false) : CE X (.Compare a [.NotIn] [b] pos) (mBin (inA not) ma mb) :=
  inA_ok (neg := true) (t := TM X a) (fun _ => rfl) op_notIn_seq op_notin_str (pc_dnotin hu pe_tm pe_tm) ha hb hm
/-- a test by the value of a comparison -/
theorem cT_val {e : Expr} {m : ME} (h : CE X e m) (hp : ∀ t, PE X e t → PT X e (tTest t)) : CT X e (asB m) := by
  refine ⟨?_⟩
  intro env S c S' hh r σ H Q A hq
  obtain ⟨⟨d, S1⟩, e1, hh⟩ := Option.bind_eq_some_iff.mp hh
  split at hh
  · rename_i b' eb
    cases hh
    have eb' : d = .bl c := eb
    subst eb'
    refine tmt_of (hp _ pe_tm) (h env S _ _ e1 r σ H _ A fun r' H' v s l q => ?_)
    cases q
    exact ⟨c, rfl, hq r' H' s l⟩
  · cases hh

/-! ### slices -/
def cutD (xs : List D) (lo hi : Option Int) : List D := (xs.drop (HT.sIx xs.length 0 lo)).take (HT.sIx xs.length xs.length hi - HT.sIx xs.length 0 lo)
theorem RepL.cut {K : PySem.W.Frag} {mg : Str → Option Value} {r : List Addr} {H : Hp} {xs : List D} {vs : List V} (q : RepL K mg r H xs vs) (lo hi : Option Int) : RepL K mg r H (cutD xs lo hi) (cutV vs lo hi) := by
  unfold cutD cutV
  rw [q.length]
  exact (q.drop _).take _
def slA : D → Option Int → Option Int → Sto → R
  | .tup xs, lo, hi, S => some (.tup (cutD xs lo hi), S)
  | .str z, lo, hi, S => if z.length ≤ sizeLine then some (.str (cutS z lo hi), S) else none
  | .ref n, lo, hi, S => (seqAt n S).bind fun xs => newL (cutD xs lo hi) S
  | _, _, _, _ => none
theorem cut_all {xs : List V} {lo hi : Option Int} (h : HT.sIx xs.length 0 lo = 0 ∧ HT.sIx xs.length xs.length hi = xs.length) : cutV xs lo hi = xs := by
  unfold cutV
  rw [h.1, h.2]
  simp
theorem cut_allD {xs : List D} {lo hi : Option Int} (h : HT.sIx xs.length 0 lo = 0 ∧ HT.sIx xs.length xs.length hi = xs.length) : cutD xs lo hi = xs := by
  unfold cutD
  rw [h.1, h.2]
  simp
theorem slS_A : SlS X (fun x lo hi H Q => rSlL X.K x lo hi H Q ∨ (rSlA X.K x lo hi H Q ∨ rSlS x lo hi H Q)) slA := by
  intro x lo hi S d S' e r H u Q s q1 hq
  unfold slA at e
  split at e
  · rename_i xs _
    cases e
    cases q1 with
    | tup t l =>
      refine .inr (.inl ⟨_, _, rfl, t.sq, fun hw => ?_, fun hw p np => ?_⟩)
      · rw [← l.length] at hw
        rw [cut_allD hw] at hq
        exact hq r H _ s .refl (.tup t l)
      · exact hq r _ _ (s.tup np) (lat_tup np) (.tup upd_same ((l.cut lo hi).lat (lat_tup np)))
  · split at e
    · rename_i hz
      cases e
      cases q1
      exact .inr (.inr ⟨_, rfl, hz, hq r H _ s .refl (.str _)⟩)
    · cases e
  · obtain ⟨xs, e1, e⟩ := Option.bind_eq_some_iff.mp e
    cases q1 with
    | ref ea =>
      obtain ⟨vs, h1, l⟩ := seqAt_ok (X := X) s ea e1
      refine .inl ⟨_, vs, rfl, h1, fun p np => ?_⟩
      obtain ⟨a1, a2, a3⟩ := newL_ok (X := X) s np (l.cut lo hi) e
      exact hq _ _ _ a1 a2 a3
  · cases e
theorem cE_slA {e : Expr} {lo hi : Option Expr} {p2 pos : Pos} {m : ME} {a b : MO} (he : CE X e m) (ha : CO X lo a) (hb : CO X hi b) : CE X (.Subscript e (.Slice lo hi none p2) pos) (mSl slA m a b) :=
  cE_sl (sl_list.or (sl_tupA.or sl_str)) slS_A he ha hb
/-- xs[::-1] of a list -/
def mRev (m : ME) : ME := fun env S => (m env S).bind fun p => match p.1 with
  | .ref n => (seqAt n p.2).bind fun xs => newL xs.reverse p.2
  | _ => none

/-! ### stores -/
def setSeq : D → D → D → Sto → Option Sto
  | .ref n, .int k, d, S => match S[n]? with
    | some (.lst xs) => (ixN xs.length k).map fun j => S.set n (.lst (xs.set j d))
    | some (.dK kvs) => if kvs.length < sizeLine then some (S.set n (.dK (putD kvs (.inl k) d))) else none
    | _ => none
  | .ref n, .str k, d, S => match S[n]? with
    | some (.dK kvs) => if kvs.length < sizeLine then some (S.set n (.dK (putD kvs (.inr k) d))) else none
    | _ => none
  | .ref n, .tup ds, d, S => match S[n]? with
    | some (.dT kvs) => (keysD ds).bind fun k => if kvs.length < sizeLine then some (S.set n (.dT (putD kvs k d))) else none
    | _ => none
  | _, _, _, _ => none
theorem any_ok {K : PySem.W.Frag} {mg : Str → Option Value} {r : List Addr} {H : Hp} {k : Type} [DecidableEq k] {x : k} : ∀ {kvs : List (k × D)} {ws : List (k × V)}, RepKs K mg r H kvs ws → (kvs.any fun kv => decide (kv.1 = x)) = (ws.any fun kv => decide (kv.1 = x))
  | _, _, .nil => rfl
  | (a, d) :: kvs, (b, v) :: ws, .cons ⟨e, q⟩ t => by
    have e' : a = b := e
    subst e'
    rw [List.any_cons, List.any_cons, any_ok t]
theorem map_ok {K : PySem.W.Frag} {mg : Str → Option Value} {r : List Addr} {H : Hp} {k : Type} [DecidableEq k] {x : k} {d : D} {v : V} (qd : RepV K mg r H d v) : ∀ {kvs : List (k × D)} {ws : List (k × V)}, RepKs K mg r H kvs ws →
    RepKs K mg r H (kvs.map (fun kv => if kv.1 = x then (kv.1, d) else kv)) (ws.map (fun kv => if kv.1 = x then (kv.1, v) else kv))
  | _, _, .nil => .nil
  | (a, d') :: kvs, (b, v') :: ws, .cons ⟨e, q⟩ t => by
    have e' : a = b := e
    subst e'
    refine .cons ?_ (map_ok qd t)
    by_cases h : a = x
    · simp only [h, if_true]; exact ⟨trivial, qd⟩
    · simp only [h, if_false]; exact ⟨trivial, q⟩
theorem app_ok {K : PySem.W.Frag} {mg : Str → Option Value} {r : List Addr} {H : Hp} {k : Type} : ∀ {kvs kvs' : List (k × D)} {ws ws' : List (k × V)}, RepKs K mg r H kvs ws → RepKs K mg r H kvs' ws' → RepKs K mg r H (kvs ++ kvs') (ws ++ ws')
  | _, _, _, _, .nil, q => q
  | _, _, _, _, .cons h t, q => .cons h (app_ok t q)
theorem putD_ok {K : PySem.W.Frag} {mg : Str → Option Value} {r : List Addr} {H : Hp} {k : Type} [DecidableEq k] {x : k} {d : D} {v : V} {kvs : List (k × D)} {ws : List (k × V)} (q : RepKs K mg r H kvs ws) (qd : RepV K mg r H d v) : RepKs K mg r H (putD kvs x d) (putK ws x v) := by
  unfold putD putK
  rw [any_ok q]
  split
  · exact map_ok qd q
  · exact app_ok q (.cons ⟨rfl, qd⟩ .nil)
theorem dkput {r : List Addr} {S : Sto} {H : Hp} {n : Nat} {a : Addr} {kvs : List (Key × D)} {ws : List (Key × V)} {k : Key} {d : D} {w : V} (s : Sim X.K X.mg r S H) (ex : S[n]? = some (.dK kvs)) (ea : r[n]? = some a) (h1 : H a = some (.dK ws)) (l : RepKs X.K X.mg r H kvs ws) (q3 : RepV X.K X.mg r H d w) :
    Sim X.K X.mg r (S.set n (.dK (putD kvs k d))) (upd H a (.dK (putK ws k w))) ∧ Lat r H r (upd H a (.dK (putK ws k w))) := by
  have L : Lat r H r (upd H a (.dK (putK ws k w))) := lat_upd h1 trivial
  exact s.put ex ea rfl rfl ⟨_, upd_same, (putD_ok l q3).lat L⟩
theorem setS_A : SetS X (fun o i v H Q => rSetL o i v H Q ∨ rSetD o i v H Q) setSeq := by
  intro o i d S S' e r H u v w Q s q1 q2 q3 hq
  unfold setSeq at e
  split at e
  · skip
    split at e
    · rename_i xs ex
      obtain ⟨j, e1, e2⟩ := Option.map_eq_some_iff.mp e
      subst e2
      cases q1 with
      | ref ea =>
        cases q2
        obtain ⟨vs, h1, l⟩ := s.ob _ _ _ ex ea
        refine .inl ⟨_, vs, _, j, rfl, rfl, h1, by rw [← l.length]; exact e1, ?_⟩
        have L : Lat r H r (upd H _ (.lst (vs.set j w))) := lat_upd h1 trivial
        obtain ⟨s8, l8⟩ := s.put (o' := .lst (xs.set j d)) (v := .lst (vs.set j w)) ex ea rfl rfl ⟨_, upd_same, ((l.set q3 j).lat L)⟩
        exact hq r _ s8 l8
    · rename_i kvs ex
      split at e
      · rename_i hz
        cases e
        cases q1 with
        | ref ea =>
          cases q2
          obtain ⟨ws, h1, l⟩ := s.ob _ _ _ ex ea
          obtain ⟨s8, l8⟩ := dkput (X := X) s ex ea h1 l q3
          exact .inr ⟨_, _, rfl, .inl ⟨ws, .inl _, h1, rfl, by rw [← Paired.len l]; exact hz, rfl⟩, hq r _ s8 l8⟩
      · cases e
    · cases e
  · skip
    split at e
    · rename_i kvs ex
      split at e
      · rename_i hz
        cases e
        cases q1 with
        | ref ea =>
          cases q2
          obtain ⟨ws, h1, l⟩ := s.ob _ _ _ ex ea
          obtain ⟨s8, l8⟩ := dkput (X := X) s ex ea h1 l q3
          exact .inr ⟨_, _, rfl, .inl ⟨ws, .inr _, h1, rfl, by rw [← Paired.len l]; exact hz, rfl⟩, hq r _ s8 l8⟩
      · cases e
    · cases e
  · skip
    split at e
    · rename_i kvs ex
      obtain ⟨k, e1, e⟩ := Option.bind_eq_some_iff.mp e
      split at e
      · rename_i hz
        cases e
        cases q1 with
        | ref ea =>
          cases q2 with
          | tup t lk =>
            have hv := keysD_ok lk e1
            subst hv
            obtain ⟨ws, h1, l⟩ := s.ob _ _ _ ex ea
            have L : Lat r H r (upd H _ (.dT (putK ws k w))) := lat_upd h1 trivial
            obtain ⟨s8, l8⟩ := s.put (o' := .dT (putD kvs k d)) (v := .dT (putK ws k w)) ex ea rfl rfl ⟨_, upd_same, (putD_ok l q3).lat L⟩
            exact .inr ⟨_, _, rfl, .inr ⟨ws, k, _, h1, rfl, t, by rw [← Paired.len l]; exact hz, rfl⟩, hq r _ s8 l8⟩
      · cases e
    · cases e
  · cases e
theorem PSet.or {a b : TSet} (h : PSet X a) (g : PSet X b) : PSet X (fun o i v H Q => a o i v H Q ∨ b o i v H Q) := fun pins s σ H o i v ov iv u Q I r1 r2 r3 q => q.elim (h pins s σ H o i v ov iv u Q I r1 r2 r3) (g pins s σ H o i v ov iv u Q I r1 r2 r3)

/-! ### dicts that are written -/
def mPairs : List (ME × ME) → Env → Sto → Option (List (D × D) × Sto)
  | [], _, S => some ([], S)
  | (a, b) :: ms, env, S => (a env S).bind fun p => (b env p.2).bind fun q => (mPairs ms env q.2).bind fun t => some ((p.1, q.1) :: t.1, t.2)
def RepP (K : PySem.W.Frag) (mg : Str → Option Value) (r : List Addr) (H : Hp) : List (D × D) → List (V × V) → Prop := Paired fun p q => RepV K mg r H p.1 q.1 ∧ RepV K mg r H p.2 q.2
theorem RepP.lat {K : PySem.W.Frag} {mg : Str → Option Value} {r r' : List Addr} {H H' : Hp} {ks : List (D × D)} {ws : List (V × V)} (l : Lat r H r' H') (h : RepP K mg r H ks ws) : RepP K mg r' H' ks ws := Paired.mapP h fun _ _ q => ⟨q.1.lat l, q.2.lat l⟩
def CPs0 (X : Cx) (pos : Pos) (keys : List (Option Expr)) (vals : List Expr) (ms : List (ME × ME)) : Prop := ∃ trs, PPs X pos keys vals trs ∧ ∀ env S ps S', mPairs ms env S = some (ps, S') → ∀ r σ H (Q : List (V × V) → Hp → Prop), At X r env S σ H →
  (∀ r' H' vs, Sim X.K X.mg r' S' H' → Lat r H r' H' → RepP X.K X.mg r' H' ps vs → Q vs H') → tPairs trs σ H Q
structure CPs (X : Cx) (pos : Pos) (keys : List (Option Expr)) (vals : List Expr) (ms : List (ME × ME)) : Prop where
  run : ∃ trs, PPs X pos keys vals trs ∧ ∀ env S ps S', mPairs ms env S = some (ps, S') → ∀ r σ H (Q : List (V × V) → Hp → Prop), At X r env S σ H →
  (∀ r' H' vs, Sim X.K X.mg r' S' H' → Lat r H r' H' → RepP X.K X.mg r' H' ps vs → Q vs H') → tPairs trs σ H Q
theorem cPs_nil {pos : Pos} : CPs X pos [] [] [] := ⟨[], pps_nil, fun env S ps S' h r σ H Q A hq => by cases h; exact hq r H [] A.sim .refl .nil⟩
theorem cPs_cons {pos : Pos} {k v : Expr} {ks : List (Option Expr)} {vs : List Expr} {mk mv : ME} {ms : List (ME × ME)} (hk : CE X k mk) (hv : CE X v mv) (hr : CPs X pos ks vs ms) : CPs X pos (some k :: ks) (v :: vs) ((mk, mv) :: ms) := by
  obtain ⟨trs, pt, hr⟩ := hr
  refine ⟨_, pps_cons pe_tm pe_tm pt, fun env S ps S' h r σ H Q A hq => ?_⟩
  obtain ⟨⟨d1, S1⟩, e1, h⟩ := Option.bind_eq_some_iff.mp h
  obtain ⟨⟨d2, S2⟩, e2, h⟩ := Option.bind_eq_some_iff.mp h
  obtain ⟨⟨ps', S3⟩, e3, h⟩ := Option.bind_eq_some_iff.mp h
  cases h
  refine hk env S d1 S1 e1 r σ H _ A fun r1 H1 v1 s1 l1 q1 => ?_
  refine hv env S1 d2 S2 e2 r1 σ H1 _ (A.lat s1 l1) fun r2 H2 v2 s2 l2 q2 => ?_
  refine hr env S2 ps' S3 e3 r2 σ H2 _ ((A.lat s1 l1).lat s2 l2) fun r3 H3 vs3 s3 l3 q3 => ?_
  exact hq r3 H3 ((v1, v2) :: vs3) s3 (l1.trans (l2.trans l3)) (.cons ⟨q1.lat (l2.trans l3), q2.lat l3⟩ q3)
def keyPs : List (D × D) → Option (List (Key × D))
  | [] => some []
  | (a, b) :: ps => (keyD a).bind fun k => (keyPs ps).map ((k, b) :: ·)
theorem keyPs_ok {K : PySem.W.Frag} {mg : Str → Option Value} {r : List Addr} {H : Hp} : ∀ {ps : List (D × D)} {vs : List (V × V)} {kvs : List (Key × D)}, RepP K mg r H ps vs → keyPs ps = some kvs → ∃ ws : List (Key × V), vs = ws.map (fun kv => (kV kv.1, kv.2)) ∧ RepKs K mg r H kvs ws
  | _, _, _, .nil, h => by simp [keyPs] at h; subst h; exact ⟨[], rfl, .nil⟩
  | (a, b) :: ps, (v, w) :: vs, _, .cons ⟨q1, q2⟩ t, h => by
    simp only [keyPs] at h
    obtain ⟨k, e1, h⟩ := Option.bind_eq_some_iff.mp h
    obtain ⟨ks, e2, e3⟩ := Option.map_eq_some_iff.mp h
    subst e3
    obtain ⟨ws, h1, h2⟩ := keyPs_ok t e2
    refine ⟨(k, w) :: ws, ?_, .cons ⟨rfl, q2⟩ h2⟩
    have hv : v = kV k := keyD_ok q1 e1
    rw [h1, hv]
    rfl
def mergeD (kvs more : List (Key × D)) : List (Key × D) := more.foldl (fun acc kv => putD acc kv.1 kv.2) kvs
theorem mergeD_ok {K : PySem.W.Frag} {mg : Str → Option Value} {r : List Addr} {H : Hp} : ∀ {more : List (Key × D)} {ms : List (Key × V)} {kvs : List (Key × D)} {ws : List (Key × V)}, RepKs K mg r H more ms → RepKs K mg r H kvs ws → RepKs K mg r H (mergeD kvs more) (mergeK ws ms)
  | _, _, _, _, .nil, q => q
  | (a, d) :: more, (b, v) :: ms, kvs, ws, .cons ⟨e, q1⟩ t, q => by
    have e' : a = b := e
    subst e'
    exact mergeD_ok (more := more) (ms := ms) t (putD_ok q q1)
def mDisp (ms : List (ME × ME)) : ME := fun env S => (mPairs ms env (S ++ [.dK []])).bind fun p => match p.2[S.length]? with
  | some (.dK []) => (keyPs p.1).bind fun kvs => if kvs.length ≤ 15 then some (.ref S.length, p.2.set S.length (.dK (mergeD [] kvs))) else none
  | _ => none
theorem cE_disp {keys : List (Option Expr)} {vals : List Expr} {ms : List (ME × ME)} {pos : Pos} (h : CPs X pos keys vals ms) (hall : keys.all (·.isSome) = true) (hl : keys.length = vals.length) (h0 : keys ≠ []) (h15 : keys.length ≤ 15) : CE X (.Dict keys vals pos) (mDisp ms) := by
  obtain ⟨trs, pt, h⟩ := h
  refine ⟨?_⟩
  intro env S d S' hm r σ H Q A hq
  obtain ⟨⟨ps, S1⟩, e1, hm⟩ := Option.bind_eq_some_iff.mp hm
  split at hm
  · rename_i ek
    obtain ⟨kvs, e2, hm⟩ := Option.bind_eq_some_iff.mp hm
    split at hm
    · rename_i hz
      cases hm
      refine tm_of (pe_disp pt hall hl h0 h15) fun p np => ?_
      have s0 : Sim X.K X.mg (r ++ [p]) (S ++ [.dK []]) (upd H p (.dK [])) := A.sim.new np ⟨[], upd_same, .nil⟩
      have pn : (r ++ [p])[S.length]? = some p := by
        rw [← A.sim.len, List.getElem?_append_right (Nat.le_refl _), Nat.sub_self]
        rfl
      refine h env _ ps S1 e1 (r ++ [p]) σ _ _ (A.lat s0 (lat_new np)) fun r1 H1 vs s1 l1 q1 => ?_
      have pn1 := l1.pre _ _ pn
      obtain ⟨ws0, z1, z2⟩ := s1.ob _ _ p ek pn1
      cases z2
      obtain ⟨ws, hw, hk⟩ := keyPs_ok q1 e2
      have L : Lat r1 H1 r1 (upd H1 p (.dK (mergeK [] ws))) := lat_upd z1 trivial
      obtain ⟨s8, l8⟩ := s1.put (o' := .dK (mergeD [] kvs)) (v := .dK (mergeK [] ws)) ek pn1 rfl rfl ⟨_, upd_same, (mergeD_ok hk .nil).lat L⟩
      exact ⟨z1, ws, hw, by rw [← Paired.len hk]; exact hz, hq r1 _ _ s8 ((lat_new np).trans (l1.trans l8)) (.ref pn1)⟩
    · cases hm
  · cases hm
def mEmpty : ME := fun _ S => some (.ref S.length, S ++ [.dK []])
def mEmptyT : ME := fun _ S => some (.ref S.length, S ++ [.dT []])
theorem new_at {r : List Addr} {S : Sto} {H : Hp} {p : Addr} (s : Sim X.K X.mg r S H) : (r ++ [p])[S.length]? = some p := by
  rw [← s.len, List.getElem?_append_right (Nat.le_refl _), Nat.sub_self]
  rfl
theorem cE_empty {pos : Pos} : CE X (.Dict [] [] pos) mEmpty := by
  refine ⟨?_⟩
  intro env S d S' hm r σ H Q A hq
  cases hm
  exact tm_of pe_dnewK fun p np => hq _ _ _ (A.sim.new np ⟨[], upd_same, .nil⟩) (lat_new np) (.ref (new_at A.sim))
theorem cE_emptyT {pos : Pos} : CE X (.Dict [] [] pos) mEmptyT := by
  refine ⟨?_⟩
  intro env S d S' hm r σ H Q A hq
  cases hm
  exact tm_of pe_dnewT fun p np => hq _ _ _ (A.sim.new np ⟨[], upd_same, .nil⟩) (lat_new np) (.ref (new_at A.sim))

/-! ### methods of lists -/
def gAppend : D → List D → Sto → R
  | .ref n, [d], S => match S[n]? with
    | some (.lst xs) => if xs.length < sizeLine then some (.non, S.set n (.lst (xs ++ [d]))) else none
    | _ => none
  | _, _, _ => none
theorem mtS_append {T : String} : MtS X T rAppend gAppend := by
  intro x xs S d S' e r H u vs Q s q1 q2 hq
  unfold gAppend at e
  split at e
  · rename_i n d1
    split at e
    · rename_i ys ex
      split at e
      · rename_i hz
        cases e
        cases q1 with
        | ref ea =>
          match vs, q2 with
          | [v], .cons z .nil =>
            obtain ⟨ws, h1, l⟩ := s.ob _ _ _ ex ea
            have L : Lat r H r (upd H _ (.lst (ws ++ [v]))) := lat_upd h1 trivial
            obtain ⟨s8, l8⟩ := s.put (o' := .lst (ys ++ [d1])) (v := .lst (ws ++ [v])) ex ea rfl rfl ⟨_, upd_same, ((l.append (.cons z .nil)).lat L)⟩
            exact ⟨_, ws, v, rfl, rfl, h1, by rw [← l.length]; exact hz, hq r _ _ s8 l8 .non⟩
      · cases e
    · cases e
  · cases e
def gExtend : D → List D → Sto → R
  | .ref n, [.ref m], S => match S[n]?, S[m]? with
    | some (.lst xs), some (.lst ys) => if xs.length + ys.length ≤ sizeLine then some (.non, S.set n (.lst (xs ++ ys))) else none
    | _, _ => none
  | _, _, _ => none
theorem mtS_extend {T : String} : MtS X T rExtend gExtend := by
  intro x xs S d S' e r H u vs Q s q1 q2 hq
  unfold gExtend at e
  split at e
  · split at e
    · rename_i ys zs ex ez
      split at e
      · rename_i hz
        cases e
        cases q1 with
        | ref ea =>
          match vs, q2 with
          | [v], .cons z .nil =>
            cases z with
            | ref eb =>
            obtain ⟨ws, h1, l⟩ := s.ob _ _ _ ex ea
            obtain ⟨us, h2, l2⟩ := s.ob _ _ _ ez eb
            have L : Lat r H r (upd H _ (.lst (ws ++ us))) := lat_upd h1 trivial
            obtain ⟨s8, l8⟩ := s.put (o' := .lst (ys ++ zs)) (v := .lst (ws ++ us)) ex ea rfl rfl ⟨_, upd_same, ((l.append l2).lat L)⟩
            exact ⟨_, _, ws, us, rfl, rfl, h1, h2, by rw [← l.length, ← l2.length]; exact hz, hq r _ _ s8 l8 .non⟩
      · cases e
    · cases e
  · cases e
theorem RepL.dropLast {K : PySem.W.Frag} {mg : Str → Option Value} {r : List Addr} {H : Hp} {xs : List D} {vs : List V} (q : RepL K mg r H xs vs) : RepL K mg r H xs.dropLast vs.dropLast := by
  rw [List.dropLast_eq_take, List.dropLast_eq_take, q.length]
  exact q.take _
def gPop : D → List D → Sto → R
  | .ref n, [], S => match S[n]? with
    | some (.lst xs) => (xs[xs.length - 1]?).map fun d => (d, S.set n (.lst xs.dropLast))
    | _ => none
  | _, _, _ => none
theorem mtS_pop {T : String} : MtS X T rPop gPop := by
  intro x xs S d S' e r H u vs Q s q1 q2 hq
  unfold gPop at e
  split at e
  · split at e
    · rename_i ys ex
      obtain ⟨d', e1, e2⟩ := Option.map_eq_some_iff.mp e
      cases e2
      cases q1 with
      | ref ea =>
        cases q2
        obtain ⟨ws, h1, l⟩ := s.ob _ _ _ ex ea
        obtain ⟨v, e3, q3⟩ := l.get e1
        have L : Lat r H r (upd H _ (.lst ws.dropLast)) := lat_upd h1 trivial
        obtain ⟨s8, l8⟩ := s.put (o' := .lst ys.dropLast) (v := .lst ws.dropLast) ex ea rfl rfl ⟨_, upd_same, (l.dropLast.lat L)⟩
        exact ⟨_, ws, v, rfl, rfl, h1, by rw [← l.length]; exact e3, hq r _ _ s8 l8 (q3.lat L)⟩
    · cases e
  · cases e

/-! ### built-ins -/
def gLen : List D → Sto → R
  | [.str z], S => if z.length ≤ sizeLine then some (.int z.length, S) else none
  | [d], S => (seqD S d).map fun xs => (.int xs.length, S)
  | _, _ => none
theorem callS_len : CallS X (fun xs H Q => (∃ p ys, xs = [.ref p] ∧ (SqL X.K H p ys ∨ SqT X.K H p ys) ∧ Q (.int ys.length) H) ∨ (∃ z, xs = [.str z] ∧ z.length ≤ sizeLine ∧ Q (.int z.length) H)) gLen := by
  intro xs S d S' e r H vs Q s q hq
  unfold gLen at e
  split at e
  · split at e
    · rename_i hz
      cases e
      match vs, q with
      | [v], .cons z .nil => cases z; exact .inr ⟨_, rfl, hz, hq r H _ s .refl (.int _)⟩
    · cases e
  · obtain ⟨ys, e1, e2⟩ := Option.map_eq_some_iff.mp e
    cases e2
    match vs, q with
    | [v], .cons z .nil =>
      obtain ⟨a, ws, rfl, hs, l⟩ := seqD_ok (X := X) s z e1
      refine .inl ⟨a, ws, rfl, hs, ?_⟩
      rw [← l.length]
      exact hq r H _ s .refl (.int _)
  · cases e
def gTuple : List D → Sto → R
  | [.tup xs], S => some (.tup xs, S)
  | [.ref n], S => (seqAt n S).map fun xs => (.tup xs, S)
  | _, _ => none
theorem callS_tuple : CallS X (fun xs H Q => ∃ p ys, xs = [.ref p] ∧ ((SqL X.K H p ys ∧ ∀ l, H l = none → Q (.ref l) (upd H l (.tup ys))) ∨ (SqT X.K H p ys ∧ Q (.ref p) H))) gTuple := by
  intro xs S d S' e r H vs Q s q hq
  unfold gTuple at e
  split at e
  · cases e
    match vs, q with
    | [v], .cons z .nil => cases z with
      | tup t l => exact ⟨_, _, rfl, .inr ⟨t.sq, hq r H _ s .refl (.tup t l)⟩⟩
  · obtain ⟨ys, e1, e2⟩ := Option.map_eq_some_iff.mp e
    cases e2
    match vs, q with
    | [v], .cons z .nil => cases z with
      | ref ea =>
        obtain ⟨ws, h1, l⟩ := seqAt_ok (X := X) s ea e1
        exact ⟨_, ws, rfl, .inl ⟨h1, fun p np => hq r _ _ (s.tup np) (lat_tup np) (.tup upd_same (l.lat (lat_tup np)))⟩⟩
  · cases e
def gList : List D → Sto → R
  | [d], S => (seqD S d).bind fun xs => newL xs S
  | _, _ => none
theorem callS_list : CallS X (fun xs H Q => ∃ p ys, xs = [.ref p] ∧ (SqL X.K H p ys ∨ SqT X.K H p ys) ∧ ∀ l, H l = none → Q (.ref l) (upd H l (.lst ys))) gList := by
  intro xs S d S' e r H vs Q s q hq
  unfold gList at e
  split at e
  · obtain ⟨ys, e1, e⟩ := Option.bind_eq_some_iff.mp e
    match vs, q with
    | [v], .cons z .nil =>
      obtain ⟨a, ws, rfl, hs, l⟩ := seqD_ok (X := X) s z e1
      refine ⟨a, ws, rfl, hs, fun p np => ?_⟩
      obtain ⟨a1, a2, a3⟩ := newL_ok (X := X) s np l e
      exact hq _ _ _ a1 a2 a3
  · cases e
end
end PL
end

section
set_option Elab.async false
set_option linter.all false
set_option maxRecDepth 100000
/-! PL6: short words for what a program prints -/
namespace PL
open PySem PySem.Spec PyProof.Rows L2

section
variable {X : Cx}
theorem cV (i : Nat) {x : Str} {pos : Pos} (hN : X.N[i]? = some x := by rfl) (hv : Vis X.env.scope x := by first | exact Or.inl rfl | exact Or.inr (Or.inl rfl) | exact Or.inr (Or.inr rfl)) (hd : (x == ("__debug__" : Str)) = false := by decide)
    (hcd : (x == ("__classdict__" : Str)) = false := by decide) : CE X (.Name x pos) (mVar i) := cE_var hN hv hd hcd
theorem cGn (i : Nat) {x : Str} {pos : Pos} (hN : X.N.Nodup) (hi : X.N[i]? = some x := by rfl) (hx : L2.Loc X.env.scope x := by first | exact Or.inl rfl | exact Or.inr rfl) (hf : X.fn x = true ∨ X.env.scope.names.lookup x = some .local := by first | exact .inl rfl | exact .inr rfl | assumption) : CG X (.Name x pos) [i] (gN i) := cG_name hN hi hx hf
theorem cSn (i : Nat) {x : Str} {e : Expr} {m : ME} {pos pos' : Pos} (hN : X.N.Nodup) (he : CE X e m) (hi : X.N[i]? = some x := by rfl) (hx : L2.Loc X.env.scope x := by first | exact Or.inl rfl | exact Or.inr rfl) (hs : swapsWith e (some (.Name x pos')) pos.line X.env = pure false := by rfl) (hf : X.fn x = true ∨ X.env.scope.names.lookup x = some .local := by first | exact .inl rfl | exact .inr rfl | assumption) :
    CS X (.Assign [.Name x pos'] e pos) (mAsg m (gN i)) := cS_set hN hi hx he hs hf
theorem hu64 {k : Nat} {A : Around} (hr : Room k A) : A.units + 64 < cLine := hr.units

/-! ### numbers -/
def cMulB (i j : Int) : Bool := decide (-(2 ^ 64) < i ∧ i < 2 ^ 64) || decide (-(2 ^ 64) < j ∧ j < 2 ^ 64)
theorem opS_mul : OpS X (rI CMul fun i j => .int (i * j)) (iiI cMulB (· * ·)) := opS_iiI fun i j h => by
  unfold cMulB at h
  rw [Bool.or_eq_true, decide_eq_true_eq, decide_eq_true_eq] at h
  exact h
instance (i j : Int) : Decidable (CDiv i j) := inferInstanceAs (Decidable (0 < j ∧ j < 1073741824))
instance (i j : Int) : Decidable (CPow i j) := inferInstanceAs (Decidable (0 ≤ j ∧ j ≤ 1000000 ∧ i.natAbs < 2 ^ 64))
def cDivB (i j : Int) : Bool := decide (0 < j ∧ j < 1073741824)
theorem opS_fdiv : OpS X (rI CDiv fun i j => .int (i / j)) (iiI cDivB (· / ·)) := opS_iiI fun i j h => of_decide_eq_true h
theorem opS_mod : OpS X (rI (fun _ j => 0 < j) fun i j => .int (i % j)) (iiI (fun _ j => decide (0 < j)) (· % ·)) := opS_iiI fun i j h => of_decide_eq_true h
def cPowB (i j : Int) : Bool := decide (0 ≤ j ∧ j ≤ 1000000 ∧ i.natAbs < 2 ^ 64)
theorem opS_pow : OpS X (rI CPow fun i j => .int (i ^ j.toNat)) (iiI cPowB fun i j => i ^ j.toNat) := opS_iiI fun i j h => of_decide_eq_true h
def dAdd : D → D → Sto → R := alt (iiI (fun _ _ => true) (· + ·)) (alt ssS (alt ttT llL))
def dSub : D → D → Sto → R := iiI (fun _ _ => true) (· - ·)
def dMul : D → D → Sto → R := alt (iiI cMulB (· * ·)) tiT'
def dDiv : D → D → Sto → R := iiI cDivB (· / ·)
def dMod : D → D → Sto → R := iiI (fun _ j => decide (0 < j)) (· % ·)
def dPow : D → D → Sto → R := iiI cPowB fun i j => i ^ j.toNat
def dLt : D → D → Sto → R := alt (iiB fun i j => decide (i < j)) (ssB fun i j => decide (i.cps.toList < j.cps.toList))
def dLe : D → D → Sto → R := alt (iiB fun i j => decide (i ≤ j)) (ssB fun i j => !decide (j.cps.toList < i.cps.toList))
def dGt : D → D → Sto → R := alt (iiB fun i j => decide (j < i)) (ssB fun i j => decide (j.cps.toList < i.cps.toList))
def dGe : D → D → Sto → R := alt (iiB fun i j => decide (j ≤ i)) (ssB fun i j => !decide (i.cps.toList < j.cps.toList))
def dEq : D → D → Sto → R := alt (sEq id) (deepB id)
def dNe : D → D → Sto → R := alt (sEq not) (deepB not)
def dIsO : D → D → Sto → R := alt (isN id) (bbB fun a b => decide (a = b))
def dIsNotO : D → D → Sto → R := alt (isN not) (bbB fun a b => !decide (a = b))
def mNeg (a : ME) : ME := fun env S => (a env S).bind fun p => match p.1 with
  | .int i => some (.int (-i), p.2)
  | _ => none
theorem cE_neg {a : Expr} {m : ME} {pos : Pos} (ha : CE X a m) : CE X (.UnaryOp .USub a pos) (mNeg m) := by
  refine ⟨?_⟩
  intro env S d S' h r σ H Q A hq
  obtain ⟨⟨x, S1⟩, e1, h⟩ := Option.bind_eq_some_iff.mp h
  split at h
  · rename_i i ei
    have ei' : x = .int i := ei
    subst ei'
    cases h
    refine tm_of (pe_un un_neg pe_tm) (ha env S _ _ e1 r σ H _ A fun r1 H1 v s1 l1 q1 => ?_)
    cases q1
    exact ⟨i, rfl, hq r1 H1 _ s1 l1 (.int _)⟩
  · cases h
/-! ### chains -/
def mChain (g h : D → D → Sto → R) (a b c : ME) : ME := fun env S => (a env S).bind fun p => (b env p.2).bind fun q => (g p.1 q.1 q.2).bind fun t => match t.1 with
  | .bl true => (c env t.2).bind fun u => h q.1 u.1 u.2
  | .bl false => some (.bl false, t.2)
  | _ => none
theorem chain_ok {a b c : Expr} {ma mb mc : ME} {rr rr' : R2} {g h : D → D → Sto → R} (ha : CE X a ma) (hb : CE X b mb) (hc : CE X c mc) (hg : OpS X rr g) (hh : OpS X rr' h) {env : Env} {S : Sto} {d : D} {S' : Sto} (hm : mChain g h ma mb mc env S = some (d, S')) {r : List Addr} {σ : L2.St} {H : Hp} {Q : VK} (A : At X r env S σ H)
    (hq : ∀ r' H' v, Sim X.K X.mg r' S' H' → Lat r H r' H' → RepV X.K X.mg r' H' d v → Q v H') : tChain rr rr' (TM X a) (TM X b) (TM X c) σ H Q := by
  obtain ⟨⟨x, S1⟩, e1, hm⟩ := Option.bind_eq_some_iff.mp hm
  obtain ⟨⟨y, S2⟩, e2, hm⟩ := Option.bind_eq_some_iff.mp hm
  obtain ⟨⟨t, S3⟩, e3, hm⟩ := Option.bind_eq_some_iff.mp hm
  refine ha env S x S1 e1 r σ H _ A fun r1 H1 u s1 l1 q1 => ?_
  refine hb env S1 y S2 e2 r1 σ H1 _ (A.lat s1 l1) fun r2 H2 v s2 l2 q2 => ?_
  refine hg x y S2 t S3 e3 r2 H2 u v _ s2 (q1.lat l2) q2 fun r3 H3 z s3 l3 q3 => ?_
  split at hm
  · rename_i et
    have et' : t = .bl true := et
    subst et'
    cases q3
    obtain ⟨⟨w, S4⟩, e4, hm⟩ := Option.bind_eq_some_iff.mp hm
    refine ⟨true, rfl, iteT ?_⟩
    refine hc env S3 w S4 e4 r3 σ H3 _ ((A.lat s1 l1).lat s3 (l2.trans l3)) fun r4 H4 z4 s4 l4 q4 => ?_
    exact hh y w S4 d S' hm r4 H4 v z4 Q s4 ((q2.lat l3).lat l4) q4 fun r5 H5 z5 s5 l5 q5 => hq r5 H5 z5 s5 (l1.trans (l2.trans (l3.trans (l4.trans l5)))) q5
  · rename_i et
    have et' : t = .bl false := et
    subst et'
    cases q3
    cases hm
    exact ⟨false, rfl, iteF (hq r3 H3 _ s3 (l1.trans (l2.trans l3)) (.bl _))⟩
  · cases hm
theorem cE_chain {a b c : Expr} {op op' : CmpOp} {ma mb mc : ME} {rr rr' : R2} {g h : D → D → Sto → R} {pos : Pos} (ho : OpR X (compareOp op) rr) (hg : OpS X rr g) (ho' : OpR X (compareOp op') rr') (hh : OpS X rr' h) (ha : CE X a ma) (hb : CE X b mb) (hc : CE X c mc)
    (hm : lastMarks [op, op'] [b, c] = false := by with_unfolding_all rfl) : CE X (.Compare a [op, op'] [b, c] pos) (mChain g h ma mb mc) :=
  ⟨fun env S d S' h' r σ H Q A hq => tm_of (pe_chain ho ho' pe_tm pe_tm pe_tm hm) (chain_ok ha hb hc hg hh h' A hq)⟩
theorem cT_chain {a b c : Expr} {op op' : CmpOp} {ma mb mc : ME} {rr rr' : R2} {g h : D → D → Sto → R} {pos : Pos} (ho : OpR X (compareOp op) rr) (hg : OpS X rr g) (ho' : OpR X (compareOp op') rr') (hh : OpS X rr' h) (ha : CE X a ma) (hb : CE X b mb) (hc : CE X c mc)
    (hm : lastMarks [op, op'] [b, c] = false := by with_unfolding_all rfl) : CT X (.Compare a [op, op'] [b, c] pos) (asB (mChain g h ma mb mc)) := by
  refine ⟨?_⟩
  intro env S k S' h' r σ H Q A hq
  obtain ⟨⟨d, S1⟩, e1, h'⟩ := Option.bind_eq_some_iff.mp h'
  split at h'
  · rename_i b' eb
    cases h'
    have eb' : d = .bl k := eb
    subst eb'
    refine tmt_of (pt_chain ho ho' pe_tm pe_tm pe_tm hm) (chain_ok (Q := fun x H' => ∃ k, x = .bl k ∧ Q k H') ha hb hc hg hh e1 A fun r' H' v s l q => ?_)
    cases q
    exact ⟨k, rfl, hq r' H' s l⟩
  · cases h'
/-! ### in, as a test: its value, by truth -/
theorem cT_ofE {a b : Expr} {op : CmpOp} {m : ME} {pos : Pos} (h : CE X (.Compare a [op] [b] pos) m) (he : ∀ v u : Value, True) (hp : PT X (.Compare a [op] [b] pos) (tTest (TM X (.Compare a [op] [b] pos)))) : CT X (.Compare a [op] [b] pos) (asB m) := by
  refine ⟨?_⟩
  intro env S c S' hh r σ H Q A hq
  obtain ⟨⟨d, S1⟩, e1, hh⟩ := Option.bind_eq_some_iff.mp hh
  split at hh
  · rename_i b' eb
    cases hh
    have eb' : d = .bl c := eb
    subst eb'
    refine tmt_of hp (h env S _ _ e1 r σ H _ A fun r' H' v s l q => ?_)
    cases q
    exact ⟨c, rfl, hq r' H' s l⟩
  · cases hh
theorem inT_ok {a b : Expr} {op : CmpOp} {ma mb : ME} {neg : Bool} {f : Bool → Bool} {pos : Pos} (hf : ∀ b, f b = if neg then !b else b) (ho : OpR X (compareOp op) (rIn X.K neg))
    (hs : OpR X (compareOp op) (fun x y H Q => ∃ i j, x = .str i ∧ y = .str j ∧ Q (.bl (f (!(Builtin.Str.occurrences j i 0 j.length 1).isEmpty))) H))
    (hd : PC X op a b (fun σ H Q => TM X a σ H fun y H1 => TM X b σ H1 fun x H2 => ∃ a o, x = .ref a ∧ DGet H2 a y o ∧ Q (.bl (f o.isSome)) H2))
    (ha : CE X a ma) (hb : CE X b mb) (hm : behindInMarks op b = false) : CT X (.Compare a [op] [b] pos) (asB (mBin (inA f) ma mb)) := by
  refine ⟨?_⟩
  intro env S c S' h r σ H Q A hq
  obtain ⟨⟨d, S0⟩, e0, h⟩ := Option.bind_eq_some_iff.mp h
  split at h
  case h_2 => cases h
  rename_i b' eb
  cases h
  have eb' : d = .bl c := eb
  subst eb'
  have hq' : ∀ r' H' v, Sim X.K X.mg r' S0 H' → Lat r H r' H' → RepV X.K X.mg r' H' (.bl c) v → ∃ k, v = .bl k ∧ Q k H' := fun r' H' v s l q => by
    cases q
    exact ⟨c, rfl, hq r' H' s l⟩
  obtain ⟨⟨x, S1⟩, e1, h⟩ := Option.bind_eq_some_iff.mp e0
  obtain ⟨⟨y, S2⟩, e2, h⟩ := Option.bind_eq_some_iff.mp h
  have two : ∀ g : D → D → Sto → R, g x y S2 = some (.bl c, S0) → mBin g ma mb env S = some (.bl c, S0) := fun g hg => by
    show ((ma env S).bind fun p => (mb env p.2).bind fun q => g p.1 q.1 q.2) = _
    rw [e1]
    show ((mb env S1).bind fun q => g x q.1 q.2) = _
    rw [e2]
    exact hg
  have h' : (inSeq f x y S2).orElse (fun _ => (ssB (fun i j => f (!(Builtin.Str.occurrences j i 0 j.length 1).isEmpty)) x y S2).orElse fun _ => inD f x y S2) = some (.bl c, S0) := h
  cases eg : inSeq f x y S2 with
  | some z =>
    rw [eg] at h'
    exact tmt_of (pt_cmpR ho pe_tm pe_tm hm) (bin_ok (Q := fun x H' => ∃ k, x = .bl k ∧ Q k H') ha hb (opS_inSeq hf) (two _ (by rw [eg]; exact h')) A hq')
  | none =>
    rw [eg] at h'
    have h' : (ssB (fun i j => f (!(Builtin.Str.occurrences j i 0 j.length 1).isEmpty)) x y S2).orElse (fun _ => inD f x y S2) = some (.bl c, S0) := h'
    cases eh : ssB (fun i j => f (!(Builtin.Str.occurrences j i 0 j.length 1).isEmpty)) x y S2 with
    | some z =>
      rw [eh] at h'
      exact tmt_of (pt_cmpR hs pe_tm pe_tm hm) (bin_ok (Q := fun x H' => ∃ k, x = .bl k ∧ Q k H') ha hb opS_ssB (two _ (by rw [eh]; exact h')) A hq')
    | none =>
      rw [eh] at h'
      have h2 : inD f x y S2 = some (.bl c, S0) := h'
      unfold inD at h2
      split at h2
      · rename_i n _
        obtain ⟨o, e3, e4⟩ := Option.map_eq_some_iff.mp h2
        cases e4
        refine tmt_of (pt_cmp hd hm) (ha env S _ S1 e1 r σ H _ A fun r1 H1 u s1 l1 q1 => ?_)
        refine hb env S1 _ _ e2 r1 σ H1 _ (A.lat s1 l1) fun r2 H2 v s2 l2 q2 => ?_
        cases q2 with
        | ref ea =>
          rcases dictAt_ok (X := X) s2 ea (q1.lat l2) e3 with ⟨rfl, z⟩ | ⟨d2, w, rfl, z2, z3⟩
          · exact ⟨_, none, rfl, z, _, rfl, hq r2 H2 s2 (l1.trans l2)⟩
          · exact ⟨_, some w, rfl, z2, _, rfl, hq r2 H2 s2 (l1.trans l2)⟩
      · cases h2
theorem cT_in {a b : Expr} {ma mb : ME} {pos : Pos} (hu : X.A.units + 1 < cLine) (ha : CE X a ma) (hb : CE X b mb) (hm : behindInMarks .In b = false) : CT X (.Compare a [.In] [b] pos) (asB (mBin (inA id) ma mb)) :=
  inT_ok (neg := false) (fun _ => rfl) op_in_seq op_in_str (pc_din hu pe_tm pe_tm) ha hb hm
theorem cT_notIn {a b : Expr} {ma mb : ME} {pos : Pos} (hu : X.A.units + 1 < cLine) (ha : CE X a ma) (hb : CE X b mb) (hm : behindInMarks .NotIn b = false) : CT X (.Compare a [.NotIn] [b] pos) (asB (mBin (inA not) ma mb)) :=
  inT_ok (neg := true) (fun _ => rfl) op_notIn_seq op_notin_str (pc_dnotin hu pe_tm pe_tm) ha hb hm
/-! ### a def where it stands -/
structure DefAt (K : PySem.W.Frag) (mg : Str → Option Value) (x : Str) (st : Stmt) (ps : List Str) (f : Addr) (fd : FuncData) : Prop where
  fn : Fun K x x st f fd
  mg : mg x = some (.ref f)
  bi : Binds K fd ps []
end

/-! ### defs, where nothing is being written out -/
structure FnG (P : Program) (w : World) (K : PySem.W.Frag) (mg : Str → Option Value) (base : Heap) (k : Nat) (f : Addr) (fd : FuncData) (ps : List Str) (sp : Sp) : Prop where
  len : ∀ vs H Q E, sp vs H Q E → vs.length = ps.length
  run : ∀ (A : Around) (outer : List PySem.Env) (s : Shared) (H : Hp) (args : Args) (us : List Value) (vs : List V) (Q : VK) (E : XK), Room k A → A.guards = some [] →
    Env0 P w K mg base A outer s H → BindsTo s fd args (ps.zip us) → Vals vs us → sp vs H Q E → codeAny (model P w) A (.call (.ref f) args) (CR CX0 outer P w H s Q E) s
section
variable {X : Cx} {k n : Nat} {f : Addr} {fd : FuncData} {ps : List Str} {m : MF}
theorem FnG.call {pins : List (Addr × Obj)} {σ : L2.St} {H : Hp} {s : Shared} {Q : VK} {us : List Value} {vs : List V} {sp : Sp} (F : FnG X.prog X.w X.K X.mg X.base k f fd ps sp) (hr : Room k X.A) (hgd : X.A.guards = some []) (hb : Binds X.K fd ps [])
    (I : Inv X pins σ H s) (rv : Vals vs us) (h : sp vs H Q E0) : wpAny (model X.prog X.w) X.A (call (.ref f) us) (EP X pins σ Q) X.xe s := by
  have n1 : us.length = ps.length := rv.length.symm.trans (F.len _ _ _ _ h)
  have b1 := hb s us I.kIn (by rw [List.append_nil]; exact n1)
  rw [List.append_nil] at b1
  refine wpAny_call ?_
  refine codeAny_mono (F.run X.A X.stack s H ⟨us, []⟩ us vs Q E0 hr hgd I.env0 b1 rv h) ?_
  intro res s' got
  match res, got with
  | .error _, got => exact absurd got id
  | .ok (.ret _), got => exact I.after got
  | .ok .next, got => exact absurd got id
  | .ok .brk, got => exact absurd got id
  | .ok .cont, got => exact absurd got id
theorem cE_callG {x : Str} {p pos : Pos} {e : Expr} {es : List Expr} {a : MA} (F : FnG X.prog X.w X.K X.mg X.base k f fd ps (spM X.K X.mg n m)) (hr : Room k X.A) (hgd : X.A.guards = some []) (hg : Gl X x) (hm : X.mg x = some (.ref f))
    (hk : PySem.W.keepIn X.K (.ref f) = true) (hb : Binds X.K fd ps []) (ha : CA X (e :: es) a) (hdb : (x == ("__debug__" : Str)) = false := by decide) (he : starEach (e :: es) X.env = (false, eval e X.env) :: starEach es X.env := by rfl)
    (hpl : (backTo pos (starEach es X.env)).any (·.1) = false := by rfl) : CE X (.Call (.Name x p) (e :: es) [] pos) (mCall n m a) := by
  refine ⟨?_⟩
  intro env S d S' h r σ H Q A hq
  obtain ⟨⟨ds, S1⟩, e1, h⟩ := Option.bind_eq_some_iff.mp h
  split at h
  case isFalse => cases h
  rename_i hl
  intro pins s I
  refine wpAny_Call_Name_kw (ld_glob I hg hm ?_ hdb)
  have args := ha env S ds S1 e1 r σ H (fun vs H1 => spM X.K X.mg n m vs H1 Q E0) A fun r1 H1 vs s1 l1 q1 => ⟨r1, S1, ds, d, S', hl, s1, q1, h, fun r2 H2 v s2 l2 q2 => hq r2 H2 v s2 (l1.trans l2) q2⟩
  refine PySem.W.callWith_K (h₀ := X.base) I.ok.mod.kin hk (thn (args pos pins s I) ?_) he hpl
  rintro us s1 ⟨vs, H1, I1, rv, q⟩
  exact ⟨I1.kIn, F.call hr hgd hb I1 rv q⟩
theorem cE_callG0 {x : Str} {p pos : Pos} (F : FnG X.prog X.w X.K X.mg X.base k f fd ps (spM X.K X.mg 0 m)) (hr : Room k X.A) (hgd : X.A.guards = some []) (hg : Gl X x) (hm : X.mg x = some (.ref f))
    (hk : PySem.W.keepIn X.K (.ref f) = true) (hb : Binds X.K fd ps []) (hdb : (x == ("__debug__" : Str)) = false := by decide) : CE X (.Call (.Name x p) [] [] pos) (mCall 0 m mNil) := by
  refine ⟨?_⟩
  intro env S d S' h r σ H Q A hq
  intro pins s I
  refine wpAny_Call_Name_kw (ld_glob I hg hm ?_ hdb)
  refine PySem.W.callWith_K0 I.kIn hk (F.call (vs := []) hr hgd hb I .nil ?_)
  exact ⟨r, S, [], d, S', rfl, A.sim, .nil, h, fun r2 H2 v s2 l2 q2 => hq r2 H2 v s2 l2 q2⟩
end
theorem fnG_none {P : Program} {w : World} {K : PySem.W.Frag} {mg : Str → Option Value} {base : Heap} {k n : Nat} {f : Addr} {fd : FuncData} {ps : List Str} : FnG P w K mg base k f fd ps (spM K mg n fun _ _ => none) :=
  ⟨fun _ _ _ _ ⟨_, _, _, _, _, _, _, _, z, _⟩ => (nomatch z), fun _ _ _ _ _ _ _ _ _ _ _ _ _ _ ⟨_, _, _, _, _, _, _, _, z, _⟩ => (nomatch z)⟩
theorem fnG_ok {P : Program} {w : World} {K : PySem.W.Frag} {mg : Str → Option Value} {base : Heap} {x qual : Str} {st : Stmt} {f : Addr} {fd : FuncData} {N ps : List Str} {k n : Nat} {b : MS} (F : Fun K x qual st f fd) (S : FnScope N ps (defScope st)) (hn : ps.length = n)
    (hb : ∀ (cdv : Value) (A : Around) (outer : List PySem.Env) (s : Shared) (H : Hp) (E : XK), Room k (A.deeper (envOfC qual (defScope st) s.heap.objs.size f cdv)) → A.guards = some [] → CSs (cxOf CX0 P w K mg base N qual (defScope st) f cdv A outer s H E).nox (defBody st) b) :
    FnG P w K mg base (k + 1) f fd ps (spM K mg n (mBody N.length b)) := by
  have lens : ∀ vs H Q E, spM K mg n (mBody N.length b) vs H Q E → vs.length = ps.length := by
    rintro vs H Q E ⟨r, S0, ds, d, S', hl, _, q, _⟩
    rw [← q.length, hl, hn]
  refine ⟨lens, ?_⟩
  intro A outer s H args us vs Q E hr hgd e0 hbd rv hsp
  obtain ⟨oc, od, kV, doc, pm, an, cdv, ct, osl, rfl, lk, hcd⟩ := F.ex
  have hl := lens _ _ _ _ hsp
  have KX : K.In s.heap := e0.mod.kin.keeps fun c o e => (e0.bs c o e).1
  have nolim : s.heap.NoLimit := e0.mod.nolimit.keeps fun c o e => (e0.bs c o e).1
  have kinds : ∀ y ∈ ps.zip us, (defScope st).names.lookup y.1 = some .local ∨ ((defScope st).names.lookup y.1 = some .cell ∧ ((cellsFrom (s.heap.objs.size + 1) (defScope st).names []).lookup y.1).isSome = true) := by
    rintro ⟨z, u⟩ hz
    exact (S.par z (List.of_mem_zip hz).1).imp id fun c => ⟨c, PySem.W.cellsFrom_some _ _ _ (.inl c)⟩
  refine codeAny_call_function hr.depth (KX f _ lk) rfl S.co S.gen rfl (PySem.W.codeRec_of KX hcd) (hbd _ _ _ _ ?_)
  refine wpAny_newFunctionEnv_cells S.kind kinds ?_
  rintro env rfl s1 ic
  refine ⟨nolim.keeps ic.toInCall.keep, codeAny_func ?_⟩
  have I := inv_start (CX := CX0) (E := E) (P := P) (w := w) (K := K) (mg := mg) (base := base) (cd := cdv) (qual := qual) S hr.hd e0 hl rv ic
  obtain ⟨r, S0, ds, d, S', _, s0, q, h, hq⟩ := hsp
  obtain ⟨⟨fl, env', S1⟩, e1, h⟩ := Option.bind_eq_some_iff.mp h
  have body : TMss (cxOf CX0 P w K mg base N qual (defScope st) f cdv A outer s H E).nox (defBody st) { nx := fun _ H' => Q .non H', rt := Q } (L2.start N vs) H := by
    refine hb cdv A outer s H E (hr.deeper _) hgd _ S0 fl env' S1 e1 r _ H _ ⟨s0, startE_ok N q⟩ ?_
    match fl, h with
    | .nx, h => cases h; exact fun r' σ' H' A' l' => hq r' H' .non A'.sim l' .non
    | .rt d1, h => cases h; exact fun r' H' v s' l' q' => hq r' H' v s' l' q'
    | .bk, h => cases h
    | .ct, h => cases h
  refine wpAny_mono ((pss_tm (X := cxOf CX0 P w K mg base N qual (defScope st) f cdv A outer s H E) (st := defBody st)).run [] s1 (L2.start N vs) H { nx := fun _ H' => Q .non H', rt := Q } I ?_) ?_ fun _ _ z => z
  · exact fun pins s' I' => (PSs.nox (X := cxOf CX0 P w K mg base N qual (defScope st) f cdv A outer s H E) (pss_tm (st := defBody st))).run pins s' _ _ _ I' body
  · intro fl s' got
    match fl, got with
    | .ret u, ⟨v, σ', H', J, rv', q'⟩ => exact ⟨v, H', J.os, J.bare, J.base, J.hok, rv', q'⟩
    | .next, ⟨σ', H', J, q'⟩ => exact ⟨V.non, H', J.os, J.bare, J.base, J.hok, (rfl : RelV V.non Value.none), q'⟩
    | .brk, ⟨_, _, _, q'⟩ => exact absurd q' id
    | .cont, ⟨_, _, _, q'⟩ => exact absurd q' id

/-! ### repr -/
section
variable {X : Cx}
def reprOk (p : PyData) : Bool := PyData.showable p && !PyData.hasDict p && decide (PyData.depth p ≤ 40) && decide ((PyData.shown p).length ≤ sizeLine)
def gRepr : List D → Sto → R
  | [.tup xs], S => (pyD (.tup xs)).bind fun p => if reprOk p = true then some (.str (PyData.shown p), S) else none
  | _, _ => none
def rRepr (K : PySem.W.Frag) : List V → Hp → VK → Prop := fun vs H Q => ∃ a p, vs = [.ref a] ∧ Dp K H (.ref a) p ∧ reprOk p = true ∧ Q (.str (PyData.shown p)) H
theorem callR_repr (hgd : X.A.guards = some []) (hu : X.A.units + 64 < cLine) : CallR X (.builtin "repr") (rRepr X.K) := by
  intro pins s σ H vs us Q I rv h
  obtain ⟨a, p, rfl, hd, ok, q⟩ := h
  cases rv with
  | cons r1 r2 =>
    cases r2
    obtain ⟨as, rd⟩ := Dp.reads I p _ _ hd r1
    cases r1
    unfold reprOk at ok
    simp only [Bool.and_eq_true, Bool.not_eq_true', decide_eq_true_eq] at ok
    obtain ⟨⟨⟨o1, o2⟩, o3⟩, o4⟩ := ok
    refine repr_of_reads' rd o1 (PyData.noDict_hsm o2) hgd (by omega) (fun _ _ e => e) (fun h' u tk kp => ?_) o4
    exact ⟨.str _, H, I.kept (t' := tk) kp, ⟨_, rfl⟩, q⟩
theorem callS_repr : CallS X (rRepr X.K) gRepr := by
  intro xs S d S' e r H vs Q s q hq
  unfold gRepr at e
  split at e
  case h_2 => cases e
  obtain ⟨p, e1, e⟩ := Option.bind_eq_some_iff.mp e
  split at e
  case isFalse => cases e
  rename_i ok
  cases e
  match vs, q with
  | [v], .cons z .nil =>
    have hd := pyD_ok z e1
    cases z
    exact ⟨_, p, rfl, hd, ok, hq r H _ s .refl (.str _)⟩
end

/-! ### the law itself -/
theorem repInts {K : PySem.W.Frag} {mg : Str → Option Value} {r : List Addr} {H : Hp} : ∀ ns : List Int, RepL K mg r H (ns.map D.int) (ns.map V.int)
  | [] => .nil
  | c :: cs => .cons (.int c) (repInts cs)
/-- the script's place and content in the heap ahead of all -/
def scr (a : Addr) (o : Obj) (ns : List Int) : Hp := fun b => if b = a then some (.frz o (.lst (ns.map V.int))) else none
theorem law_end {l : PySem.W.OpenLaw} {n k : Nat} {q : Program} {loose : List Str} {XP : (Str → Option Value) → Heap → Prop} {YP : World → Heap → Prop} {d : DefRec} {K : Params → PySem.W.Frag} {m : MF} {x : Str}
    (hn : l.most = some n) (hn2 : n ≤ sizeLine) (hdf : d.params.defaults = []) (hr : Room k callerA) (hY : ∀ (w : World) (h : Heap), YP w h → (K w.params).In h)
    (F : ∀ (w : World) (mg : Str → Option Value) (fa : Addr) (h : Heap), (K w.params).In h → h.Ns mainGlobals mg → mg d.name = some (.ref fa) → ∃ fd : FuncData, Binds (K w.params) fd [x] [] ∧
      ∀ base : Heap, (K w.params).In base → base.Ns mainGlobals mg → FnG l.prog w (K w.params) mg base k fa fd [x] (spM (K w.params) mg 1 m))
    (hm : ∀ ns : List Int, ns.length ≤ n → ∃ S', m [.ref 0] [.cst (ns.map D.int)] = some (.bl true, S')) :
    PySem.W.WalkO q loose XP YP l.row.toRowW d [] (fun f vs => PySem.call f vs) := by
  refine Att.attach_call hn hdf ?_
  intro w s0 s1 mg mb fa o pm cd doc a vs ns G Y ho hd hcd hmg hobj hints hlen hgens
  have KX := hY w _ Y
  obtain ⟨fd, hbind, hF⟩ := F w mg fa _ KX G.T.g hmg
  have rv : Vals (ns.map V.int) vs := vals_ints hints
  have lz : ns.length ≤ sizeLine := Nat.le_trans hlen hn2
  have args : BindsTo s1 fd ⟨[.ref a], []⟩ ([x].zip [.ref a]) := by
    have z := hbind s1 [.ref a] KX rfl
    rwa [List.append_nil] at z
  obtain ⟨S', eS⟩ := hm ns hlen
  -- the run, from a heap in which the script alone may be tracked
  have go : ∀ (H : Hp), (∀ b, H b = none ∨ (b = a ∧ H b = some (.frz { cls := .type "list", data := .seq vs.toArray } (.lst (ns.map V.int))))) → CstAt (K w.params) H a (ns.map V.int) → (H a ≠ none → (K w.params).lookup a = none) →
      codeAny (model l.prog w) callerA (.call (.ref fa) ⟨[.ref a], []⟩) (fun r s' => r = .ok (.ret (.bool true)) ∧ OldK s1.heap s'.heap ∧ s'.os = s1.os ∧ AllBare s'.gens) s1 := by
    intro H only hS noK
    have off : ∀ b ob, s1.heap.get? b = some ob → (∀ xs c, ob.data ≠ .seq xs c) → H b = none := by
      intro b ob e ne
      rcases only b with z | ⟨rfl, _⟩
      · exact z
      · rw [hobj] at e
        cases e
        exact absurd rfl (ne _ _)
    have nsT : ∀ {b : Addr} {mm : Str → Option Value}, s1.heap.Ns b mm → (hidT s1.heap H).Ns b mm := by
      rintro b mm ⟨ob, es, ep, e, dd, rest⟩
      exact ⟨ob, es, ep, hidT_get e (off b ob e fun _ _ z => by rw [dd] at z; cases z), dd, rest⟩
    have KT : (K w.params).In (hidT s1.heap H) := by
      intro b ob e
      refine hidT_get (KX b ob e) ?_
      rcases only b with z | ⟨rfl, z⟩
      · exact z
      · rw [noK (by rw [z]; exact fun c => nomatch c)] at e
        cases e
    have MT : Mod (K w.params) mg (hidT s1.heap H) := ⟨KT, nsT G.T.g, ⟨mb, nsT G.T.b, G.T.builtins⟩, let ⟨mc, c1, c2⟩ := G.T.nolimit; ⟨mc, nsT c1, c2⟩⟩
    have okH : HOk l.prog w H s1.heap := by
      intro b u e
      rcases only b with z | ⟨rfl, z⟩
      · rw [z] at e
        cases e
      · rw [z] at e
        cases e
        exact ⟨hobj, by rw [List.length_map]; exact lz, vs, _, rv, hobj⟩
    have E1 : Env0 l.prog w (K w.params) mg (hidT s1.heap H) callerA [] s1 H := ⟨rfl, MT, fun _ _ e => of_hidT e, Nat.le_of_eq (hidT_size _ _), trivial, fun _ z => (nomatch z), okH, .of_eq hgens⟩
    have sim : Sim (K w.params) mg [a] [.cst (ns.map D.int)] H := by
      refine ⟨rfl, fun i j b u v e1 e2 e3 e4 m1 m2 => ?_, fun i u b e1 e2 => ?_⟩
      · match i, e3 with
        | 0, e3 => cases e3; cases m1
      · match i, e1, e2 with
        | 0, e1, e2 =>
          cases e1
          cases e2
          exact ⟨ns.map V.int, hS, repInts ns⟩
    have prom : spM (K w.params) mg 1 m [.ref a] H (fun v _ => v = .bl true) E0 := by
      refine ⟨[a], _, [.ref 0], .bl true, S', rfl, sim, .cons (.ref rfl) .nil, eS, fun r' H' v _ _ z => ?_⟩
      cases z
      rfl
    refine codeAny_mono ((hF _ KT (nsT G.T.g)).run callerA [] s1 H ⟨[.ref a], []⟩ [.ref a] [.ref a] _ E0 hr rfl E1 args (.cons rfl .nil) prom) ?_
    intro res s' got
    match res, got with
    | .error _, got => exact absurd got id
    | .ok .next, got => exact absurd got id
    | .ok .brk, got => exact absurd got id
    | .ok .cont, got => exact absurd got id
    | .ok (.ret u), ⟨v, H', os, bare, un, okH', ru, ev⟩ =>
      have ev' : v = .bl true := ev
      subst ev'
      have eu : u = Value.bool true := ru
      subst eu
      refine ⟨rfl, .of_keep fun b ob e => ?_, os, bare⟩
      rcases only b with z | ⟨rfl, z⟩
      · exact un.keep b ob e z (fun c => nomatch c) (fun c => nomatch c)
      · rw [hobj] at e
        cases e
        exact (okH' b _ (un.frzs b _ _ z)).1
  match hk : (K w.params).lookup a with
  | some ob =>
    have e := KX a ob hk
    rw [hobj] at e
    cases e
    exact go (fun _ => none) (fun _ => .inl rfl) (.inr ⟨_, vs.toArray, _, hk, rfl, rfl, rfl, by rw [List.size_toArray, hints.length]; exact lz, rv⟩) fun z => absurd rfl z
  | none =>
    refine go (scr a { cls := .type "list", data := .seq vs.toArray } ns) (fun b => ?_) (.inl ⟨{ cls := .type "list", data := .seq vs.toArray }, if_pos rfl⟩) fun _ => hk
    by_cases hb : b = a
    · exact .inr ⟨hb, if_pos hb⟩
    · exact .inl (if_neg hb)
end PL
end

section
set_option Elab.async false
set_option linter.all false
set_option maxRecDepth 100000
/-! PL7: the rules again, their side conditions by looks at the outermost sign alone -/
namespace PL
open PySem PySem.Spec PyProof.Rows L2
/-- no star -/
def nS : Expr → Bool
  | .Starred _ _ => false
  | _ => true
def nSs : List Expr → Bool
  | [] => true
  | e :: es => nS e && nSs es
/-- no comprehension -/
def nC : Expr → Bool
  | .ListComp _ _ _ _ => false
  | .SetComp _ _ _ _ => false
  | .DictComp _ _ _ _ _ => false
  | _ => true
def nSl : Expr → Bool
  | .Slice _ _ _ _ => false
  | _ => true
/-- a test that is a value's truth -/
def nT : Expr → Bool
  | .UnaryOp .Not _ _ => false
  | .BoolOp _ _ _ => false
  | .IfExp _ _ _ _ => false
  | .Compare _ _ _ _ => false
  | _ => true
def nSet : Expr → Bool
  | .Set _ _ _ => false
  | _ => true
def nCall : Expr → Bool
  | .Call _ _ _ _ => false
  | _ => true
def nTup : Expr → Bool
  | .Tuple _ _ _ => false
  | .List _ _ => false
  | _ => true
theorem star_cons {e : Expr} {es : List Expr} {env : PySem.Env} (h : nS e = true) : starEach (e :: es) env = (false, eval e env) :: starEach es env := by
  cases e <;> first | (cases h; done) | simp only [starEach]
theorem star_plain {pos : Pos} {env : PySem.Env} : ∀ {es : List Expr}, nSs es = true → (backTo pos (starEach es env)).any (·.1) = false
  | [], _ => by simp [starEach, backTo]
  | e :: es, h => by
    have h' : (nS e && nSs es) = true := h
    rw [Bool.and_eq_true] at h'
    rw [star_cons h'.1]
    have ih := star_plain (pos := pos) (env := env) h'.2
    show (false || (backTo pos (starEach es env)).any (·.1)) = false
    rw [Bool.false_or]
    exact ih
theorem star_all {pos : Pos} {env : PySem.Env} : ∀ {es : List Expr}, nSs es = true → (backTo pos (starEach es env)).all (fun x => !x.1) = true
  | [], _ => by simp [starEach, backTo]
  | e :: es, h => by
    have h' : (nS e && nSs es) = true := h
    rw [Bool.and_eq_true] at h'
    rw [star_cons h'.1]
    have ih := star_all (pos := pos) (env := env) h'.2
    show (true && (backTo pos (starEach es env)).all (fun x => !x.1)) = true
    rw [Bool.true_and]
    exact ih
theorem nSs_cons {e : Expr} {es : List Expr} (h : nSs (e :: es) = true) : nS e = true ∧ nSs es = true := by
  have h' : (nS e && nSs es) = true := h
  rwa [Bool.and_eq_true] at h'
theorem sw_no {e : Expr} {t : Option Expr} {l : Nat} {env : PySem.Env} (h : nC e = true) : swapsWith e t l env = pure false := by
  cases e <;> first | (cases h; done) | rfl
theorem base_no {o : Expr} {n : Str} {env : PySem.Env} (h : nCall o = true) : attributeBase o n env (eval o env) = eval o env := by
  cases o <;> first | (cases h; done) | rfl
theorem plain_ix {b : Expr} (h : nSl b = true) : PlainIx b := by
  intro o i
  cases b <;> first | (cases h; done) | rfl
theorem truth_of {a : Expr} {env : PySem.Env} (h : nT a = true) : ∀ whole, PySem.isTrue a env whole = (do let v ← whole; standAt a.pos; holding [v] (truthy v)) := by
  intro whole
  cases a <;> first | (cases h; done) | (simp only [PySem.isTrue]; done) | skip
  rename_i op x p
  cases op <;> first | (cases h; done) | simp only [PySem.isTrue]
theorem fold_no {e : Expr} {env : PySem.Env} (h : nSet e = true) : ∀ x, foldedSetIterable e env x = pure x := by
  intro x
  cases e <;> first | (cases h; done) | rfl
theorem mark_no {op : CmpOp} {b : Expr} (h : nSet b = true) : behindInMarks op b = false := by
  cases b <;> first | (cases h; done) | rfl
theorem sws_no {t e : Expr} {l : Nat} {env : PySem.Env} (h : nC e = true) : swapsWithSole [t] e l env = pure false := sw_no h
theorem swst_no {t e : Expr} {env : PySem.Env} (h : nTup t = true) : swappedStores [t] e env = pure none := by
  cases t <;> first | (cases h; done) | rfl
theorem swse_no {t e : Expr} {env : PySem.Env} (h : nTup e = true) : swappedStores [t] e env = pure none := by
  cases t <;> first | rfl | (cases e <;> first | (cases h; done) | rfl)
theorem asg_one {t : Expr} {env : PySem.Env} (h : nS t = true) : (assignEach [t] env).map (·.2) = [assign t env] := by
  cases t <;> first | (cases h; done) | simp only [assignEach, List.map]
theorem asg_cons {t : Expr} {ts : List Expr} {env : PySem.Env} (h : nS t = true) : (assignEach (t :: ts) env).map (·.2) = assign t env :: (assignEach ts env).map (·.2) := by
  cases t <;> first | (cases h; done) | simp only [assignEach, List.map]
theorem asg_len {env : PySem.Env} : ∀ {ts : List Expr}, (assignEach ts env).length = ts.length
  | [] => by simp only [assignEach, List.length_nil]
  | t :: ts => by
    have ih := asg_len (env := env) (ts := ts)
    cases t <;> simp only [assignEach, List.length_cons, ih]
theorem asg_star {env : PySem.Env} : ∀ {ts : List Expr}, nSs ts = true → (assignEach ts env).findIdx? (·.1) = none
  | [], _ => by simp only [assignEach, List.findIdx?_nil]
  | t :: ts, h => by
    obtain ⟨h1, h2⟩ := nSs_cons h
    have ih := asg_star (env := env) h2
    cases t <;> first | (cases h1; done) | (simp only [assignEach, List.findIdx?_cons, ih]; rfl)
theorem asg_sub {o i : Expr} {pos : Pos} {env : PySem.Env} (h : nSl i = true) : ∀ v, assign (.Subscript o i pos) env v = (do
      let ov ← holding [v] (eval o env)
      let iv ← holding [v, ov] (eval i env)
      standAt pos
      holding [v, ov, iv] (setItem ov iv v)
      release [v, ov, iv] []) := by
  intro v
  cases i <;> first | (cases h; done) | simp only [assign]

section
variable {X : Cx}
theorem kA {e : Expr} {es : List Expr} {a : ME} {b : MA} (ha : CE X e a) (hb : CA X es b) (h : nS e = true := by rfl) : CA X (e :: es) (mCons a b) := cA_cons ha hb (star_cons h)
theorem kCall {k n : Nat} {f : Addr} {fd : FuncData} {ps : List Str} {m : MF} {x : Str} {p pos : Pos} {e : Expr} {es : List Expr} {a : MA} (F : FnG X.prog X.w X.K X.mg X.base k f fd ps (spM X.K X.mg n m)) (hr : Room k X.A) (hgd : X.A.guards = some [])
    (hk : PySem.W.keepIn X.K (.ref f) = true) (hb : Binds X.K fd ps []) (hm : X.mg x = some (.ref f)) (ha : CA X (e :: es) a) (hg : Gl X x := by rfl) (hdb : (x == ("__debug__" : Str)) = false := by decide) (h : nSs (e :: es) = true := by rfl) : CE X (.Call (.Name x p) (e :: es) [] pos) (mCall n m a) :=
  cE_callG F hr hgd hg hm hk hb ha hdb (star_cons (nSs_cons h).1) (star_plain (nSs_cons h).2)
section
variable {x : Str} {p pos : Pos} {e : Expr} {es : List Expr} {a : MA} {rr : List V → Hp → VK → Prop} {g : List D → Sto → R} {id T : String}
theorem kB (hc : CallR X (.builtin id) rr) (hs : CallS X rr g) (hm : X.mg x = none) (hv : bootBuiltins x = some (.builtin id)) (ha : CA X (e :: es) a) (hg : Gl X x := by rfl) (hn : x ≠ "__name__" := by decide) (hdb : (x == ("__debug__" : Str)) = false := by decide)
    (h : nSs (e :: es) = true := by rfl) : CE X (.Call (.Name x p) (e :: es) [] pos) (mBlt g a) := cE_callB hc hs hg hm hv ha hn hdb (star_cons (nSs_cons h).1) (star_plain (nSs_cons h).2)
theorem kTy (hc : CallR X (.type T) rr) (hs : CallS X rr g) (hm : X.mg x = none) (hv : bootBuiltins x = some (.type T)) (ha : CA X (e :: es) a) (hg : Gl X x := by rfl) (hn : x ≠ "__name__" := by decide) (hdb : (x == ("__debug__" : Str)) = false := by decide)
    (h : nSs (e :: es) = true := by rfl) : CE X (.Call (.Name x p) (e :: es) [] pos) (mBlt g a) := cE_callTy hc hs hg hm hv ha hn hdb (star_cons (nSs_cons h).1) (star_plain (nSs_cons h).2)
end
section
variable {T id : String} {name : Str} {apos cpos : Pos} {o e : Expr} {es : List Expr} {a : MA} {mo : ME} {rr : V → List V → Hp → VK → Prop} {g : D → List D → Sto → R}
theorem kMt0 (pa : PlainAttrs T) (slot : Slot T name id) (hty : typeOf (.builtin id) = pure (.type "method_descriptor")) (hm : MtR X id rr) (hs : MtS X T rr g) (ho : CE X o mo) (h : nCall o = true := by rfl) (hline : (apos.endLine == cpos.line) = true := by rfl) :
    CE X (.Call (.Attribute o name apos) [] [] cpos) (mMt T g mo mNil) := cE_mt0 pa slot hty hm hs ho (base_no h) hline
theorem kMt (pa : PlainAttrs T) (slot : Slot T name id) (hty : typeOf (.builtin id) = pure (.type "method_descriptor")) (hm : MtR X id rr) (hs : MtS X T rr g) (ho : CE X o mo) (ha : CA X (e :: es) a) (h : nCall o = true := by rfl) (hS : nSs (e :: es) = true := by rfl)
    (hline : (apos.endLine == cpos.line) = true := by rfl) (hlen : decide ((e :: es).length < 30) = true := by rfl) : CE X (.Call (.Attribute o name apos) (e :: es) [] cpos) (mMt T g mo a) := by
  refine cE_mt pa slot hty hm hs ho ha (base_no h) ?_ hline (star_cons (nSs_cons hS).1) (star_plain (nSs_cons hS).2)
  rw [star_all hS]
  have hl : (e :: es).length < 30 := of_decide_eq_true hlen
  simp only [keywordEach, backToKw, List.map_nil, List.all_nil, Bool.true_and, decide_eq_true_eq, List.isEmpty_nil, if_true, List.length_nil, Nat.add_zero]
  exact hl
end
theorem kIx {a b : Expr} {ma mb : ME} {pos : Pos} (hu : X.A.units + 1 < cLine) (ha : CE X a ma) (hb : CE X b mb) (h : nSl b = true := by rfl) : CE X (.Subscript a b pos) (mBin ixA ma mb) := cE_ixA hu ha hb (plain_ix h)
theorem kTru {a : Expr} {m : ME} (ha : CE X a m) (h : nT a = true := by rfl) : CT X a (mTru m) := cT_tru ha (truth_of h)
theorem kIn {a b : Expr} {ma mb : ME} {pos : Pos} (hu : X.A.units + 1 < cLine) (ha : CE X a ma) (hb : CE X b mb) (h : nSet b = true := by rfl) : CE X (.Compare a [.In] [b] pos) (mBin (inA id) ma mb) := cE_in hu ha hb (mark_no h)
theorem kNotIn {a b : Expr} {ma mb : ME} {pos : Pos} (hu : X.A.units + 1 < cLine) (ha : CE X a ma) (hb : CE X b mb) (h : nSet b = true := by rfl) : CE X (.Compare a [.NotIn] [b] pos) (mBin (inA not) ma mb) := cE_notIn hu ha hb (mark_no h)
theorem kInT {a b : Expr} {ma mb : ME} {pos : Pos} (hu : X.A.units + 1 < cLine) (ha : CE X a ma) (hb : CE X b mb) (h : nSet b = true := by rfl) : CT X (.Compare a [.In] [b] pos) (asB (mBin (inA id) ma mb)) := cT_in hu ha hb (mark_no h)
theorem kNotInT {a b : Expr} {ma mb : ME} {pos : Pos} (hu : X.A.units + 1 < cLine) (ha : CE X a ma) (hb : CE X b mb) (h : nSet b = true := by rfl) : CT X (.Compare a [.NotIn] [b] pos) (asB (mBin (inA not) ma mb)) := cT_notIn hu ha hb (mark_no h)
theorem kCmp {a b : Expr} {op : CmpOp} {pos : Pos} {ma mb : ME} {rr : R2} {g : D → D → Sto → R} (ho : OpR X (compareOp op) rr) (hg : OpS X rr g) (ha : CE X a ma) (hb : CE X b mb) (h : nSet b = true := by rfl) : CE X (.Compare a [op] [b] pos) (mBin g ma mb) := cE_cmp ho hg ha hb (mark_no h)
theorem kCmpT {a b : Expr} {op : CmpOp} {pos : Pos} {ma mb : ME} {rr : R2} {g : D → D → Sto → R} (ho : OpR X (compareOp op) rr) (hg : OpS X rr g) (ha : CE X a ma) (hb : CE X b mb) (h : nSet b = true := by rfl) : CT X (.Compare a [op] [b] pos) (asB (mBin g ma mb)) := cT_cmp ho hg ha hb (mark_no h)
theorem kChain {a b c : Expr} {op op' : CmpOp} {ma mb mc : ME} {rr rr' : R2} {g h : D → D → Sto → R} {pos : Pos} (ho : OpR X (compareOp op) rr) (hg : OpS X rr g) (ho' : OpR X (compareOp op') rr') (hh : OpS X rr' h) (ha : CE X a ma) (hb : CE X b mb) (hc : CE X c mc)
    (hs : nSet c = true := by rfl) : CE X (.Compare a [op, op'] [b, c] pos) (mChain g h ma mb mc) := cE_chain ho hg ho' hh ha hb hc (mark_no hs)
theorem kChainT {a b c : Expr} {op op' : CmpOp} {ma mb mc : ME} {rr rr' : R2} {g h : D → D → Sto → R} {pos : Pos} (ho : OpR X (compareOp op) rr) (hg : OpS X rr g) (ho' : OpR X (compareOp op') rr') (hh : OpS X rr' h) (ha : CE X a ma) (hb : CE X b mb) (hc : CE X c mc)
    (hs : nSet c = true := by rfl) : CT X (.Compare a [op, op'] [b, c] pos) (asB (mChain g h ma mb mc)) := cT_chain ho hg ho' hh ha hb hc (mark_no hs)
theorem kExpr {e : Expr} {m : ME} {pos : Pos} (he : CE X e m) (h : nC e = true := by rfl) : CS X (.Expr e pos) (mDrop m) := cS_expr he (sw_no h)
theorem kSet (i : Nat) {x : Str} {e : Expr} {m : ME} {pos pos' : Pos} (hN : X.N.Nodup) (he : CE X e m) (hi : X.N[i]? = some x := by rfl) (hx : L2.Loc X.env.scope x := by first | exact Or.inl rfl | exact Or.inr rfl) (h : nC e = true := by rfl) (hf : X.fn x = true ∨ X.env.scope.names.lookup x = some .local := by first | exact .inl rfl | exact .inr rfl | assumption) :
    CS X (.Assign [.Name x pos'] e pos) (mAsg m (gN i)) := cS_set hN hi hx he (sw_no h) hf
/-- a tuple of targets, from a value that is no display -/
theorem kAsg {tg e : Expr} {m : ME} {g : MG} {L : List Nat} {pos : Pos} (he : CE X e m) (hg : CG X tg L g) (h : nC e = true := by rfl) (ht : nTup e = true := by rfl) (hS : nS tg = true := by rfl) : CS X (.Assign [tg] e pos) (mAsg m g) := cS_asg he hg (sws_no h) (swse_no ht) (asg_one hS)
/-- a target that is no tuple -/
theorem kAsgT {tg e : Expr} {m : ME} {g : MG} {L : List Nat} {pos : Pos} (he : CE X e m) (hg : CG X tg L g) (h : nC e = true := by rfl) (ht : nTup tg = true := by rfl) (hS : nS tg = true := by rfl) : CS X (.Assign [tg] e pos) (mAsg m g) := cS_asg he hg (sws_no h) (swst_no ht) (asg_one hS)
/-- a display over names that are cells -/
theorem kAsgC {tg e : Expr} {m : ME} {g : MG} {L : List Nat} {pos : Pos} (he : CE X e m) (hg : CG X tg L g) (hw : swappedStores [tg] e X.env = pure none) (h : nC e = true := by rfl) (hS : nS tg = true := by rfl) : CS X (.Assign [tg] e pos) (mAsg m g) := cS_asg he hg (sws_no h) hw (asg_one hS)
theorem kGc {e : Expr} {es : List Expr} {L M : List Nat} {a : MG} {b : List D → Env → Sto → Option (Env × Sto)} (ha : CG X e L a) (hb : CGs X es M b) (h : nS e = true := by rfl) : CGs X (e :: es) (L ++ M) (gsC a b) := cGs_cons ha hb (asg_cons h)
theorem kGt {es : List Expr} {k n : Nat} {L : List Nat} {pos : Pos} {b : List D → Env → Sto → Option (Env × Sto)} (hc : X.calm = true) (hb : CGs X es L b) (hn : es.length = n := by rfl) (h : nSs es = true := by rfl) : CG X (.Tuple es k pos) L (gT n b) := cG_tup hc hb (asg_len.trans hn) (asg_star h)
theorem kGs {o i : Expr} {mo mi : ME} {pos : Pos} (hu : X.A.units + 1 < cLine) (ho : CE X o mo) (hi : CE X i mi) (h : nSl i = true := by rfl) : CG X (.Subscript o i pos) [] (gSubM mo mi setSeq) := cG_sub (PSet.or set_list (set_dict hu)) setS_A ho hi (asg_sub h)
theorem kFor {tg iter : Expr} {body : List Stmt} {it : MI} {g : MG} {b : MS} {L : List Nat} {pos : Pos} (hp : PassesOwn (model X.prog X.w) X.A X.env X.xe) (hc : X.calm = true) (hi : CI X tg iter it) (hg : CG X tg L g) (hb : CSs X body b) (h : nSet iter = true := by rfl) : CS X (.For tg iter body [] pos) (mFor it g b) :=
  cS_for hp hc hi hg hb (fold_no h)
theorem kR1 {tg a : Expr} {m : MA} {p pos : Pos} (hm : X.mg "range" = none) (ha : CA X [a] m) (hg : Gl X "range" := by rfl) (h : nS a = true := by rfl) : CI X tg (.Call (.Name "range" p) [a] [] pos) (mR1 m) := cI_r1 hg hm ha (by rw [star_cons h]; simp only [starEach])
theorem kR2 {tg a b : Expr} {m : MA} {p pos : Pos} (hm : X.mg "range" = none) (ha : CA X [a, b] m) (hg : Gl X "range" := by rfl) (h : nSs [a, b] = true := by rfl) : CI X tg (.Call (.Name "range" p) [a, b] [] pos) (mR2 m) :=
  cI_r2 hg hm ha (by rw [star_cons (nSs_cons h).1, star_cons (nSs_cons (nSs_cons h).2).1]; simp only [starEach]) (by rw [star_cons (nSs_cons (nSs_cons h).2).1]; simp only [starEach])
theorem kEn {e : Expr} {m : MA} {elts : List Expr} {kk : Nat} {p pos tpos : Pos} (hm : X.mg "enumerate" = none) (ha : CA X [e] m) (hg : Gl X "enumerate" := by rfl) (h : nS e = true := by rfl) : CI X (.Tuple elts kk tpos) (.Call (.Name "enumerate" p) [e] [] pos) (mEn m) := cI_en hg hm ha (by rw [star_cons h]; simp only [starEach])
theorem kLc {elt tg iter : Expr} {ifs : List Expr} {scope : Scope} {own : List (Str × Nat)} {pos : Pos} {it : MI} {g : MG} {t : MT} {me : ME} {L : List Nat} (hc : X.calm = true) (hN : X.N.Nodup) (hi : CI X tg iter it) (ok : blkC X.N X.env.scope scope own = true)
    (hL : ∀ i ∈ L, i ∈ own.map (·.2)) (hg : ∀ s H C cl fp, CG (bX X scope s H C cl fp) tg L g) (ht : ∀ s H C cl fp, CTs (bX X scope s H C cl fp) ifs t) (he : ∀ s H C cl fp, PL.CE (bX X scope s H C cl fp) elt me)
    (h : nSet iter = true := by rfl) : PL.CE X (.ListComp elt [⟨tg, iter, ifs, 0⟩] scope pos) (mLc it g t me (own.map (·.2))) := cE_lc hc hN hi (blkOk_by ok) hL hg ht he (fold_no h)
theorem kSetLc {i : Nat} {y : Str} {py : Pos} {elt tg iter : Expr} {ifs : List Expr} {scope : Scope} {own : List (Str × Nat)} {pos spos : Pos} {it : MI} {g : MG} {t : MT} {me : ME} {L : List Nat} (hc : X.calm = true) (hN : X.N.Nodup) (hy : X.N[i]? = some y) (hyl : X.env.scope.names.lookup y = some .local)
    (hl : (py.line == pos.line) = true) (hown : (scope.names.any fun (n, k) => n == y && (k == .local || k == .cell)) = false) (hk : X.env.scope.kind = .function) (hi : CI X tg iter it) (ok : blkC X.N X.env.scope scope own = true)
    (hL : ∀ i ∈ L, i ∈ own.map (·.2)) (hg : ∀ s H C cl fp, CG (bX X scope s H C cl fp) tg L g) (ht : ∀ s H C cl fp, CTs (bX X scope s H C cl fp) ifs t) (he : ∀ s H C cl fp, PL.CE (bX X scope s H C cl fp) elt me)
    (h : nSet iter = true := by rfl) : CS X (.Assign [.Name y py] (.ListComp elt [⟨tg, iter, ifs, 0⟩] scope pos) spos) (mAsg (mLc it g t me (own.map (·.2))) (gN i)) :=
  cS_setLc hc hN hy hyl (sw_true hk hyl hl hown) hi (blkOk_by ok) hL hg ht he (fold_no h)
end
end PL
end

section
set_option Elab.async false
set_option linter.all false
set_option maxRecDepth 100000
/-! PL8: reversed slices, comprehensions of two fors, of dicts; dicts walked -/
namespace PL
open PySem PySem.Spec PyProof.Rows L2

section
variable {X : Cx}
def revOf : D → Sto → R
  | .ref n, S => (seqAt n S).bind fun xs => newL xs.reverse S
  | _, _ => none
def mRv (m : ME) : ME := fun env S => (m env S).bind fun p => revOf p.1 p.2
theorem cE_rev {e : Expr} {m : ME} {k : Nat} {p1 p2 p3 pos : Pos} (he : CE X e m) : CE X (.Subscript e (.Slice none none (some (.UnaryOp .USub (.Constant (.int 1) k p1) p2)) p3) pos) (mRv m) := by
  refine ⟨?_⟩
  intro env S d S' h r σ H Q A hq
  obtain ⟨⟨x, S1⟩, e1, h⟩ := Option.bind_eq_some_iff.mp h
  have h' : revOf x S1 = some (d, S') := h
  unfold revOf at h'
  split at h'
  · obtain ⟨xs, e2, h'⟩ := Option.bind_eq_some_iff.mp h'
    refine tm_of (pe_revL pe_tm) (he env S _ _ e1 r σ H _ A fun r1 H1 v s1 l1 q1 => ?_)
    cases q1 with
    | ref ea =>
      obtain ⟨vs, h1, l⟩ := seqAt_ok (X := X) s1 ea e2
      refine ⟨_, vs, rfl, h1, fun p np => ?_⟩
      obtain ⟨a1, a2, a3⟩ := newL_ok (X := X) s1 np l.reverse h'
      exact hq _ _ _ a1 (l1.trans a2) a3
  · cases h'

/-! ### two fors -/
def mLc2J (nx : Nxt) (g : MG) (t : MT) (e : ME) (vs1 : List Nat) (n : Nat) : Nat → Nat → Env → Sto → Option Sto
  | 0, _, _, _ => none
  | k + 1, i, env, S => (nx i S).bind fun o => match o with
    | none => some S
    | some d => (g d (wipeE env vs1) S).bind fun p => (t p.1 p.2).bind fun c => if c.1 = true then (e p.1 c.2).bind fun q => match q.2[n]? with
        | some (.lst acc) => if acc.length < sizeLine then mLc2J nx g t e vs1 n k (i + 1) env (q.2.set n (.lst (acc ++ [q.1]))) else none
        | _ => none
      else mLc2J nx g t e vs1 n k (i + 1) env c.2
def mLc2I (nx : Nxt) (g : MG) (t : MT) (it1 : MI) (g1 : MG) (t1 : MT) (e : ME) (vs1 : List Nat) (n : Nat) : Nat → Nat → Env → Sto → Option Sto
  | 0, _, _, _ => none
  | k + 1, i, env, S => (nx i S).bind fun o => match o with
    | none => some S
    | some d => (g d env S).bind fun p => (t p.1 p.2).bind fun c => if c.1 = true then (it1 p.1 c.2).bind fun w => (mLc2J w.1.2 g1 t1 e vs1 n w.1.1 0 p.1 w.2).bind fun S' => mLc2I nx g t it1 g1 t1 e vs1 n k (i + 1) env S'
      else mLc2I nx g t it1 g1 t1 e vs1 n k (i + 1) env c.2
def mLc2 (it : MI) (g : MG) (t : MT) (it1 : MI) (g1 : MG) (t1 : MT) (e : ME) (vs vs1 : List Nat) : ME := fun env S => (it env S).bind fun p => (mLc2I p.1.2 g t it1 g1 t1 e vs1 p.2.length p.1.1 0 (wipeE env vs) (p.2 ++ [.lst []])).bind fun S' => some (.ref p.2.length, S')
def bTI (X : Cx) (sc : Scope) (tg iter : Expr) : TI := fun σ H R => ∀ s H0 C cl fp, ∃ wi, PI (bX X sc s H0 C cl fp) tg iter wi ∧ wi σ H R
theorem cE_lc2 {elt tg iter tg1 iter1 : Expr} {ifs ifs1 : List Expr} {scope : Scope} {own : List (Str × Nat)} {vs1 : List Nat} {pos : Pos} {it it1 : MI} {g g1 : MG} {t t1 : MT} {me : ME} {L L1 : List Nat} (hc : X.calm = true) (hN : X.N.Nodup) (hi : CI X tg iter it) (ok : blkC X.N X.env.scope scope own = true)
    (hv : ∀ i ∈ vs1, i ∈ own.map (·.2)) (hL : ∀ i ∈ L, i ∈ own.map (·.2)) (hL1 : ∀ i ∈ L1, i ∈ vs1) (hg : ∀ s H C cl fp, CG (bX X scope s H C cl fp) tg L g) (ht : ∀ s H C cl fp, CTs (bX X scope s H C cl fp) ifs t)
    (hi1 : ∀ s H C cl fp, CI (bX X scope s H C cl fp) tg1 iter1 it1) (hg1 : ∀ s H C cl fp, CG (bX X scope s H C cl fp) tg1 L1 g1) (ht1 : ∀ s H C cl fp, CTs (bX X scope s H C cl fp) ifs1 t1) (he : ∀ s H C cl fp, CE (bX X scope s H C cl fp) elt me)
    (h0 : nSet iter = true := by rfl) (h1 : nSet iter1 = true := by rfl) : CE X (.ListComp elt [⟨tg, iter, ifs, 0⟩, ⟨tg1, iter1, ifs1, 0⟩] scope pos) (mLc2 it g t it1 g1 t1 me (own.map (·.2)) vs1) := by
  obtain ⟨wi, pw, hi⟩ := hi.run
  refine ⟨?_⟩
  intro env S d S' h r σ H Q A hq
  refine tm_of (pe_lc2 (own := own) (vs1 := vs1) (g := bTG X scope tg) (tt := bTT X scope ifs) (wi1 := bTI X scope tg1 iter1) (g1 := bTG X scope tg1) (tt1 := bTT X scope ifs1) (te := bTE X scope elt) hc hN pw (blkOk_by ok) hv
    (fun s H C cl fp => ⟨fun pins s' σ H v u Q I rv q => q _ _ _ _ _ pins s' u I rv⟩) (fun s H C cl fp => ⟨fun pins s' σ H Q I q => pts_tm.run pins s' σ H Q I (q _ _ _ _ _)⟩) (fun s2 H2 C cl fp => ⟨fun pins s' σ H R I q => let ⟨_, pw, z⟩ := q s2 H2 C cl fp; pw.run pins s' σ H R I z⟩)
    (fun s H C cl fp => ⟨fun pins s' σ H v u Q I rv q => q _ _ _ _ _ pins s' u I rv⟩) (fun s H C cl fp => ⟨fun pins s' σ H Q I q => pts_tm.run pins s' σ H Q I (q _ _ _ _ _)⟩) (fun s H C cl fp => ⟨fun pins s' σ H Q I q => q _ _ _ _ _ pins s' I⟩) (fold_no h0) (fun _ => fold_no h1)) ?_
  obtain ⟨⟨⟨k, nx⟩, S0⟩, e0, h⟩ := Option.bind_eq_some_iff.mp h
  obtain ⟨Sf, e1, h⟩ := Option.bind_eq_some_iff.mp h
  cases h
  refine hi env S k nx S0 e0 r σ H _ A fun r0 H0 J s0 l0 okJ p np => ?_
  obtain ⟨s1, l1, q1⟩ := newL_ok (X := X) (d := .ref S0.length) s0 np .nil rfl
  have pn : (r0 ++ [p])[S0.length]? = some p := new_at s0
  refine ⟨fun i m H1 => ∃ r1 S1, Sim X.K X.mg r1 S1 H1 ∧ Lat (r0 ++ [p]) (upd H0 p (.lst [])) r1 H1 ∧ mLc2I nx g t it1 g1 t1 me vs1 S0.length m i (wipeE env (own.map (·.2))) S1 = some S', ⟨k, r0 ++ [p], _, s1, .refl, e1⟩, ?_⟩
  rintro i m H1 ⟨r1, S1, s2, l2, z1⟩
  have l02 : Lat r0 H0 r1 H1 := l1.trans l2
  cases m with
  | zero => cases z1
  | succ m =>
    obtain ⟨o, e2, z1⟩ := Option.bind_eq_some_iff.mp z1
    cases o with
    | none =>
      cases z1
      exact .inl ⟨okJ.stop i _ r1 H1 s2 l02 e2, hq r1 H1 _ s2 (l0.trans l02) (.ref (l2.pre _ _ pn))⟩
    | some d1 =>
      refine .inr ⟨okJ.go i S1 r1 H1 d1 s2 l02 e2, fun H' => ∃ m', m' < m + 1 ∧ ∃ r1 S1, Sim X.K X.mg r1 S1 H' ∧ Lat (r0 ++ [p]) (upd H0 p (.lst [])) r1 H' ∧ mLc2I nx g t it1 g1 t1 me vs1 S0.length m' (i + 1) (wipeE env (own.map (·.2))) S1 = some S', fun H' z => z, fun x H' y => ?_⟩
      obtain ⟨s3, l3, q3⟩ := okJ.yld i S1 r1 H1 d1 x H' s2 l02 e2 y
      obtain ⟨⟨env4, S4⟩, e4, z1⟩ := Option.bind_eq_some_iff.mp z1
      obtain ⟨⟨c, S5⟩, e5, z1⟩ := Option.bind_eq_some_iff.mp z1
      have A3 : At X r1 (wipeE env (own.map (·.2))) S1 (wipe σ (own.map (·.2))) H' := ⟨s3, (A.env.lat ((l0.trans l02).trans l3)).wipe _⟩
      intro bs bH bC bcl bfp
      refine (hg bs bH bC bcl bfp).run d1 _ S1 env4 S4 e4 r1 _ H' x _ ⟨A3.sim, A3.env⟩ q3 fun r4 σ4 H4 A4 l4 w4 => ⟨?_, ?_⟩
      · rw [w4 _ hL, wipe_wipe]
      · intro bs bH bC bcl bfp
        refine (ht bs bH bC bcl bfp).run env4 S4 c S5 e5 r4 σ4 H4 _ ⟨A4.sim, A4.env⟩ fun r5 H5 s5 l5 => ?_
        have l25 := ((l2.trans l3).trans l4).trans l5
        cases c with
        | false => exact iteF ⟨m, Nat.lt_succ_self m, r5, S5, s5, l25, z1⟩
        | true =>
          refine iteT ?_
          obtain ⟨⟨⟨k1, nx1⟩, S6⟩, e6, z1⟩ := Option.bind_eq_some_iff.mp z1
          obtain ⟨S7, e7, z1⟩ := Option.bind_eq_some_iff.mp z1
          intro bs bH bC bcl bfp
          obtain ⟨wi1, pw1, hi1'⟩ := (hi1 bs bH bC bcl bfp).run
          refine ⟨wi1, pw1, hi1' env4 S5 k1 nx1 S6 e6 r5 σ4 H5 _ ⟨s5, A4.env.lat l5⟩ fun r6 H6 J1 s6 l6 ok1 => ?_⟩
          have l26 := l25.trans l6
          refine ⟨fun j k H' => ∃ r7 S8, Sim X.K X.mg r7 S8 H' ∧ Lat r6 H6 r7 H' ∧ mLc2J nx1 g1 t1 me vs1 S0.length k j env4 S8 = some S7, ⟨k1, r6, S6, s6, .refl, e7⟩, ?_⟩
          rintro j k2 H7 ⟨r7, S8, s7, l7, z2⟩
          cases k2 with
          | zero => cases z2
          | succ k2 =>
            obtain ⟨o2, e8, z2⟩ := Option.bind_eq_some_iff.mp z2
            cases o2 with
            | none =>
              cases z2
              exact .inl ⟨ok1.stop j _ r7 H7 s7 l7 e8, m, Nat.lt_succ_self m, r7, _, s7, l26.trans l7, z1⟩
            | some d9 =>
              refine .inr ⟨ok1.go j S8 r7 H7 d9 s7 l7 e8, fun H' => ∃ k', k' < k2 + 1 ∧ ∃ r7 S8, Sim X.K X.mg r7 S8 H' ∧ Lat r6 H6 r7 H' ∧ mLc2J nx1 g1 t1 me vs1 S0.length k' (j + 1) env4 S8 = some S7, fun H' z => z, fun x2 H8 y2 => ?_⟩
              obtain ⟨s8, l8, q8⟩ := ok1.yld j S8 r7 H7 d9 x2 H8 s7 l7 e8 y2
              obtain ⟨⟨env9, S9⟩, e9, z2⟩ := Option.bind_eq_some_iff.mp z2
              obtain ⟨⟨c2, S10⟩, e10, z2⟩ := Option.bind_eq_some_iff.mp z2
              intro bs bH bC bcl bfp
              have E4 := (A4.env.lat (((l5.trans l6).trans l7).trans l8)).wipe vs1
              refine (hg1 bs bH bC bcl bfp).run d9 (wipeE env4 vs1) S8 env9 S9 e9 r7 (wipe σ4 vs1) H8 x2 _ ⟨s8, E4⟩ q8 fun r9 σ9 H9 A9 l9 w9 => ⟨?_, ?_⟩
              · rw [w9 _ hL1, wipe_wipe]
              · intro bs bH bC bcl bfp
                refine (ht1 bs bH bC bcl bfp).run env9 S9 c2 S10 e10 r9 σ9 H9 _ ⟨A9.sim, A9.env⟩ fun r10 H10 s10 l10 => ?_
                have l610 := ((l7.trans l8).trans l9).trans l10
                cases c2 with
                | false => exact iteF ⟨k2, Nat.lt_succ_self k2, r10, S10, s10, l610, z2⟩
                | true =>
                  refine iteT ?_
                  obtain ⟨⟨d11, S11⟩, e11, z2⟩ := Option.bind_eq_some_iff.mp z2
                  intro bs bH bC bcl bfp
                  refine (he bs bH bC bcl bfp).run env9 S10 d11 S11 e11 r10 σ9 H10 _ ⟨s10, A9.env.lat l10⟩ fun r11 H11 v s11 l11 q11 => ?_
                  split at z2
                  · rename_i acc ea
                    have hp : r11[S0.length]? = some p := l11.pre _ _ (l610.pre _ _ (l26.pre _ _ pn))
                    obtain ⟨ws, e12, q12⟩ := s11.ob _ _ p ea hp
                    split at z2
                    · rename_i hz
                      have qn : RepL X.K X.mg r11 H11 (acc ++ [d11]) (ws ++ [v]) := q12.append (.cons q11 .nil)
                      have L12 : Lat r11 H11 r11 (upd H11 p (.lst (ws ++ [v]))) := lat_upd e12 trivial
                      obtain ⟨s13, l13⟩ := s11.put (o' := .lst (acc ++ [d11])) (v := .lst (ws ++ [v])) ea hp rfl rfl ⟨_, upd_same, qn.lat L12⟩
                      exact ⟨ws, e12, by rw [← q12.length]; exact hz, k2, Nat.lt_succ_self k2, r11, _, s13, (l610.trans l11).trans l13, z2⟩
                    · cases z2
                  · cases z2
/-! ### {k: v for ..} -/
def mDcL (nx : Nxt) (g : MG) (t : MT) (e f : ME) (n : Nat) : Nat → Nat → Env → Sto → Option Sto
  | 0, _, _, _ => none
  | k + 1, i, env, S => (nx i S).bind fun o => match o with
    | none => some S
    | some d => (g d env S).bind fun p => (t p.1 p.2).bind fun c => if c.1 = true then (e p.1 c.2).bind fun q => (f p.1 q.2).bind fun u => match u.2[n]? with
        | some (.dK kvs) => (keyD q.1).bind fun key => if kvs.length < sizeLine then mDcL nx g t e f n k (i + 1) env (u.2.set n (.dK (putD kvs key u.1))) else none
        | _ => none
      else mDcL nx g t e f n k (i + 1) env c.2
def mDc (it : MI) (g : MG) (t : MT) (e f : ME) (vs : List Nat) : ME := fun env S => (it env S).bind fun p => (mDcL p.1.2 g t e f p.2.length p.1.1 0 (wipeE env vs) (p.2 ++ [.dK []])).bind fun S' => some (.ref p.2.length, S')
theorem cE_dc {kx vx tg iter : Expr} {ifs : List Expr} {scope : Scope} {own : List (Str × Nat)} {pos : Pos} {it : MI} {g : MG} {t : MT} {mk mv : ME} {L : List Nat} (hc : X.calm = true) (hN : X.N.Nodup) (hi : CI X tg iter it) (ok : blkC X.N X.env.scope scope own = true)
    (hL : ∀ i ∈ L, i ∈ own.map (·.2)) (hg : ∀ s H C cl fp, CG (bX X scope s H C cl fp) tg L g) (ht : ∀ s H C cl fp, CTs (bX X scope s H C cl fp) ifs t) (hk : ∀ s H C cl fp, CE (bX X scope s H C cl fp) kx mk) (hv : ∀ s H C cl fp, CE (bX X scope s H C cl fp) vx mv)
    (h0 : nSet iter = true := by rfl) : CE X (.DictComp kx vx [⟨tg, iter, ifs, 0⟩] scope pos) (mDc it g t mk mv (own.map (·.2))) := by
  obtain ⟨wi, pw, hi⟩ := hi.run
  refine ⟨?_⟩
  intro env S d S' h r σ H Q A hq
  refine tm_of (pe_dc (own := own) (g := bTG X scope tg) (tt := bTT X scope ifs) (tk := bTE X scope kx) (tv := bTE X scope vx) hc hN pw (blkOk_by ok)
    (fun s H C cl fp => ⟨fun pins s' σ H v u Q I rv q => q _ _ _ _ _ pins s' u I rv⟩) (fun s H C cl fp => ⟨fun pins s' σ H Q I q => pts_tm.run pins s' σ H Q I (q _ _ _ _ _)⟩) (fun s H C cl fp => ⟨fun pins s' σ H Q I q => q _ _ _ _ _ pins s' I⟩) (fun s H C cl fp => ⟨fun pins s' σ H Q I q => q _ _ _ _ _ pins s' I⟩) (fold_no h0)) ?_
  obtain ⟨⟨⟨k, nx⟩, S0⟩, e0, h⟩ := Option.bind_eq_some_iff.mp h
  obtain ⟨Sf, e1, h⟩ := Option.bind_eq_some_iff.mp h
  cases h
  refine hi env S k nx S0 e0 r σ H _ A fun r0 H0 J s0 l0 okJ p np => ?_
  have s1 : Sim X.K X.mg (r0 ++ [p]) (S0 ++ [.dK []]) (upd H0 p (.dK [])) := s0.new np ⟨[], upd_same, .nil⟩
  have l1 : Lat r0 H0 (r0 ++ [p]) (upd H0 p (.dK [])) := lat_new np
  have pn : (r0 ++ [p])[S0.length]? = some p := new_at s0
  refine ⟨fun i m H1 => ∃ r1 S1, Sim X.K X.mg r1 S1 H1 ∧ Lat (r0 ++ [p]) (upd H0 p (.dK [])) r1 H1 ∧ mDcL nx g t mk mv S0.length m i (wipeE env (own.map (·.2))) S1 = some S', ⟨k, r0 ++ [p], _, s1, .refl, e1⟩, ?_⟩
  rintro i m H1 ⟨r1, S1, s2, l2, z1⟩
  have l02 : Lat r0 H0 r1 H1 := l1.trans l2
  cases m with
  | zero => cases z1
  | succ m =>
    obtain ⟨o, e2, z1⟩ := Option.bind_eq_some_iff.mp z1
    cases o with
    | none =>
      cases z1
      exact .inl ⟨okJ.stop i _ r1 H1 s2 l02 e2, hq r1 H1 _ s2 (l0.trans l02) (.ref (l2.pre _ _ pn))⟩
    | some d1 =>
      refine .inr ⟨okJ.go i S1 r1 H1 d1 s2 l02 e2, fun H' => ∃ m', m' < m + 1 ∧ ∃ r1 S1, Sim X.K X.mg r1 S1 H' ∧ Lat (r0 ++ [p]) (upd H0 p (.dK [])) r1 H' ∧ mDcL nx g t mk mv S0.length m' (i + 1) (wipeE env (own.map (·.2))) S1 = some S', fun H' z => z, fun x H' y => ?_⟩
      obtain ⟨s3, l3, q3⟩ := okJ.yld i S1 r1 H1 d1 x H' s2 l02 e2 y
      obtain ⟨⟨env4, S4⟩, e4, z1⟩ := Option.bind_eq_some_iff.mp z1
      obtain ⟨⟨c, S5⟩, e5, z1⟩ := Option.bind_eq_some_iff.mp z1
      have A3 : At X r1 (wipeE env (own.map (·.2))) S1 (wipe σ (own.map (·.2))) H' := ⟨s3, (A.env.lat ((l0.trans l02).trans l3)).wipe _⟩
      intro bs bH bC bcl bfp
      refine (hg bs bH bC bcl bfp).run d1 _ S1 env4 S4 e4 r1 _ H' x _ ⟨A3.sim, A3.env⟩ q3 fun r4 σ4 H4 A4 l4 w4 => ⟨?_, ?_⟩
      · rw [w4 _ hL, wipe_wipe]
      · intro bs bH bC bcl bfp
        refine (ht bs bH bC bcl bfp).run env4 S4 c S5 e5 r4 σ4 H4 _ ⟨A4.sim, A4.env⟩ fun r5 H5 s5 l5 => ?_
        have l25 := ((l2.trans l3).trans l4).trans l5
        cases c with
        | false => exact iteF ⟨m, Nat.lt_succ_self m, r5, S5, s5, l25, z1⟩
        | true =>
          refine iteT ?_
          obtain ⟨⟨d6, S6⟩, e6, z1⟩ := Option.bind_eq_some_iff.mp z1
          obtain ⟨⟨d7, S7⟩, e7, z1⟩ := Option.bind_eq_some_iff.mp z1
          intro bs bH bC bcl bfp
          refine (hk bs bH bC bcl bfp).run env4 S5 d6 S6 e6 r5 σ4 H5 _ ⟨s5, A4.env.lat l5⟩ fun r6 H6 v6 s6 l6 q6 => ?_
          intro bs bH bC bcl bfp
          refine (hv bs bH bC bcl bfp).run env4 S6 d7 S7 e7 r6 σ4 H6 _ ⟨s6, (A4.env.lat l5).lat l6⟩ fun r7 H7 v7 s7 l7 q7 => ?_
          have l27 := (l25.trans l6).trans l7
          split at z1
          · rename_i kvs ea
            obtain ⟨key, e8, z1⟩ := Option.bind_eq_some_iff.mp z1
            have hp7 : r7[S0.length]? = some p := l27.pre _ _ pn
            obtain ⟨ws, e9, q9⟩ := s7.ob _ _ p ea hp7
            split at z1
            · rename_i hz
              obtain ⟨s10, l10⟩ := dkput (X := X) (k := key) s7 ea hp7 e9 q9 q7
              exact ⟨ws, key, keyD_ok q6 e8, e9, by rw [← Paired.len q9]; exact hz, m, Nat.lt_succ_self m, r7, _, s10, l27.trans l10, z1⟩
            · cases z1
          · cases z1
end
end PL
end

section
set_option Elab.async false
set_option linter.all false
set_option maxRecDepth 100000
/-! PL9: sorted lists of data of one kind, isinstance, all, items and values of dicts, pairs side by side -/
namespace PL
open PySem PySem.Spec PyProof.Rows L2

section
variable {X : Cx}
/-- what is sorted: an item, what it is, what it reads as -/
abbrev Tri := D × V × PyData
def leT : Tri → Tri → Bool := PySem.W.dataLe false fun t => t.2.2
def leD : D × PyData → D × PyData → Bool := PySem.W.dataLe false fun t => t.2
def rSortD (K : PySem.W.Frag) : List V → Hp → VK → Prop := fun vs H Q => ∃ a, ∃ ts : List Tri, vs = [.ref a] ∧ SqL K H a (ts.map fun t => t.2.1) ∧
  (∀ t ∈ ts, Dp K H t.2.1 t.2.2) ∧ PySem.W.AllAlike (ts.map fun t => t.2.2) ∧ PySem.W.Sortable (ts.map fun t => t.2.2) ∧ ts.length ≤ sizeLine ∧ (∀ t ∈ ts, t.2.2.depth ≤ 60) ∧
  ∀ p, H p = none → Q (.ref p) (upd H p (.lst ((ts.mergeSort leT).map fun t => t.2.1)))
theorem eachR {ts : List Tri} : ∀ {us : List Value}, Vals (ts.map fun t => t.2.1) us → PySem.W.EachIs (fun v (t : Tri) => RelV t.2.1 v) us ts := by
  induction ts with
  | nil => intro us h; cases h; exact .nil
  | cons t ts ih => intro us h; cases h with | cons h1 h2 => exact .cons h1 (ih h2)
theorem eachV {ts : List Tri} : ∀ {us : List Value}, PySem.W.EachIs (fun v (t : Tri) => RelV t.2.1 v) us ts → Vals (ts.map fun t => t.2.1) us := by
  induction ts with
  | nil => intro us h; cases h; exact .nil
  | cons t ts ih => intro us h; cases h with | cons h1 h2 => exact .cons h1 (ih h2)
theorem eachReads {pins : List (Addr × Obj)} {σ : L2.St} {H : Hp} {s : Shared} (I : L2.Inv X pins σ H s) {ts : List Tri} : ∀ {us : List Value}, Vals (ts.map fun t => t.2.1) us → (∀ t ∈ ts, Dp X.K H t.2.1 t.2.2) → PySem.W.EachIs (fun v (t : Tri) => ∃ as, Reads s.heap v t.2.2 as) us ts := by
  induction ts with
  | nil => intro us h _; cases h; exact .nil
  | cons t ts ih => intro us h hd; cases h with
    | cons h1 h2 => exact .cons (Dp.reads I _ _ _ (hd t (by simp)) h1) (ih h2 fun t' ht => hd t' (by simp [ht]))
theorem callR_sorted (hu : X.A.units + 64 < cLine) : CallR X (.builtin "sorted") (rSortD X.K) := by
  intro pins s σ H vs us Q I rv h
  obtain ⟨a, ts, rfl, hs, hd, al, so, hl, dp, q⟩ := h
  cases rv with
  | cons r1 r2 =>
    cases r2
    cases r1
    obtain ⟨its, hv, pl, ll⟩ := I.list hs
    obtain ⟨m, F⟩ := I.fr
    refine PySem.W.sorted_data (bs := ts) (enc := fun t => t.2.2) (R := fun v t => RelV t.2.1 v) (PlainL.isList pl) (eachR hv) (eachReads I hv hd) al so hl (fun b hb => by have := dp b hb; omega) ?_
    intro out lo ei
    have kp : ∀ (b : Addr) (o : Obj), s.heap.get? b = some o → (sortedAll s.heap its out.toArray).get? b = some o := fun x x_1 => sortedAll_old
    obtain ⟨c, hc⟩ := sortedAll_at s.heap its out.toArray
    have lp : (ts.mergeSort leT).length = ts.length := List.length_mergeSort _
    refine ⟨.ref (s.heap.objs.size + 1), _, ?_, rfl, q _ (I.hok.fresh (Nat.le_succ _))⟩
    refine I.laid kp (Nat.le_succ _) ?_
    exact ⟨by simpa [lp] using hl, out, c, eachV ei, hc⟩

def alikeB (ps : List PyData) : Bool := ps.all fun a => ps.all fun b => PySem.W.alike a b
def isTupB : PyData → Bool
  | .tuple (_ :: _) => true
  | _ => false
def isFlatB : PyData → Bool
  | .tuple _ => false
  | .none => false
  | _ => true
def sortB (ps : List PyData) : Bool := alikeB ps && (ps.all isTupB || ps.all isFlatB) && decide (ps.length ≤ sizeLine) && ps.all fun p => decide (p.depth ≤ 60)
def sortedD (xs : List D) (ps : List PyData) : List D := ((xs.zip ps).mergeSort leD).map (·.1)
def sortOf (xs : List D) (S : Sto) : R := (pyDs xs).bind fun ps => if sortB ps = true then newL (sortedD xs ps) S else none
def gSorted : List D → Sto → R
  | [.ref n], S => (seqAt n S).bind fun xs => sortOf xs S
  | _, _ => none
theorem sortB_ok {ps : List PyData} (h : sortB ps = true) : PySem.W.AllAlike ps ∧ PySem.W.Sortable ps ∧ ps.length ≤ sizeLine ∧ ∀ p ∈ ps, p.depth ≤ 60 := by
  unfold sortB alikeB at h
  simp only [Bool.and_eq_true, Bool.or_eq_true, List.all_eq_true, decide_eq_true_eq] at h
  obtain ⟨⟨⟨h1, h2⟩, h3⟩, h4⟩ := h
  refine ⟨fun d hd d' hd' => h1 d hd d' hd', ?_, h3, h4⟩
  rcases h2 with h2 | h2
  · refine .inl fun d hd => ?_
    have := h2 d hd
    unfold isTupB at this
    split at this
    · exact ⟨_, _, rfl⟩
    · cases this
  · refine .inr fun d hd => ?_
    have := h2 d hd
    unfold isFlatB at this
    split at this
    · cases this
    · cases this
    · rename_i n1 n2
      exact ⟨fun e => n2 e, fun xs e => n1 xs e⟩
def tri : List D → List V → List PyData → List Tri
  | d :: ds, v :: vs, p :: ps => (d, v, p) :: tri ds vs ps
  | _, _, _ => []
theorem tri_ok {K : PySem.W.Frag} {mg : Str → Option Value} {r : List Addr} {H : Hp} : ∀ {ds : List D} {vs : List V} {ps : List PyData}, RepL K mg r H ds vs → pyDs ds = some ps →
    (tri ds vs ps).map (fun t => t.2.1) = vs ∧ (tri ds vs ps).map (fun t => t.2.2) = ps ∧ (tri ds vs ps).map (fun t => (t.1, t.2.2)) = ds.zip ps ∧ ∀ t ∈ tri ds vs ps, RepV K mg r H t.1 t.2.1 ∧ Dp K H t.2.1 t.2.2
  | [], _, _, q, h => by cases q; simp [pyDs] at h; subst h; simp [tri]
  | d :: ds, _, _, q, h => by
    cases q with
    | cons q1 q2 =>
      simp only [pyDs] at h
      obtain ⟨a, e1, h⟩ := Option.bind_eq_some_iff.mp h
      obtain ⟨as, e2, e3⟩ := Option.map_eq_some_iff.mp h
      subst e3
      obtain ⟨a1, a2, a3, a4⟩ := tri_ok q2 e2
      refine ⟨by simp [tri, a1], by simp [tri, a2], by simp [tri, a3], ?_⟩
      intro t ht
      simp only [tri, List.mem_cons] at ht
      rcases ht with rfl | ht
      · exact ⟨q1, pyD_ok q1 e1⟩
      · exact a4 t ht
theorem repL_of {K : PySem.W.Frag} {mg : Str → Option Value} {r : List Addr} {H : Hp} : ∀ {ts : List Tri}, (∀ t ∈ ts, RepV K mg r H t.1 t.2.1) → RepL K mg r H (ts.map fun t => t.1) (ts.map fun t => t.2.1)
  | [], _ => .nil
  | t :: ts, h => .cons (h t (by simp)) (repL_of fun t' ht => h t' (by simp [ht]))
/-- a list that is sorted: what the rule asks, and the new list -/
theorem sort_ok {r : List Addr} {S S' : Sto} {H : Hp} {xs : List D} {d : D} {vs : List V} {Q : VK} (s : Sim X.K X.mg r S H) (l : RepL X.K X.mg r H xs vs) (e : sortOf xs S = some (d, S')) (hq : ∀ r' H' v, Sim X.K X.mg r' S' H' → Lat r H r' H' → RepV X.K X.mg r' H' d v → Q v H') :
    ∃ ts : List Tri, vs = ts.map (fun t => t.2.1) ∧ (∀ t ∈ ts, Dp X.K H t.2.1 t.2.2) ∧ PySem.W.AllAlike (ts.map fun t => t.2.2) ∧ PySem.W.Sortable (ts.map fun t => t.2.2) ∧ ts.length ≤ sizeLine ∧ (∀ t ∈ ts, t.2.2.depth ≤ 60) ∧
      ∀ p, H p = none → Q (.ref p) (upd H p (.lst ((ts.mergeSort leT).map fun t => t.2.1))) := by
  unfold sortOf at e
  obtain ⟨ps, e1, e⟩ := Option.bind_eq_some_iff.mp e
  split at e
  case isFalse => cases e
  rename_i ok
  obtain ⟨k1, k2, k3, k4⟩ := sortB_ok ok
  obtain ⟨t1, t2, t3, t4⟩ := tri_ok l e1
  refine ⟨tri xs vs ps, t1.symm, fun t ht => (t4 t ht).2, by rw [t2]; exact k1, by rw [t2]; exact k2, by rw [← List.length_map (f := fun t : Tri => t.2.2), t2]; exact k3, fun t ht => k4 _ (by rw [← t2]; exact List.mem_map_of_mem ht), fun p np => ?_⟩
  have hm : sortedD xs ps = ((tri xs vs ps).mergeSort leT).map fun t => t.1 := by
    unfold sortedD
    rw [← t3, ← List.map_mergeSort (r := leT) (f := fun t : Tri => (t.1, t.2.2)) (fun a _ b _ => rfl), List.map_map]
    rfl
  have hr : RepL X.K X.mg r H (sortedD xs ps) (((tri xs vs ps).mergeSort leT).map fun t => t.2.1) := by
    rw [hm]
    exact repL_of fun t ht => (t4 t ((List.mergeSort_perm _ _).mem_iff.mp ht)).1
  obtain ⟨a1, a2, a3⟩ := newL_ok (X := X) s np hr e
  exact hq _ _ _ a1 a2 a3
theorem callS_sorted : CallS X (rSortD X.K) gSorted := by
  intro xs S d S' e r H vs Q s q hq
  unfold gSorted at e
  split at e
  case h_2 => cases e
  obtain ⟨ys, e1, e⟩ := Option.bind_eq_some_iff.mp e
  match vs, q with
  | [v], .cons z .nil =>
    cases z with
    | ref hz =>
      obtain ⟨ws, hs, l⟩ := seqAt_ok (X := X) s hz e1
      obtain ⟨ts, g1, g2⟩ := sort_ok (X := X) (Q := Q) s l e hq
      exact ⟨_, ts, rfl, by rw [← g1]; exact hs, g2⟩

/-! ### all, isinstance -/
def blsOf : List D → Option (List Bool)
  | [] => some []
  | .bl b :: ds => (blsOf ds).map (b :: ·)
  | _ => none
theorem blsOf_ok {K : PySem.W.Frag} {mg : Str → Option Value} {r : List Addr} {H : Hp} : ∀ {ds : List D} {vs : List V} {bs : List Bool}, RepL K mg r H ds vs → blsOf ds = some bs → vs = bs.map V.bl
  | [], _, _, q, h => by cases q; cases h; rfl
  | d :: ds, _, _, q, h => by
    cases q with
    | cons q1 q2 =>
      cases d with
      | bl b =>
        obtain ⟨a, e1, e2⟩ := Option.map_eq_some_iff.mp (show (blsOf ds).map (b :: ·) = _ from h)
        subst e2
        cases q1
        rw [blsOf_ok q2 e1]; rfl
      | _ => cases h
def gAll : List D → Sto → R
  | [.ref n], S => (seqAt n S).bind fun xs => (blsOf xs).bind fun bs => some (.bl (bs.all id), S)
  | _, _ => none
theorem callS_all : CallS X (rAll X.K) gAll := by
  intro xs S d S' e r H vs Q s q hq
  unfold gAll at e
  split at e
  case h_2 => cases e
  obtain ⟨ys, e1, e⟩ := Option.bind_eq_some_iff.mp e
  obtain ⟨bs, e2, e⟩ := Option.bind_eq_some_iff.mp e
  cases e
  match vs, q with
  | [v], .cons z .nil =>
    cases z with
    | ref hz =>
      obtain ⟨ws, hs, l⟩ := seqAt_ok (X := X) s hz e1
      have := blsOf_ok l e2
      subst this
      exact ⟨_, bs, rfl, hs, hq r H _ s .refl (.bl _)⟩
def tyD (S : Sto) : D → Option String
  | .non => some "NoneType"
  | .bl _ => some "bool"
  | .int _ => some "int"
  | .str _ => some "str"
  | .tup _ => some "tuple"
  | .ktup _ => some "tuple"
  | .ref n => match S[n]? with
    | some (.lst _) => some "list"
    | some (.cst _) => some "list"
    | some (.dK _) => some "dict"
    | some (.dT _) => some "dict"
    | _ => none
  | _ => none
theorem tyD_ok {r : List Addr} {S : Sto} {H : Hp} {d : D} {v : V} {t : String} (s : Sim X.K X.mg r S H) (q : RepV X.K X.mg r H d v) (h : tyD S d = some t) : TyX X.K H v (.type t) := by
  cases q with
  | non => cases h; exact .base .non
  | bl b => cases h; exact .base (.bl b)
  | int b => cases h; exact .base (.int b)
  | str b => cases h; exact .base (.str b)
  | ty b => cases h
  | fn b => cases h
  | tup a b => cases h; exact .base (.tup a)
  | ktup a b =>
    cases h
    obtain ⟨o, its, n, a1, a2, _⟩ := a
    exact .kTuple a1 a2
  | ref ea =>
    simp only [tyD] at h
    split at h
    · rename_i ys e
      cases h
      obtain ⟨vs, e1, q⟩ := s.ob _ _ _ e ea
      exact .base (.lst e1)
    · rename_i ys e
      cases h
      obtain ⟨vs, e1, q⟩ := s.ob _ _ _ e ea
      rcases e1 with ⟨o, e1⟩ | ⟨o, its, n, a1, a2, _⟩
      · exact .base (.frz e1)
      · exact .kList a1 a2
    · rename_i ys e
      cases h
      obtain ⟨vs, e1, q⟩ := s.ob _ _ _ e ea
      exact .base (.dK e1)
    · rename_i ys e
      cases h
      obtain ⟨vs, e1, q⟩ := s.ob _ _ _ e ea
      exact .base (.dT e1)
    · cases h
def gIsi : List D → Sto → R
  | [d, .ty u], S => (tyD S d).bind fun t => (kitB t u).bind fun b => some (.bl b, S)
  | _, _ => none
theorem callS_isi : CallS X (rIsi X.K) gIsi := by
  intro xs S d S' e r H vs Q s q hq
  unfold gIsi at e
  split at e
  case h_2 => cases e
  obtain ⟨t, e1, e⟩ := Option.bind_eq_some_iff.mp e
  obtain ⟨b, e2, e⟩ := Option.bind_eq_some_iff.mp e
  cases e
  match vs, q with
  | [v, w], .cons z (.cons z2 .nil) =>
    cases z2
    exact ⟨_, _, _, _, b, rfl, .ty _, tyD_ok s z e1, kit_ty e2, hq r H _ s .refl (.bl _)⟩

/-! ### two lists, two tuples side by side -/
def nxZ (n m : Nat) : Nxt := fun i S => (seqAt n S).bind fun xs => (seqAt m S).bind fun ys => some ((xs[i]?).bind fun x => (ys[i]?).map fun y => .tup [x, y])
def nxZT (xs ys : List D) : Nxt := fun i _ => some ((xs[i]?).bind fun x => (ys[i]?).map fun y => .tup [x, y])
theorem zipNone {α β γ : Type} {xs : List α} {ys : List β} {f : α → β → γ} {i : Nat} (h : ((xs[i]?).bind fun x => (ys[i]?).map fun y => f x y) = none) : xs.length ≤ i ∨ ys.length ≤ i := by
  by_cases hx : xs.length ≤ i
  · exact .inl hx
  · have hx' : i < xs.length := by omega
    rw [List.getElem?_eq_getElem hx'] at h
    exact .inr (List.getElem?_eq_none_iff.mp (Option.map_eq_none_iff.mp h))
theorem itZ {r0 : List Addr} {H0 : Hp} {n m : Nat} {a b : Addr} (ea : r0[n]? = some a) (eb : r0[m]? = some b) : ItOk X (Itz X.K a b) r0 H0 (nxZ n m) where
  stop i S r H s l e := by
    obtain ⟨xs, e1, e⟩ := Option.bind_eq_some_iff.mp e
    obtain ⟨ys, e2, e⟩ := Option.bind_eq_some_iff.mp e
    obtain ⟨vs, h1, q⟩ := seqAt_ok (X := X) s (l.pre _ _ ea) e1
    obtain ⟨ws, h2, q2⟩ := seqAt_ok (X := X) s (l.pre _ _ eb) e2
    exact ⟨vs, ws, h1, h2, by rw [← q.length, ← q2.length]; exact zipNone (Option.some.inj e)⟩
  go i S r H d s l e := by
    obtain ⟨xs, e1, e⟩ := Option.bind_eq_some_iff.mp e
    obtain ⟨ys, e2, e⟩ := Option.bind_eq_some_iff.mp e
    obtain ⟨x, g1, e⟩ := Option.bind_eq_some_iff.mp (Option.some.inj e)
    obtain ⟨y, g2, e⟩ := Option.map_eq_some_iff.mp e
    obtain ⟨vs, h1, q⟩ := seqAt_ok (X := X) s (l.pre _ _ ea) e1
    obtain ⟨ws, h2, q2⟩ := seqAt_ok (X := X) s (l.pre _ _ eb) e2
    obtain ⟨v, k1, _⟩ := q.get g1
    obtain ⟨w, k2, _⟩ := q2.get g2
    exact ⟨vs, ws, v, w, h1, h2, k1, k2⟩
  yld i S r H d x H' s l e y := by
    obtain ⟨xs, e1, e⟩ := Option.bind_eq_some_iff.mp e
    obtain ⟨ys, e2, e⟩ := Option.bind_eq_some_iff.mp e
    obtain ⟨x1, g1, e⟩ := Option.bind_eq_some_iff.mp (Option.some.inj e)
    obtain ⟨y1, g2, e⟩ := Option.map_eq_some_iff.mp e
    obtain ⟨vs, h1, q⟩ := seqAt_ok (X := X) s (l.pre _ _ ea) e1
    obtain ⟨ws, h2, q2⟩ := seqAt_ok (X := X) s (l.pre _ _ eb) e2
    obtain ⟨v, k1, k3⟩ := q.get g1
    obtain ⟨w, k2, k4⟩ := q2.get g2
    obtain ⟨T, z1, z2, rfl, nT, rfl, hx, hy⟩ := y
    have f1 := hx vs h1
    have f2 := hy ws h2
    rw [k1] at f1; rw [k2] at f2
    cases f1; cases f2
    subst e
    exact tup2 s nT k3 k4
theorem itZT {r0 : List Addr} {H0 : Hp} {a b : Addr} {xs ys : List D} {vs ws : List V} (ha : TupAt H0 a vs) (hb : TupAt H0 b ws) (qa : RepL X.K X.mg r0 H0 xs vs) (qb : RepL X.K X.mg r0 H0 ys ws) : ItOk X (RZ.ItzT X.K a b) r0 H0 (nxZT xs ys) where
  stop i S r H s l e := ⟨vs, ws, (ha.lat l).sq, (hb.lat l).sq, by rw [← qa.length, ← qb.length]; exact zipNone (Option.some.inj e)⟩
  go i S r H d s l e := by
    obtain ⟨x, g1, e⟩ := Option.bind_eq_some_iff.mp (Option.some.inj e)
    obtain ⟨y, g2, e⟩ := Option.map_eq_some_iff.mp e
    obtain ⟨v, k1, _⟩ := qa.get g1
    obtain ⟨w, k2, _⟩ := qb.get g2
    exact ⟨vs, ws, v, w, (ha.lat l).sq, (hb.lat l).sq, k1, k2⟩
  yld i S r H d x H' s l e y := by
    obtain ⟨x1, g1, e⟩ := Option.bind_eq_some_iff.mp (Option.some.inj e)
    obtain ⟨y1, g2, e⟩ := Option.map_eq_some_iff.mp e
    obtain ⟨v, k1, k3⟩ := qa.get g1
    obtain ⟨w, k2, k4⟩ := qb.get g2
    obtain ⟨T, z1, z2, rfl, nT, rfl, hx, hy⟩ := y
    have f1 := hx vs (ha.lat l).sq
    have f2 := hy ws (hb.lat l).sq
    rw [k1] at f1; rw [k2] at f2
    cases f1; cases f2
    subst e
    exact tup2 s nT (k3.lat l) (k4.lat l)
def zOf (ds : List D) (S : Sto) : Option ((Nat × Nxt) × Sto) := match ds with
  | [.ref n, .ref m] => (seqAt n S).bind fun xs => (seqAt m S).bind fun ys => some ((min xs.length ys.length + 1, nxZ n m), S)
  | [.tup xs, .tup ys] => some ((min xs.length ys.length + 1, nxZT xs ys), S)
  | _ => none
def mZip (a : MA) : MI := fun env S => (a env S).bind fun p => zOf p.1 p.2
theorem cI_zip {e e2 : Expr} {m : MA} {elts : List Expr} {kk : Nat} {p pos tpos : Pos} (hg : Gl X "zip") (hm : X.mg "zip" = none) (ha : CA X [e, e2] m)
    (hs : starEach [e, e2] X.env = (false, eval e X.env) :: starEach [e2] X.env := by rfl) (hb : ((backTo pos (starEach [e2] X.env)).any fun x => x.1) = false := by rfl) : CI X (.Tuple elts kk tpos) (.Call (.Name "zip" p) [e, e2] [] pos) (mZip m) := by
  refine ⟨_, RZ.pi_zipA hg hm pa_tm hs hb, fun env S k nx S' h r σ H Q A hq => ?_⟩
  obtain ⟨⟨ds, S1⟩, e1, h⟩ := Option.bind_eq_some_iff.mp h
  have h' : zOf ds S1 = some ((k, nx), S') := h
  clear h
  unfold zOf at h'
  split at h'
  · obtain ⟨xs, e2, h'⟩ := Option.bind_eq_some_iff.mp h'
    obtain ⟨ys, e3, h'⟩ := Option.bind_eq_some_iff.mp h'
    cases h'
    refine ha env S _ _ e1 r σ H _ A fun r1 H1 vs s1 l1 q1 => ?_
    match vs, q1 with
    | [v, w], .cons z (.cons z2 .nil) =>
      cases z with
      | ref ea =>
        cases z2 with
        | ref eb =>
          obtain ⟨us, h1, _⟩ := seqAt_ok (X := X) s1 ea e2
          obtain ⟨ws, h2, _⟩ := seqAt_ok (X := X) s1 eb e3
          exact ⟨_, _, us, ws, rfl, .inl ⟨h1, h2, hq r1 H1 _ s1 l1 (itZ ea eb)⟩⟩
  · cases h'
    refine ha env S _ _ e1 r σ H _ A fun r1 H1 vs s1 l1 q1 => ?_
    match vs, q1 with
    | [v, w], .cons z (.cons z2 .nil) =>
      cases z with
      | tup ha' la =>
        cases z2 with
        | tup hb' lb => exact ⟨_, _, _, _, rfl, .inr ⟨ha'.sq, hb'.sq, hq r1 H1 _ s1 l1 (itZT ha' hb' la lb)⟩⟩
  · cases h'
end
end PL
end

section
set_option Elab.async false
set_option linter.all false
set_option maxRecDepth 100000
/-! PL10: dicts that are walked -/
namespace PL
open PySem PySem.Spec PyProof.Rows L2

section
variable {K : PySem.W.Frag} {mg : Str → Option Value}
mutual
theorem RepV.mono {r r' : List Addr} {H H' : Hp} (hp : ∀ (n : Nat) (a : Addr), r[n]? = some a → r'[n]? = some a) (ht : ∀ a xs, H a = some (.tup xs) → H' a = some (.tup xs)) : ∀ {d : D} {v : V}, RepV K mg r H d v → RepV K mg r' H' d v
  | _, _, .non => .non
  | _, _, .bl b => .bl b
  | _, _, .int i => .int i
  | _, _, .str x => .str x
  | _, _, .ty n => .ty n
  | _, _, .tup h q => .tup (ht _ _ h) (RepL.mono hp ht q)
  | _, _, .ktup h q => .ktup h (RepL.mono hp ht q)
  | _, _, .ref h => .ref (hp _ _ h)
  | _, _, .fn h => .fn h
theorem RepL.mono {r r' : List Addr} {H H' : Hp} (hp : ∀ (n : Nat) (a : Addr), r[n]? = some a → r'[n]? = some a) (ht : ∀ a xs, H a = some (.tup xs) → H' a = some (.tup xs)) : ∀ {ds : List D} {vs : List V}, RepL K mg r H ds vs → RepL K mg r' H' ds vs
  | _, _, .nil => .nil
  | _, _, .cons h q => .cons (RepV.mono hp ht h) (RepL.mono hp ht q)
end
theorem RepKs.mono {k : Type} {r : List Addr} {H H' : Hp} (ht : ∀ a xs, H a = some (.tup xs) → H' a = some (.tup xs)) {ks : List (k × D)} {ws : List (k × V)} (h : RepKs K mg r H ks ws) : RepKs K mg r H' ks ws :=
  Paired.mapP h fun _ _ q => ⟨q.1, q.2.mono (fun _ _ e => e) ht⟩
/-- the object at n becomes another one, of the same place; no tuple and no locked list is lost -/
theorem Sim.turn {r : List Addr} {S : Sto} {H : Hp} {a : Addr} {n : Nat} {o o' : Ob} {v : HO} (h : Sim K mg r S H) (eo : S[n]? = some o) (ea : r[n]? = some a) (hm : o.own = true)
    (ht : ∀ b xs, H b = some (.tup xs) → (upd H a v) b = some (.tup xs)) (hc : ∀ b w xs, H b = some (.frz w (.lst xs)) → (upd H a v) b = some (.frz w (.lst xs)))
    (q : RepO K mg r (upd H a v) o' a) : Sim K mg r (S.set n o') (upd H a v) := by
  have hn : n < S.length := (List.getElem?_eq_some_iff.mp eo).1
  have back : ∀ (i : Nat) (w : Ob), (S.set n o')[i]? = some w → (i = n ∧ w = o') ∨ (i ≠ n ∧ S[i]? = some w) := fun i w e => by
    by_cases hi : n = i
    · subst hi
      rw [List.getElem?_set_self hn] at e
      exact .inl ⟨rfl, (Option.some.inj e).symm⟩
    · rw [List.getElem?_set_ne hi] at e
      exact .inr ⟨fun z => hi z.symm, e⟩
  refine ⟨by rw [h.len, List.length_set], fun i j b o1 o2 ei ej e1 e2 m1 m2 => ?_, fun m w b e1 e2 => ?_⟩
  · rcases back i o1 e1 with ⟨i1, i2⟩ | ⟨i1, i2⟩
    · rcases back j o2 e2 with ⟨j1, j2⟩ | ⟨j1, j2⟩
      · rw [i1, j1]
      · exact h.nd i j b o o2 ei ej (by rw [i1]; exact eo) j2 hm m2
    · rcases back j o2 e2 with ⟨j1, j2⟩ | ⟨j1, j2⟩
      · exact h.nd i j b o1 o ei ej i2 (by rw [j1]; exact eo) m1 hm
      · exact h.nd i j b o1 o2 ei ej i2 j2 m1 m2
  · rcases back m w e1 with ⟨i1, i2⟩ | ⟨i1, i2⟩
    · subst i1
      subst i2
      rw [ea] at e2
      cases e2
      exact q
    · have q1 := h.ob m w b i2 e2
      have ne : w.own = true → b ≠ a := fun hw z => by subst z; exact i1 (h.nd m n b w o e2 ea i2 eo hw hm)
      cases w with
      | cst xs =>
        obtain ⟨ws, e, z⟩ := q1
        refine ⟨ws, ?_, z.mono (fun _ _ e => e) ht⟩
        rcases e with ⟨u, e⟩ | e
        · exact .inl ⟨u, hc _ _ _ e⟩
        · exact .inr e
      | lst xs => obtain ⟨ws, e, z⟩ := q1; exact ⟨ws, (upd_ne (ne rfl)).trans e, z.mono (fun _ _ e => e) ht⟩
      | dK xs => obtain ⟨ws, e, z⟩ := q1; exact ⟨ws, (upd_ne (ne rfl)).trans e, RepKs.mono ht z⟩
      | dT xs => obtain ⟨ws, e, z⟩ := q1; exact ⟨ws, (upd_ne (ne rfl)).trans e, RepKs.mono ht z⟩
      | lkK xs => obtain ⟨od, ws, e, z⟩ := q1; exact ⟨od, ws, (upd_ne (ne rfl)).trans e, RepKs.mono ht z⟩
theorem Sim.lock {r : List Addr} {S : Sto} {H : Hp} {a : Addr} {n : Nat} {kvs : List (Key × D)} {ws : List (Key × V)} {od : Obj} (h : Sim K mg r S H) (eo : S[n]? = some (.dK kvs)) (ea : r[n]? = some a) (eu : H a = some (.dK ws)) (q : RepKs K mg r H kvs ws) :
    Sim K mg r (S.set n (.lkK kvs)) (upd H a (.frz od (.dK ws))) ∧ Lat r H r (upd H a (.frz od (.dK ws))) := by
  have L : Lat r H r (upd H a (.frz od (.dK ws))) := lat_upd eu trivial
  exact ⟨h.turn eo ea rfl L.tup (fun b w xs e => L.frz _ _ _ e) ⟨od, ws, upd_same, q.lat L⟩, L⟩
theorem Sim.unlock {r : List Addr} {S : Sto} {H : Hp} {a : Addr} {n : Nat} {kvs : List (Key × D)} {ws : List (Key × V)} {od : Obj} (h : Sim K mg r S H) (eo : S[n]? = some (.lkK kvs)) (ea : r[n]? = some a) (eu : H a = some (.frz od (.dK ws))) :
    Sim K mg r (S.set n (.dK kvs)) (upd H a (.dK ws)) ∧ (∀ b xs, H b = some (.tup xs) → (upd H a (.dK ws)) b = some (.tup xs)) := by
  have ht : ∀ b xs, H b = some (.tup xs) → (upd H a (.dK ws)) b = some (.tup xs) := fun b xs e => by
    have : b ≠ a := fun z => by rw [z, eu] at e; cases e
    rw [upd_ne this]; exact e
  refine ⟨h.turn eo ea rfl ht (fun b w xs e => ?_) ?_, ht⟩
  · have : b ≠ a := fun z => by rw [z, eu] at e; cases e
    rw [upd_ne this]; exact e
  · obtain ⟨od', ws', e, z⟩ := h.ob n _ a eo ea
    rw [eu] at e
    cases e
    exact ⟨ws, upd_same, RepKs.mono ht z⟩
end
section
variable {X : Cx}
def lockAt (i : Nat) (env : Env) (S : Sto) : Option (Nat × List (Key × D)) := match env[i]? with
  | some (some (.ref n)) => match S[n]? with
    | some (.dK kvs) => some (n, kvs)
    | _ => none
  | _ => none
def freeAt (n : Nat) (S : Sto) : Option Sto := match S[n]? with
  | some (.lkK kvs) => some (S.set n (.dK kvs))
  | _ => none
/-- an expression while the dict of a slot is walked -/
def mLockE (i : Nat) (m : ME) : ME := fun env S => (lockAt i env S).bind fun p => (m env (S.set p.1 (.lkK p.2))).bind fun q => (freeAt p.1 q.2).map fun S' => (q.1, S')
theorem cE_lock {e : Expr} {m : ME} (i : Nat) (he : CE X e m) : CE X e (mLockE i m) := ⟨fun env S d S' h r σ H Q A hq => by
  obtain ⟨⟨n, kvs⟩, e1, h⟩ := Option.bind_eq_some_iff.mp h
  obtain ⟨⟨d1, S1⟩, e2, h⟩ := Option.bind_eq_some_iff.mp h
  obtain ⟨S2, e3, h⟩ := Option.map_eq_some_iff.mp h
  cases h
  unfold lockAt at e1
  split at e1
  case h_2 => cases e1
  rename_i m1 ev
  split at e1
  case h_2 => cases e1
  rename_i kvs1 es
  cases e1
  obtain ⟨v, hv0, qv⟩ := A.env.at_ i _ ev
  cases qv with
  | ref ea =>
    rename_i a
    obtain ⟨ws, eu, q⟩ := A.sim.ob _ _ a es ea
    refine tm_of (pe_lock pe_tm) ⟨a, _, eu, trivial, fun od => ?_⟩
    obtain ⟨s1, L1⟩ := A.sim.lock (od := od) es ea eu q
    refine he env _ _ _ e2 r σ _ _ (A.lat s1 L1) fun r' H' w s' l' qw => ?_
    have e4 : H' a = some (.frz od (.dK ws)) := l'.frz _ _ _ upd_same
    refine ⟨e4, ?_⟩
    simp only [freeAt] at e3
    split at e3
    case h_2 => cases e3
    rename_i kvs2 es2
    cases e3
    obtain ⟨s2, ht⟩ := s'.unlock es2 (l'.pre _ _ ea) e4
    refine hq r' _ w s2 ⟨l'.pre, fun b xs e => ht _ _ (l'.tup _ _ (L1.tup _ _ e)), fun b o u e => ?_⟩ (qw.mono (fun _ _ e => e) ht)
    have : b ≠ a := fun z => by rw [z, eu] at e; cases e
    rw [upd_ne this]
    exact l'.frz _ _ _ (L1.frz _ _ _ e)⟩

/-- a statement while the dict of a slot is walked -/
def mLockS (i : Nat) (m : MS) : MS := fun env S => (lockAt i env S).bind fun p => (m env (S.set p.1 (.lkK p.2))).bind fun q => (freeAt p.1 q.2.2).map fun S' => (q.1, q.2.1, S')
theorem cS_lock {st : Stmt} {m : MS} (i : Nat) (he : CS X st m) : CS X st (mLockS i m) := ⟨fun env S f env' S' h r σ H Dn A hq => by
  obtain ⟨⟨n, kvs⟩, e1, h⟩ := Option.bind_eq_some_iff.mp h
  obtain ⟨⟨f1, env1, S1⟩, e2, h⟩ := Option.bind_eq_some_iff.mp h
  obtain ⟨S2, e3, h⟩ := Option.map_eq_some_iff.mp h
  cases h
  unfold lockAt at e1
  split at e1
  case h_2 => cases e1
  rename_i m1 ev
  split at e1
  case h_2 => cases e1
  rename_i kvs1 es
  cases e1
  obtain ⟨v, hv0, qv⟩ := A.env.at_ i _ ev
  cases qv with
  | ref ea =>
    rename_i a
    obtain ⟨ws, eu, q⟩ := A.sim.ob _ _ a es ea
    refine tms_of (ps_lock ps_tm) ⟨a, _, eu, trivial, fun od => ?_⟩
    obtain ⟨s1, L1⟩ := A.sim.lock (od := od) es ea eu q
    simp only [freeAt] at e3
    split at e3
    case h_2 => cases e3
    rename_i kvs2 es2
    cases e3
    have back : ∀ {r' : List Addr} {H' : Hp}, Lat r (upd H a (.frz od (.dK ws))) r' H' → ∀ b o u, H b = some (.frz o u) → (upd H' a (.dK ws)) b = some (.frz o u) := fun l' b o u e => by
      have : b ≠ a := fun z => by rw [z, eu] at e; cases e
      rw [upd_ne this]
      exact l'.frz _ _ _ (L1.frz _ _ _ e)
    refine he env _ _ _ _ e2 r σ _ _ (A.lat s1 L1) ?_
    cases f1 with
    | nx =>
      intro r' σ' H' A' l'
      have e4 : H' a = some (.frz od (.dK ws)) := l'.frz _ _ _ upd_same
      obtain ⟨s2, ht⟩ := A'.sim.unlock es2 (l'.pre _ _ ea) e4
      exact ⟨e4, hq r' σ' _ ⟨s2, ⟨A'.env.len, fun i d e => let ⟨v, e1, q⟩ := A'.env.at_ i d e; ⟨v, e1, q.mono (fun _ _ e => e) ht⟩⟩⟩ ⟨l'.pre, fun b xs e => ht _ _ (l'.tup _ _ (L1.tup _ _ e)), back l'⟩⟩
    | bk =>
      intro r' σ' H' A' l'
      have e4 : H' a = some (.frz od (.dK ws)) := l'.frz _ _ _ upd_same
      obtain ⟨s2, ht⟩ := A'.sim.unlock es2 (l'.pre _ _ ea) e4
      exact ⟨e4, hq r' σ' _ ⟨s2, ⟨A'.env.len, fun i d e => let ⟨v, e1, q⟩ := A'.env.at_ i d e; ⟨v, e1, q.mono (fun _ _ e => e) ht⟩⟩⟩ ⟨l'.pre, fun b xs e => ht _ _ (l'.tup _ _ (L1.tup _ _ e)), back l'⟩⟩
    | ct =>
      intro r' σ' H' A' l'
      have e4 : H' a = some (.frz od (.dK ws)) := l'.frz _ _ _ upd_same
      obtain ⟨s2, ht⟩ := A'.sim.unlock es2 (l'.pre _ _ ea) e4
      exact ⟨e4, hq r' σ' _ ⟨s2, ⟨A'.env.len, fun i d e => let ⟨v, e1, q⟩ := A'.env.at_ i d e; ⟨v, e1, q.mono (fun _ _ e => e) ht⟩⟩⟩ ⟨l'.pre, fun b xs e => ht _ _ (l'.tup _ _ (L1.tup _ _ e)), back l'⟩⟩
    | rt d =>
      intro r' H' w s' l' qw
      have e4 : H' a = some (.frz od (.dK ws)) := l'.frz _ _ _ upd_same
      obtain ⟨s2, ht⟩ := s'.unlock es2 (l'.pre _ _ ea) e4
      exact ⟨e4, hq r' _ w s2 ⟨l'.pre, fun b xs e => ht _ _ (l'.tup _ _ (L1.tup _ _ e)), back l'⟩ (qw.mono (fun _ _ e => e) ht)⟩⟩
/-! what is walked -/
def kD : Key → D
  | .inl i => .int i
  | .inr x => .str x
theorem kD_ok {r : List Addr} {H : Hp} : ∀ k : Key, RepV X.K X.mg r H (kD k) (kV k)
  | .inl i => .int i
  | .inr x => .str x
theorem RepKs.get {k : Type} {r : List Addr} {H : Hp} : ∀ {ks : List (k × D)} {ws : List (k × V)} {i : Nat} {p : k × D}, RepKs X.K X.mg r H ks ws → ks[i]? = some p → ∃ w, ws[i]? = some (p.1, w) ∧ RepV X.K X.mg r H p.2 w
  | _, _, _, _, .nil, e => by simp at e
  | _, _, 0, _, .cons (b := b) h _, e => by
    simp at e; subst e
    obtain ⟨z1, z2⟩ := h
    obtain ⟨b1, b2⟩ := b
    simp only at z1 z2
    subst z1
    exact ⟨_, rfl, z2⟩
  | _, _, i + 1, p, .cons _ q, e => by
    obtain ⟨w, h1, h2⟩ := RepKs.get (i := i) (p := p) q (by simpa using e)
    exact ⟨w, by simpa using h1, h2⟩
theorem itKeys {r0 : List Addr} {H0 : Hp} {d : Addr} {o : Obj} {kvs : List (Key × D)} {ws : List (Key × V)} (h0 : H0 d = some (.frz o (.dK ws))) (q0 : RepKs X.K X.mg r0 H0 kvs ws) : ItOk X (Itk d o ws) r0 H0 (nxT (kvs.map fun p => kD p.1)) where
  stop i S r H s l e := by
    have e' := List.getElem?_eq_none_iff.mp (Option.some.inj e)
    rw [List.length_map, Paired.len q0] at e'
    exact ⟨l.frz _ _ _ h0, e'⟩
  go i S r H x s l e := by
    have e' := (List.getElem?_eq_some_iff.mp (Option.some.inj e)).1
    rw [List.length_map, Paired.len q0] at e'
    exact ⟨l.frz _ _ _ h0, e'⟩
  yld i S r H x v H' s l e y := by
    obtain ⟨rfl, k, w, e1, rfl⟩ := y
    have e2 := Option.some.inj e
    rw [List.getElem?_map] at e2
    obtain ⟨p, e3, e4⟩ := Option.map_eq_some_iff.mp e2
    obtain ⟨w', e5, _⟩ := q0.get e3
    rw [e1] at e5
    cases e5
    subst e4
    exact ⟨s, .refl, kD_ok _⟩
theorem itVals {r0 : List Addr} {H0 : Hp} {d : Addr} {o : Obj} {kvs : List (Key × D)} {ws : List (Key × V)} (h0 : H0 d = some (.frz o (.dK ws))) (q0 : RepKs X.K X.mg r0 H0 kvs ws) : ItOk X (Itd d o ws) r0 H0 (nxT (kvs.map fun p => p.2)) where
  stop i S r H s l e := by
    have e' := List.getElem?_eq_none_iff.mp (Option.some.inj e)
    rw [List.length_map, Paired.len q0] at e'
    exact ⟨l.frz _ _ _ h0, e'⟩
  go i S r H x s l e := by
    have e' := (List.getElem?_eq_some_iff.mp (Option.some.inj e)).1
    rw [List.length_map, Paired.len q0] at e'
    exact ⟨l.frz _ _ _ h0, e'⟩
  yld i S r H x v H' s l e y := by
    obtain ⟨rfl, k, e1⟩ := y
    have e2 := Option.some.inj e
    rw [List.getElem?_map] at e2
    obtain ⟨p, e3, e4⟩ := Option.map_eq_some_iff.mp e2
    obtain ⟨w', e5, q5⟩ := q0.get e3
    rw [e1] at e5
    cases e5
    subst e4
    exact ⟨s, .refl, q5.lat l⟩
theorem itItems {r0 : List Addr} {H0 : Hp} {d : Addr} {o : Obj} {kvs : List (Key × D)} {ws : List (Key × V)} (h0 : H0 d = some (.frz o (.dK ws))) (q0 : RepKs X.K X.mg r0 H0 kvs ws) : ItOk X (Iti d o ws) r0 H0 (nxT (kvs.map fun p => .tup [kD p.1, p.2])) where
  stop i S r H s l e := by
    have e' := List.getElem?_eq_none_iff.mp (Option.some.inj e)
    rw [List.length_map, Paired.len q0] at e'
    exact ⟨l.frz _ _ _ h0, e'⟩
  go i S r H x s l e := by
    have e' := (List.getElem?_eq_some_iff.mp (Option.some.inj e)).1
    rw [List.length_map, Paired.len q0] at e'
    exact ⟨l.frz _ _ _ h0, e'⟩
  yld i S r H x v H' s l e y := by
    obtain ⟨T, k, w, e1, rfl, nT, rfl⟩ := y
    have e2 := Option.some.inj e
    rw [List.getElem?_map] at e2
    obtain ⟨p, e3, e4⟩ := Option.map_eq_some_iff.mp e2
    obtain ⟨w', e5, q5⟩ := q0.get e3
    rw [e1] at e5
    cases e5
    subst e4
    exact tup2 s nT (kD_ok _) (q5.lat l)
def lkOf (d : D) (S : Sto) : Option (List (Key × D)) := match d with
  | .ref n => match S[n]? with
    | some (.lkK kvs) => some kvs
    | _ => none
  | _ => none
theorem lkOf_ok {d : D} {S : Sto} {kvs : List (Key × D)} {r : List Addr} {H : Hp} {v : V} (s : Sim X.K X.mg r S H) (q : RepV X.K X.mg r H d v) (h : lkOf d S = some kvs) : ∃ a o ws, v = .ref a ∧ H a = some (.frz o (.dK ws)) ∧ RepKs X.K X.mg r H kvs ws := by
  unfold lkOf at h
  split at h
  case h_2 => cases h
  split at h
  case h_2 => cases h
  rename_i es
  cases h
  cases q with
  | ref ea =>
    obtain ⟨o, ws, e, z⟩ := s.ob _ _ _ es ea
    exact ⟨_, o, ws, rfl, e, z⟩
def mWalk (f : Key × D → D) (m : ME) : MI := fun env S => (m env S).bind fun p => (lkOf p.1 p.2).map fun kvs => ((kvs.length + 1, nxT (kvs.map f)), p.2)
theorem cI_keys {tg e : Expr} {m : ME} (he : CE X e m) : CI X tg e (mWalk (fun p => kD p.1) m) := by
  refine ⟨_, pi_keys pe_tm, fun env S k nx S' h r σ H Q A hq => ?_⟩
  obtain ⟨⟨d, S1⟩, e1, h⟩ := Option.bind_eq_some_iff.mp h
  obtain ⟨kvs, e2, h⟩ := Option.map_eq_some_iff.mp h
  cases h
  refine he env S _ _ e1 r σ H _ A fun r1 H1 v s1 l1 q1 => ?_
  obtain ⟨a, o, ws, rfl, e3, q3⟩ := lkOf_ok (X := X) s1 q1 e2
  exact ⟨a, o, rfl, .inl ⟨ws, e3, hq r1 H1 _ s1 l1 (itKeys e3 q3)⟩⟩
theorem cI_vals {tg e : Expr} {m : ME} {apos cpos : Pos} (he : CE X e m) (hb : attributeBase e "values" X.env (eval e X.env) = eval e X.env := by rfl) (hl : (apos.endLine == cpos.line) = true := by rfl) : CI X tg (.Call (.Attribute e "values" apos) [] [] cpos) (mWalk (fun p => p.2) m) := by
  refine ⟨_, pi_values pe_tm hb hl, fun env S k nx S' h r σ H Q A hq => ?_⟩
  obtain ⟨⟨d, S1⟩, e1, h⟩ := Option.bind_eq_some_iff.mp h
  obtain ⟨kvs, e2, h⟩ := Option.map_eq_some_iff.mp h
  cases h
  refine he env S _ _ e1 r σ H _ A fun r1 H1 v s1 l1 q1 => ?_
  obtain ⟨a, o, ws, rfl, e3, q3⟩ := lkOf_ok (X := X) s1 q1 e2
  exact ⟨a, o, ws, rfl, e3, hq r1 H1 _ s1 l1 (itVals e3 q3)⟩
theorem cI_items {e : Expr} {m : ME} {apos cpos tpos : Pos} {elts : List Expr} {kk : Nat} (he : CE X e m) (hb : attributeBase e "items" X.env (eval e X.env) = eval e X.env := by rfl) (hl : (apos.endLine == cpos.line) = true := by rfl) : CI X (.Tuple elts kk tpos) (.Call (.Attribute e "items" apos) [] [] cpos) (mWalk (fun p => .tup [kD p.1, p.2]) m) := by
  refine ⟨_, pi_items pe_tm hb hl, fun env S k nx S' h r σ H Q A hq => ?_⟩
  obtain ⟨⟨d, S1⟩, e1, h⟩ := Option.bind_eq_some_iff.mp h
  obtain ⟨kvs, e2, h⟩ := Option.map_eq_some_iff.mp h
  cases h
  refine he env S _ _ e1 r σ H _ A fun r1 H1 v s1 l1 q1 => ?_
  obtain ⟨a, o, ws, rfl, e3, q3⟩ := lkOf_ok (X := X) s1 q1 e2
  exact ⟨a, o, ws, rfl, e3, hq r1 H1 _ s1 l1 (itItems e3 q3)⟩
end
end PL
end

section
set_option Elab.async false
set_option linter.all false
set_option maxRecDepth 100000
/-! PL11: the rules of PL9, PL10 with looks at the outermost sign; dicts from pairs -/
namespace PL
open PySem PySem.Spec PyProof.Rows L2

section
variable {X : Cx}
/-- the name of a built-in type -/
theorem cE_bty {x : Str} {T : String} {pos : Pos} (hm : X.mg x = none) (hv : bootBuiltins x = some (.type T)) (hg : Gl X x := by rfl) (hn : x ≠ "__name__" := by decide) (hd : (x == ("__debug__" : Str)) = false := by decide) : CE X (.Name x pos) (mC (.ty T)) :=
  cE_const (pe_bltn hg hm hv (v := .ty T) rfl hn hd) fun _ _ => .ty T
theorem kZip {e e2 : Expr} {m : MA} {elts : List Expr} {kk : Nat} {p pos tpos : Pos} (hm : X.mg "zip" = none) (ha : CA X [e, e2] m) (hg : Gl X "zip" := by rfl) (h : nSs [e, e2] = true := by rfl) : CI X (.Tuple elts kk tpos) (.Call (.Name "zip" p) [e, e2] [] pos) (mZip m) :=
  cI_zip hg hm ha (star_cons (nSs_cons h).1) (star_plain (nSs_cons h).2)
theorem kVals {tg e : Expr} {m : ME} {apos cpos : Pos} (he : CE X e m) (h : nCall e = true := by rfl) (hl : (apos.endLine == cpos.line) = true := by rfl) : CI X tg (.Call (.Attribute e "values" apos) [] [] cpos) (mWalk (fun p => p.2) m) := cI_vals he (base_no h) hl
theorem kItems {e : Expr} {m : ME} {apos cpos tpos : Pos} {elts : List Expr} {kk : Nat} (he : CE X e m) (h : nCall e = true := by rfl) (hl : (apos.endLine == cpos.line) = true := by rfl) : CI X (.Tuple elts kk tpos) (.Call (.Attribute e "items" apos) [] [] cpos) (mWalk (fun p => .tup [kD p.1, p.2]) m) := cI_items he (base_no h) hl
/-- dict(a list of pairs), keys numbers and texts -/
def pairsD : List D → Option (List (Key × D))
  | [] => some []
  | .tup [k, v] :: ds => (keyD k).bind fun k => (pairsD ds).map ((k, v) :: ·)
  | _ => none
theorem pairsD_ok {r : List Addr} {H : Hp} : ∀ {ds : List D} {vs : List V} {kvs : List (Key × D)}, RepL X.K X.mg r H ds vs → pairsD ds = some kvs →
    ∃ ps ws, vs = ps.map V.ref ∧ Paired (fun p kv => SqT X.K H p [kV kv.1, kv.2]) ps ws ∧ RepKs X.K X.mg r H kvs ws
  | [], _, _, q, h => by cases q; cases h; exact ⟨[], [], rfl, .nil, .nil⟩
  | d :: ds, _, _, q, h => by
    unfold pairsD at h
    split at h
    · cases h; rename_i e; cases e
    · rename_i k v ds' e
      cases e
      obtain ⟨k', e1, h⟩ := Option.bind_eq_some_iff.mp h
      obtain ⟨kvs', e2, h⟩ := Option.map_eq_some_iff.mp h
      subst h
      cases q with
      | cons q1 q2 =>
        cases q1 with
        | tup t l =>
          obtain ⟨ps, ws, g1, g2, g3⟩ := pairsD_ok q2 e2
          subst g1
          match l with
          | .cons l1 (.cons l2 .nil) =>
            have := keyD_ok l1 e1
            subst this
            exact ⟨_ :: ps, (k', _) :: ws, rfl, .cons t.sq g2, .cons ⟨rfl, l2⟩ g3⟩
    · cases h
def gDict : List D → Sto → R
  | [.ref n], S => (seqAt n S).bind fun xs => (pairsD xs).bind fun kvs => some (.ref S.length, S ++ [.dK (mergeD [] kvs)])
  | _, _ => none
def rDictP (K : PySem.W.Frag) : List V → Hp → VK → Prop := fun xs H Q => ∃ a ps kvs, xs = [V.ref a] ∧ SqL K H a (ps.map V.ref) ∧ Paired (fun p kv => SqT K H p [kV kv.1, kv.2]) ps kvs ∧ ∀ (p : Addr), H p = none → Q (.ref p) (upd H p (.dK (mergeK [] kvs)))
theorem callR_dict (hc : X.calm = true) : CallR X (.type "dict") (rDictP X.K) := call_dictP hc
theorem callS_dict : CallS X (rDictP X.K) gDict := by
  intro xs S d S' e r H vs Q s q hq
  unfold gDict at e
  split at e
  case h_2 => cases e
  obtain ⟨ys, e1, e⟩ := Option.bind_eq_some_iff.mp e
  obtain ⟨kvs, e2, e⟩ := Option.bind_eq_some_iff.mp e
  cases e
  match vs, q with
  | [v], .cons z .nil =>
    cases z with
    | ref ea =>
      obtain ⟨ws, hs, l⟩ := seqAt_ok (X := X) s ea e1
      obtain ⟨ps, ws', g1, g2, g3⟩ := pairsD_ok l e2
      subst g1
      refine ⟨_, ps, ws', rfl, hs, g2, fun p np => ?_⟩
      exact hq _ _ _ (s.new np ⟨_, upd_same, (mergeD_ok g3 .nil).lat (lat_new np)⟩) (lat_new np) (.ref (new_at (X := X) s))
end
end PL
end

section
set_option Elab.async false
set_option linter.all false
set_option maxRecDepth 100000
/-! PL12: sets of keys: made of a list, counted, sorted -/
namespace PL
open PySem PySem.Spec PyProof.Rows L2

section
variable {P : Program} {w : World} {Kt : Type} [DecidableEq Kt] {knd : PySem.KeyKind P w Kt} {kf : Value → Kt}
def keysE (kf : Value → Kt) (es : Array (Int × Value)) : List Kt := es.toList.map fun e => kf e.2
/-- a set on the heap: its keys are those of L, at most c -/
def SetX (knd : PySem.KeyKind P w Kt) (kf : Value → Kt) (h : Heap) (a : Addr) (L : List Kt) (c : Nat) : Prop := ∃ o es ep t, h.get? a = some o ∧ o.ExactSet ∧ o.data = Data.set es ep t ∧
  ElemsOf knd es.toList ∧ (keysE kf es).Nodup ∧ (∀ k, k ∈ L ↔ k ∈ keysE kf es) ∧ es.size ≤ c ∧ t.fits es.size = true ∧ Ris t.place.toList ∧ (w.params.followText "set-order" = true ∨ t.led = true)
theorem unit_step {M : Model} {A : Around} {E : Value → Shared → Prop} {s : Shared} {m : Sem Unit} {Q : Unit → Shared → Prop} (hm : ∀ Q' : Unit → Shared → Prop, Q' () s → wpAny M A m Q' E s) (h : Q () s) : wpAny M A m Q E s := hm _ h
theorem tailX {A : Around} {E : Value → Shared → Prop} {s : Shared} {a : Addr} {g : Bool → Sem Unit} (hg : ∀ (b : Bool) (s₁ : Shared) (Q' : Unit → Shared → Prop), Q' () s₁ → wpAny (model P w) A (g b) Q' E s₁)
    {o : Obj} {es : Array (Int × Value)} {ep : Nat} {t : SetTable} (ho : s.heap.get? a = some o) (hex : o.ExactSet) (hd : o.data = Data.set es ep t) {es1 : Array (Int × Value)} {t2 : SetTable} {L : List Kt} {c : Nat} (hel : ElemsOf knd es1.toList) (nd : (keysE kf es1).Nodup)
    (hm : ∀ k, k ∈ L ↔ k ∈ keysE kf es1) (hb : es1.size ≤ c) (hc : c < scanBound) (hf : t2.fits es1.size = true) (hr : Ris t2.place.toList) (hl : w.params.followText "set-order" = true ∨ t2.led = true) {wasDummy : Bool} {R : Option Bool → Shared → Prop}
    (hR : ∀ h' : Heap, Heap.SameBut a s.heap h' → SetX knd kf h' a L c → R (some true) { s with heap := h' }) :
    wpAny (model P w) A (do
      storeSet a es1 t2
      if (!wasDummy && t2.tooFull) = true then do
        g (relayAll t2 es1 (SetTable.grown es1.size)).2.2
        storeSet a (relayAll t2 es1 (SetTable.grown es1.size)).1 (relayAll t2 es1 (SetTable.grown es1.size)).2.1
        pure (some true)
      else pure (some true)) R E s := by
  have hsl : es1.size ≤ sizeLine := by
    have : scanBound ≤ sizeLine := by decide
    omega
  refine wpAny_bind (wpAny_storeSet_of ho hd ?_ hsl)
  have ho1 := store_at (es' := es1) (t' := t2) ho hd
  have sb1 := Heap.SameBut.update s.heap a (Obj.putSet es1 t2)
  by_cases h : (!wasDummy && t2.tooFull) = true
  · rw [if_pos h]
    have pm := relayAll_perm t2 es1 (SetTable.grown es1.size)
    have hf3 := relayAll_fits t2 es1 (SetTable.grown es1.size)
    have hr3 := relayAll_ris t2 es1 (SetTable.grown es1.size)
    have hl3 := relayAll_led t2 es1 (SetTable.grown es1.size)
    revert pm hf3 hr3 hl3
    generalize relayAll t2 es1 (SetTable.grown es1.size) = z
    obtain ⟨es2, t3, gave⟩ := z
    intro pm hf3 hr3 hl3
    have hsz : es2.size = es1.size := by
      have := pm.length_eq
      simpa using this
    refine wpAny_bind (hg _ _ _ (wpAny_bind (wpAny_storeSet_of ho1 rfl ?_ (by show es2.size ≤ sizeLine; rw [hsz]; exact hsl))))
    have ho2 := store_at (es' := es2) (t' := t3) ho1 rfl
    refine wpAny_pure (hR _ (Heap.SameBut.trans sb1 (Heap.SameBut.update _ a (Obj.putSet es2 t3))) ⟨_, es2, _, t3, ho2, hex, rfl, ?_, ?_, ?_, by rw [hsz]; exact hb, hf3, hr3, ?_⟩)
    · exact fun e he => hel e (pm.mem_iff.mp he)
    · exact ((pm.map _).nodup_iff).mpr nd
    · exact fun k => (hm k).trans ((pm.map _).mem_iff).symm
    · exact hl.imp id fun h => hl3.trans h
  · rw [if_neg h]
    exact wpAny_pure (hR _ sb1 ⟨_, es1, _, t2, ho1, hex, rfl, hel, nd, hm, hb, hf, hr, hl⟩)
theorem keys_of (is : ∀ k v, knd.is k v = true → kf v = k) {es : Array (Int × Value)} (hel : ElemsOf knd es.toList) (k : Kt) : k ∈ keysE kf es ↔ ∃ e ∈ es.toList, knd.is k e.2 = true := by
  unfold keysE
  rw [List.mem_map]
  constructor
  · rintro ⟨e, he, rfl⟩
    obtain ⟨⟨k', h1, _⟩, _⟩ := hel e he
    exact ⟨e, he, by rw [is _ _ h1]; exact h1⟩
  · rintro ⟨e, he, h1⟩
    exact ⟨e, he, is _ _ h1⟩
theorem addX (is : ∀ k v, knd.is k v = true → kf v = k) {A : Around} {E : Value → Shared → Prop} {s : Shared} {a : Addr} {L : List Kt} {c : Nat} {k : Kt} {x : Value} {Q : Bool → Shared → Prop} (R : SetX knd kf s.heap a L c) (hk : knd.is k x = true) (hs : x.scannable = true) (hc : c + 1 < scanBound)
    (hQ : ∀ (h' : Heap) (b : Bool), Heap.SameBut a s.heap h' → SetX knd kf h' a (L ++ [k]) (c + 1) → Q b { s with heap := h' }) : wpAny (model P w) A (setAddHashed a x (knd.hash k)) Q E s := by
  obtain ⟨o, es, ep, t, ho, hex, hd, hel, nd, hm, hb, hf, hr, hl⟩ := R
  show wpAny _ _ (holding [x] (setAddHashedIn a x (knd.hash k) (99999 + 1))) Q E s
  refine wpAny_holding ?_
  rw [setAddHashedIn_succ]
  refine wpAny_bind (wpAny_setState_of ho hd hf ?_)
  simp only [byScan_of (knd := knd) hs (show es.size < scanBound by omega) hel, if_true]
  unfold setAddByScan
  refine wpAny_bind (wpAny_bind (wpAny_rule (wpAny_bind (wpAny_setScan_of hk ho hd hf hel ?_))))
  cases hfi : List.findIdx? (fun e => knd.is k e.2) es.toList with
  | some j =>
    obtain ⟨hj, h1, _⟩ := List.findIdx?_eq_some_iff_getElem.mp hfi
    have hmem : k ∈ keysE kf es := (keys_of is hel k).mpr ⟨_, List.getElem_mem hj, h1⟩
    refine wpAny_pure (wpAny_pure (hQ _ _ (Heap.SameBut.refl _ _) ⟨o, es, ep, t, ho, hex, hd, hel, nd, fun k' => ?_, by omega, hf, hr, hl⟩))
    rw [List.mem_append, hm k', List.mem_singleton]
    exact ⟨fun h => h.elim id fun e => e ▸ hmem, .inl⟩
  | none =>
    have hno : k ∉ keysE kf es := fun h => by
      obtain ⟨e, he, h1⟩ := (keys_of is hel k).mp h
      have := (List.findIdx?_eq_none_iff.mp hfi) e he
      rw [h1] at this
      cases this
    have pm := layNew_perm t es (knd.hash k) x
    have hf1 := layNew_fits t es (knd.hash k) x
    have hr1 := layNew_ris t es (knd.hash k) x hr
    have hl1 := layNew_led t es (knd.hash k) x
    revert pm hf1 hr1 hl1
    dsimp only
    generalize layNew t es (knd.hash k) x = z
    obtain ⟨es1, t1, wd, gave⟩ := z
    intro pm hf1 hr1 hl1
    dsimp only at pm hf1 hr1 hl1 ⊢
    have pm' : es1.toList.Perm ((knd.hash k, x) :: es.toList) := pm.trans (by rw [Array.toList_push]; exact List.perm_append_singleton _ _)
    have hsz : es1.size = es.size + 1 := by
      have := pm'.length_eq
      simpa using this
    have hel1 : ElemsOf knd es1.toList := fun e he => by
      rcases List.mem_cons.mp (pm'.mem_iff.mp he) with rfl | he
      · exact ⟨⟨k, hk, rfl⟩, hs⟩
      · exact hel e he
    have pk : (keysE kf es1).Perm (k :: keysE kf es) := by
      have := pm'.map (fun e : Int × Value => kf e.2)
      rw [List.map_cons, is _ _ hk] at this
      exact this
    have nd1 : (keysE kf es1).Nodup := pk.nodup_iff.mpr (List.nodup_cons.mpr ⟨hno, nd⟩)
    have hm1 : ∀ k', k' ∈ L ++ [k] ↔ k' ∈ keysE kf es1 := fun k' => by
      rw [pk.mem_iff, List.mem_append, List.mem_singleton, List.mem_cons, hm k']
      exact or_comm
    refine wpAny_bind ?_
    refine unit_step (fun Q' h => by cases gave <;> first | exact wpAny_rule h | exact wpAny_pure h) ?_
    by_cases hp : t1.plain = true
    · rw [if_pos hp, hashByValue_scannable 8 hs]
      refine wpAny_bind (wpAny_pure ?_)
      generalize plainKind x = bv
      refine tailX (fun b s₁ Q' h => by cases b <;> first | exact wpAny_rule h | exact wpAny_pure h) ho hex hd hel1 nd1 hm1 (c := c + 1) (by omega) hc ?_ ?_ ?_ (fun h' sb R' => wpAny_pure (hQ _ _ sb R'))
      · cases bv <;> exact hf1
      · cases bv <;> exact hr1
      · cases bv <;> exact hl.imp id fun h => hl1.trans h
    · rw [if_neg hp]
      refine wpAny_bind (wpAny_pure ?_)
      exact tailX (fun b s₁ Q' h => by cases b <;> first | exact wpAny_rule h | exact wpAny_pure h) ho hex hd hel1 nd1 hm1 (c := c + 1) (by omega) hc hf1 hr1 (hl.imp id fun h => hl1.trans h) (fun h' sb R' => wpAny_pure (hQ _ _ sb R'))
theorem SetX.at {h h' : Heap} {a : Addr} {L : List Kt} {c : Nat} (R : SetX knd kf h a L c) (hh : ∀ o, h.get? a = some o → h'.get? a = some o) : SetX knd kf h' a L c := by
  obtain ⟨o, es, ep, t, ho, r⟩ := R
  exact ⟨o, es, ep, t, hh o ho, r⟩
theorem loopX (is : ∀ k v, knd.is k v = true → kf v = k) {A : Around} {I : Addr} {fp wr : List Addr} {G : Array GenState → Array GenState → Prop} {n : Nat} {Pv : Nat → Value → Prop} {St : Nat → Shared → Prop} {R : Result → Shared → Prop} (W : WalksS P w A.in1 I fp wr G n Pv St) (S : Addr)
    (hSf : S ∉ fp) (ks : List Kt) (hn : n = ks.length) (hb : ks.length + 1 < scanBound) (hval : ∀ i v, Pv i v → ∃ k, ks[i]? = some k ∧ knd.is k v = true ∧ v.scannable = true) :
    ∀ (k i : Nat) (s : Shared), n - i = k → i ≤ n → St i s → SetX knd kf s.heap S (ks.take i) i →
      (∀ s', Moved (S :: wr) G s s' → SetX knd kf s'.heap S ks n → R (.ok (.ret .none)) s') → codeAny (model P w) A (Code.builtin "set.update.loop" { pos := [.ref S, .ref I] }) R s := by
  have hSw : S ∉ wr := fun h => hSf (W.sub S h)
  have hsub : ∀ b, b ∈ wr → b ∈ S :: wr := fun b hb => List.mem_cons_of_mem S hb
  intro k
  induction k with
  | zero =>
    intro i s hk' hi hst hS hR
    have e : i = n := by omega
    subst e
    refine codeAny_builtin F.entry_set_update_loop ?_
    rw [Around.under_plainId F.plain_set_update_loop]
    refine wpAny_bind (W.done s _ _ hst fun s' hm => ?_)
    refine wpAny_pure (hR s' (Moved.mono hm hsub) ?_)
    rw [hn, List.take_length] at hS
    rw [hn]
    exact hS.at fun o e => hm.heap S o hSw e
  | succ k ih =>
    intro i s hk' hi hst hS hR
    have hlt : i < n := by omega
    refine codeAny_builtin F.entry_set_update_loop ?_
    rw [Around.under_plainId F.plain_set_update_loop]
    refine wpAny_bind (W.item i s _ _ hlt hst fun v s' hP hst' hm => ?_)
    obtain ⟨z, hz, hk, hs⟩ := hval i v hP
    have hS' : SetX knd kf s'.heap S (ks.take i) i := hS.at fun o e => hm.heap S o hSw e
    refine wpAny_bind (wpAny_holding ?_)
    refine wpAny_holding (wpAny_bind (knd.pyHash hk (addX is hS' hk hs (by omega) fun h' b hsb hS2 => ?_)))
    refine wpAny_pure ⟨plainId_quiet F.plain_set_update_loop _, ?_⟩
    have et : ks.take (i + 1) = ks.take i ++ [z] := by
      rw [List.take_add_one, hz]
      rfl
    refine ih (i + 1) _ (by omega) hlt (W.frame (i + 1) s' h' _ hst' (Nat.le_succ s'.toks) fun b hb o e => ?_) (by rw [et]; exact hS2) fun s'' hm'' hS'' => ?_
    · rw [hsb.2 b fun h => hSf (h ▸ hb)]
      exact e
    · refine hR s'' (Moved.trans W.gtrans (Moved.then_heap (Moved.mono hm hsub) (Nat.le_succ s'.toks) fun b o hb e => ?_) hm'') hS''
      rw [hsb.2 b fun h => hb (h ▸ List.mem_cons_self)]
      exact e
end
end PL
end

section
set_option Elab.async false
set_option linter.all false
set_option maxRecDepth 100000
/-! PL13: set(list) -/
namespace PL
open PySem PySem.Spec PyProof.Rows L2
section
variable {P : Program} {w : World} {Kt : Type} [DecidableEq Kt] {knd : PySem.KeyKind P w Kt} {kf : Value → Kt}
theorem call_setX (is : ∀ k v, knd.is k v = true → kf v = k) {A : Around} {E : Value → Shared → Prop} {s : Shared} {l : Addr} {items : Array Value} {ks : List Kt} {Q : Value → Shared → Prop} (hh : A.handled = none) (hl : s.heap.IsList l items)
    (hk : ∀ (i : Nat) v, items[i]? = some v → ∃ k, ks[i]? = some k ∧ knd.is k v = true ∧ v.scannable = true) (hn : items.size = ks.length) (hb : ks.length + 1 < scanBound)
    (h : ∀ (h' : Heap) (tk : Nat), SetX knd kf h' s.heap.objs.size ks ks.length → (∀ (b : Nat) (o : Obj), b < s.heap.objs.size → s.heap.get? b = some o → h'.get? b = some o) → Q (.ref s.heap.objs.size) { s with heap := h', toks := tk }) :
    wpAny (model P w) A (call (.type "set") [.ref l]) Q E s := by
  obtain ⟨c, tl, hmro⟩ := F.called_set.mro
  have hmade := F.called_set.made
  have hsub := F.called_set.sub
  refine wpAny_call (codeAny_of_tree ?_)
  refine wpAny_pure ⟨Code.quiet_builtin _ (by decide +kernel), codeAny_builtin F.entry_type_call ?_⟩
  rw [Around.under_plain (weight_type_call_type "set" [.ref l] []) rfl]
  have h1 := F.called_set.notType
  have h2 := F.called_set.canCreate
  have hct := F.typeCall_set_1 (.ref l)
  unfold Builtin.«type.__call__»
  refine wpAny_ite_false rfl ?_
  try dsimp only
  refine wpAny_ite_false h2 ?_
  try dsimp only
  refine wpAny_bind (wpAny_of_eq hct ?_)
  try dsimp only
  refine wpAny_bind (wpAny_of_eq hmro ?_)
  try dsimp only
  refine wpAny_ite_false rfl ?_
  try dsimp only
  refine wpAny_bind (wpAny_of_eq hmade ?_)
  try dsimp only
  refine wpAny_bind (wpAny_pure ?_)
  try dsimp only
  refine wpAny_bind (wpAny_holding (wpAny_call (codeAny_mono (L2.code_set_led1 (E := E) (.ref l) (Q₁ := fun v s' => v = .ref s.heap.objs.size ∧ s' = _) ⟨rfl, rfl⟩) fun r s₁ hr => ?_)))
  match r, hr with
  | .error e, hr => exact hr
  | .ok .next, hr => exact hr.elim
  | .ok .brk, hr => exact hr.elim
  | .ok .cont, hr => exact hr.elim
  | .ok (.ret v), hr =>
    obtain ⟨rfl, rfl⟩ := hr
    have hS := Heap.get?_push_size s.heap (o := { cls := .type "set", data := Data.set #[] 0 (SetTable.fresh 0 0 !w.params.followText "set-order") }) rfl
    have hT : Shared.TypeIs { s with heap := s.heap.push { cls := .type "set", data := Data.set #[] 0 (SetTable.fresh 0 0 !w.params.followText "set-order") } } (.ref s.heap.objs.size) "set" := ⟨_, hS, rfl⟩
    have hli := F.called_set.init.lookup
    have hbi := F.called_set.init.bind (.ref s.heap.objs.size)
    refine wpAny_bind (wpAny_isInstance hT hsub ?_)
    refine wpAny_ite_false rfl ?_
    refine wpAny_bind (wpAny_holding ?_)
    unfold callSpecial?
    refine wpAny_bind (wpAny_specialOf hT hli (wpAny_holding (wpAny_bind (wpAny_of_eq hbi (wpAny_bind (wpAny_call (codeAny_mono (codeAny_call_builtin (R := wants (fun v s' => v = Value.none ∧ ∃ h' tk, s' = { s with heap := h', toks := tk } ∧ SetX knd kf h' s.heap.objs.size ks ks.length ∧ ∀ (b : Nat) (o : Obj), b < s.heap.objs.size → s.heap.get? b = some o → h'.get? b = some o) E) F.called_set.init.plain F.entry_set_init (check_set_init_1 hT ?_)) fun r₂ s₂ hr₂ => ?_)))))))
    · obtain ⟨⟨ocls, odict, odata, oslots⟩, hol, hcl, nl, hdl⟩ := hl
      dsimp only at hcl hdl
      subst hcl
      subst hdl
      have hol' := Heap.get?_push_of_some { cls := .type "set", data := Data.set #[] 0 (SetTable.fresh 0 0 !w.params.followText "set-order") } hol
      have hsls := F.sub_list_set
      have hslf := F.sub_list_frozenset
      have hl1 : Heap.IsList (s.heap.push { cls := .type "set", data := Data.set #[] 0 (SetTable.fresh 0 0 !w.params.followText "set-order") }) l items := ⟨_, hol', rfl, nl, rfl⟩
      unfold Builtin.«set.__init__»
      refine wpAny_bind ?_
      refine wpAny_ite_true rfl ?_
      refine wpAny_pure ?_
      dsimp only [List.cons_append, List.nil_append]
      refine wpAny_bind ?_
      unfold typeNameOfCut
      refine wpAny_bind ?_
      refine wpAny_bind (wpAny_typeOf hT ?_)
      refine wpAny_ite_false rfl ?_
      refine wpAny_pure ?_
      refine wpAny_pure ?_
      refine wpAny_bind ?_
      unfold checkCount
      refine wpAny_ite_false rfl ?_
      refine wpAny_ite_false rfl ?_
      refine wpAny_ite_false rfl ?_
      refine wpAny_pure ?_
      refine wpAny_bind ?_
      refine wpAny_pure ?_
      refine wpAny_bind ?_
      unfold setUsed
      refine wpAny_bind (wpAny_setState_of hS rfl rfl ?_)
      refine wpAny_pure ?_
      refine wpAny_ite_false rfl ?_
      refine wpAny_bind ?_
      unfold Builtin.Frozenset.updateFrom
      have hTl : Shared.TypeIs { s with heap := s.heap.push { cls := .type "set", data := Data.set #[] 0 (SetTable.fresh 0 0 !w.params.followText "set-order") } } (.ref l) "list" := ⟨_, hol', rfl⟩
      refine wpAny_bind ?_
      unfold Builtin.Frozenset.isAnySet
      refine wpAny_bind (wpAny_isInstance hTl hsls ?_)
      refine wpAny_isInstance hTl hslf ?_
      refine wpAny_ite_false rfl ?_
      refine wpAny_bind (wpAny_typeOf hTl ?_)
      refine wpAny_ite_false rfl ?_
      refine wpAny_bind (wpAny_pyIter_list hl1 ?_)
      refine wpAny_bind (wpAny_runValue ?_)
      have hlS := Heap.lt_size hol
      have hSf : s.heap.objs.size ∉ [(s.heap.push { cls := .type "set", data := Data.set #[] 0 (SetTable.fresh 0 0 !w.params.followText "set-order") }).objs.size, l] := by
        rw [Heap.size_push]
        simp only [List.mem_cons, List.not_mem_nil, or_false, not_or]
        exact ⟨Nat.ne_of_lt (Nat.lt_succ_self _), Nat.ne_of_gt hlS⟩
      have hneI : l ≠ (s.heap.push { cls := .type "set", data := Data.set #[] 0 (SetTable.fresh 0 0 !w.params.followText "set-order") }).objs.size := by
        rw [Heap.size_push]
        exact Nat.ne_of_lt (Nat.lt_succ_of_lt hlS)
      refine loopX is (Walks.toS (Walks.list (by exact hh) _ l hneI items)) s.heap.objs.size hSf ks hn hb (fun i v hv => hk i v hv) items.size 0 _ (by omega) (Nat.zero_le _) ⟨⟨_, Heap.get?_push_size _ rfl, rfl, rfl⟩, Heap.IsList.push hl1 _⟩ ?_ fun s' hm hS' => ?_
      · have hget := Heap.get?_push_of_some { cls := .type "list_iterator", data := Data.fields #[.ref l, .int 0 0] } hS
        refine ⟨_, #[], 0, _, hget, ⟨rfl, rfl, rfl⟩, rfl, fun e he => by simp at he, by simp [keysE], fun k => by simp [keysE], by simp, rfl, by simp [Ris, SetTable.fresh], ?_⟩
        cases w.params.followText "set-order"
        · exact .inr rfl
        · exact .inl rfl
      · obtain ⟨h', g', d', tk', os'⟩ := s'
        have eg := hm.gens
        have ed := hm.drawn
        have eo := hm.os
        dsimp only at eg ed eo
        subst eg
        subst ed
        subst eo
        refine wpAny_pure (wpAny_pure ⟨rfl, h', tk', rfl, by rw [← hn]; exact hS', fun b o hb' e => ?_⟩)
        refine hm.heap b o ?_ (Heap.get?_push_of_some _ (Heap.get?_push_of_some _ e))
        rw [Heap.size_push]
        simp only [List.mem_cons, List.not_mem_nil, or_false, not_or]
        exact ⟨Nat.ne_of_lt hb', Nat.ne_of_lt (Nat.lt_succ_of_lt hb')⟩
    · match r₂, hr₂ with
      | .error e, hr => exact hr
      | .ok .next, hr => exact hr.elim
      | .ok .brk, hr => exact hr.elim
      | .ok .cont, hr => exact hr.elim
      | .ok (.ret v₂), hr =>
        obtain ⟨rfl, h', tk, rfl, hS', hk'⟩ := hr
        exact wpAny_pure (wpAny_ite_false rfl (wpAny_pure (h h' tk hS' hk')))
end
end PL
end

section
set_option Elab.async false
set_option linter.all false
set_option maxRecDepth 100000
/-! PL14: sets of texts: counted, sorted -/
namespace PL
open PySem PySem.Spec PyProof.Rows L2

def leS (x y : Str) : Bool := decide (x.cps.toList ≤ y.cps.toList)
theorem leS_trans (a b c : Str) (h1 : leS a b = true) (h2 : leS b c = true) : leS a c = true := by
  unfold leS at *
  rw [decide_eq_true_eq] at *
  exact List.le_trans h1 h2
theorem leS_total (a b : Str) : (leS a b || leS b a) = true := by
  unfold leS
  rw [Bool.or_eq_true, decide_eq_true_eq, decide_eq_true_eq]
  exact List.le_total _ _
theorem leS_anti {a b : Str} (h1 : leS a b = true) (h2 : leS b a = true) : a = b := by
  unfold leS at *
  rw [decide_eq_true_eq] at *
  exact PySem.W.str_of_cps (List.le_antisymm h1 h2)
def ded {α : Type} [DecidableEq α] : List α → List α
  | [] => []
  | x :: xs => if x ∈ xs then ded xs else x :: ded xs
theorem mem_ded {α : Type} [DecidableEq α] {k : α} : ∀ {l : List α}, k ∈ ded l ↔ k ∈ l
  | [] => Iff.rfl
  | x :: xs => by
    unfold ded
    by_cases h : x ∈ xs
    · rw [if_pos h, mem_ded, List.mem_cons]
      exact ⟨.inr, fun z => z.elim (fun e => e ▸ h) id⟩
    · rw [if_neg h, List.mem_cons, List.mem_cons, mem_ded]
theorem nodup_ded {α : Type} [DecidableEq α] : ∀ {l : List α}, (ded l).Nodup
  | [] => List.nodup_nil
  | x :: xs => by
    unfold ded
    by_cases h : x ∈ xs
    · rw [if_pos h]; exact nodup_ded
    · rw [if_neg h]; exact List.nodup_cons.mpr ⟨fun z => h (mem_ded.mp z), nodup_ded⟩
theorem sort_perm {l m : List Str} (h : l.Perm m) : l.mergeSort leS = m.mergeSort leS :=
  List.Perm.eq_of_pairwise (fun a b _ _ h1 h2 => leS_anti h1 h2) (List.pairwise_mergeSort leS_trans leS_total l) (List.pairwise_mergeSort leS_trans leS_total m) (((List.mergeSort_perm l _).trans h).trans (List.mergeSort_perm m _).symm)
def sortS (xs : List Str) : List Str := (ded xs).mergeSort leS

section
variable {P : Program} {w : World}
def kfS : Value → Str
  | .str x _ => x
  | _ => Str.empty
theorem is_str {k x : Str} {t : Tok} (h : Value.isStrOf k (.str x t) = true) : x = k := by
  have hx : Value.isStrOf x (.str x t) = true := by
    show (x == x) = true
    exact beq_self_eq_true x
  exact Value.isStrOf_inj _ _ _ hx h
theorem kfS_is (k : Str) (v : Value) (h : (PySem.strKind P w).is k v = true) : kfS v = k := by
  cases v
  case str x t => exact is_str (t := t) h
  all_goals exact absurd h (by simp [PySem.strKind, Value.isStrOf])
theorem len_setX {A : Around} {E : Value → Shared → Prop} {s : Shared} {a : Addr} {L : List Str} {c : Nat} {Q : Value → Shared → Prop} (R : SetX (PySem.strKind P w) kfS s.heap a L c) (hc : c < scanBound)
    (hQ : ∀ tk tk', Q (.int (ded L).length tk) { s with toks := tk' }) : wpAny (model P w) A (call (.builtin "len") [.ref a]) Q E s := by
  obtain ⟨o, es, ep, t, ho, hex, hd, hel, nd, hm, hb, hf, hr, hl⟩ := R
  have hp : (keysE kfS es).Perm (ded L) := (List.perm_ext_iff_of_nodup nd nodup_ded).mpr fun k => (hm k).symm.trans mem_ded.symm
  have hn : es.size = (ded L).length := by
    rw [← hp.length_eq]
    simp [keysE]
  refine call_len_set ho hex hd hf ?_ ?_
  · have : (scanBound : Int) < 2 ^ 63 := by decide
    omega
  · rw [hn]
    exact hQ _ _
theorem sorted_setX {A : Around} {E : Value → Shared → Prop} {s : Shared} {a : Addr} {L : List Str} {c : Nat} {Q : Value → Shared → Prop} (R : SetX (PySem.strKind P w) kfS s.heap a L c) (hh : A.handled = none) (hc : c < scanBound) (hu : A.units + 10 < cLine)
    (hQ : ∀ (s' : Shared) (p : Nat) (out : List Value) (e : Nat), (∀ (b : Addr) (o : Obj), s.heap.get? b = some o → s'.heap.get? b = some o) → s'.gens = s.gens → s'.os = s.os → s.heap.objs.size ≤ p → s'.heap.get? p = some (seqObj "list" out.toArray e) →
      PySem.W.EachIs (fun v (x : Str) => ∃ t, v = Value.str x t) out (sortS L) → Q (.ref p) s') : wpAny (model P w) A (call (.builtin "sorted") [.ref a]) Q E s := by
  obtain ⟨o, es, ep, t, ho, hex, hd, hel, nd, hm, hb, hf, hr, hl⟩ := R
  refine Calls.call_function_entry kind_sorted plain_sorted entry_sorted (args_sorted1 (.ref a)) ?_
  unfold Builtin.sorted
  refine wpAny_bind (wpAny_pure ?_)
  refine wpAny_bind (collect_set (by exact hh) ⟨o, ho, hex.1, hd⟩ hf (by omega) hr hl fun s1 vs k1 hz g1 o1 pm => ?_)
  have hv : ∀ vs : List Value, (∀ v ∈ vs, ∃ x tk, v = Value.str x tk) → PySem.W.EachIs (fun v (x : Str) => ∃ t, v = Value.str x t) vs (vs.map kfS) := fun vs => by
    induction vs with
    | nil => intro _; exact .nil
    | cons v vs ih =>
      intro h
      obtain ⟨x, tk, rfl⟩ := h v (by simp)
      exact .cons ⟨tk, rfl⟩ (ih fun v' hv' => h v' (by simp [hv']))
  have hstr : ∀ v ∈ vs, ∃ x tk, v = Value.str x tk := fun v hv' => by
    obtain ⟨e, he, rfl⟩ := List.mem_map.mp (pm.mem_iff.mp hv')
    obtain ⟨⟨k, h1, _⟩, _⟩ := hel e he
    revert h1
    cases e.2 <;> intro h1 <;> first | exact ⟨_, _, rfl⟩ | exact absurd h1 (by simp [PySem.strKind, Value.isStrOf])
  have hlen : vs.length = es.size := by rw [pm.length_eq]; simp
  have hsl : vs.length ≤ sizeLine := by
    have : scanBound ≤ sizeLine := by decide
    omega
  have hb1 := hv vs hstr
  have hreads : ∀ (h : Heap) (vs : List Value), (∀ v ∈ vs, ∃ x tk, v = Value.str x tk) → ∀ a : Addr, PySem.W.EachIs (fun v (x : Str) => ∃ as, Reads h v (.str x) as ∧ a ∉ as) vs (vs.map kfS) := fun h vs => by
    induction vs with
    | nil => intro _ _; exact .nil
    | cons v vs ih =>
      intro h a
      obtain ⟨x, tk, rfl⟩ := h v (by simp)
      exact .cons ⟨[], .str x tk, by simp⟩ (ih (fun v' hv' => h v' (by simp [hv'])) a)
  refine wpAny_bind (wpAny_newList ?_ hsl)
  have hoL := Heap.get?_push_size s1.heap (o := seqObj "list" vs.toArray 0) rfl
  refine wpAny_bind (wpAny_holding (PySem.W.list_sort_data (enc := PyData.str) (R := fun v (x : Str) => ∃ t, v = Value.str x t) hoL hb1 (hreads _ vs hstr _) ?_ ?_ (by rw [List.length_map]; exact hsl) ?_ fun out ol oe => ?_))
  · intro d hd' d' hd''
    obtain ⟨x, _, rfl⟩ := List.mem_map.mp hd'
    obtain ⟨y, _, rfl⟩ := List.mem_map.mp hd''
    exact PySem.W.alike.eq_4 x y
  · refine .inr fun d hd' => ?_
    obtain ⟨x, _, rfl⟩ := List.mem_map.mp hd'
    exact ⟨(by intro e; cases e), (by intro xs e; cases e)⟩
  · intro b _
    have : (PyData.str b).depth = 0 := by simp [PyData.depth]
    have hu' : A.in1.units ≤ A.units + 1 := by
      first | exact Nat.le_refl _ | (simp [Around.in1, Around.units])
    omega
  · obtain ⟨e1, he1⟩ := sortedHeap_at (out := out.toArray) hoL
    refine wpAny_pure ⟨_, rfl, hQ _ _ out e1 (fun b o' hb' => ?_) g1 o1 hz he1 ?_⟩
    · have hlt : b < s1.heap.objs.size := Heap.lt_size (k1 b o' hb')
      rw [sortedHeap_old (Nat.ne_of_lt hlt) (by rw [Heap.size_push]; exact Nat.lt_succ_of_lt hlt)]
      exact Heap.get?_push_of_some _ (k1 b o' hb')
    · have hp : (vs.map kfS).Perm (ded L) := by
        have q := pm.map kfS
        rw [List.map_map] at q
        exact q.trans ((List.perm_ext_iff_of_nodup nd nodup_ded).mpr fun k => (hm k).symm.trans mem_ded.symm)
      have hle : PySem.W.dataLe false PyData.str = leS := PySem.W.dataLe_str id
      rw [hle, sort_perm hp] at oe
      exact oe
end
end PL
end

section
set_option Elab.async false
set_option linter.all false
set_option maxRecDepth 100000
/-! PL15: sorted(set(xs)), len(set(xs)) of texts; sorted(d) of a dict of text keys -/
namespace PL
open PySem PySem.Spec PyProof.Rows L2

section
variable {X : Cx}
def setHO (P : Program) (w : World) (p : Addr) (ks : List Str) : HO := .ext fun h => SetX (PySem.strKind P w) kfS h p ks ks.length
def rSetS (X : Cx) : List V → Hp → VK → Prop := fun vs H Q => ∃ a ks, vs = [.ref a] ∧ SqL X.K H a (ks.map V.str) ∧ ks.length + 1 < scanBound ∧ ∀ p, H p = none → Q (.ref p) (upd H p (setHO X.prog X.w p ks))
theorem vals_strs : ∀ {ks : List Str} {its : List Value}, Vals (ks.map V.str) its → ∀ (i : Nat) v, its[i]? = some v → ∃ k, ks[i]? = some k ∧ ∃ t, v = Value.str k t
  | [], _, .nil, i, v, e => by simp at e
  | k :: ks, _, .cons (b := b) h t, 0, v, e => by
    simp at e
    subst e
    obtain ⟨tk, rfl⟩ := h
    exact ⟨k, rfl, tk, rfl⟩
  | k :: ks, _, .cons h t, i + 1, v, e => by
    obtain ⟨k', h1, h2⟩ := vals_strs t i v (by simpa using e)
    exact ⟨k', by simpa using h1, h2⟩
theorem callR_set (hc : X.calm = true) : CallR X (.type "set") (rSetS X) := by
  intro pins s σ H vs us Q I rv h
  obtain ⟨a, ks, rfl, hs, hb, q⟩ := h
  cases rv with
  | cons r1 r2 =>
    cases r2
    cases r1
    obtain ⟨its, hv, pl, ll⟩ := I.list hs
    have hlen : its.toArray.size = ks.length := by
      have := Paired.len hv
      simpa using this.symm
    refine call_setX (knd := PySem.strKind X.prog X.w) (kf := kfS) (ks := ks) kfS_is (I.ok.hd hc) (PlainL.isList pl) (fun i v e => ?_) hlen hb fun h' tk R kp => ?_
    · obtain ⟨k, e1, t, rfl⟩ := vals_strs hv i v (by simpa using e)
      exact ⟨k, e1, by show (k == k) = true; exact beq_self_eq_true k, rfl⟩
    · have kp' : ∀ (b : Addr) (o : Obj), s.heap.get? b = some o → h'.get? b = some o := fun b o e => kp b o (Heap.lt_size e) e
      refine ⟨.ref s.heap.objs.size, _, I.laid kp' (Nat.le_refl _) ?_, rfl, q _ I.fresh⟩
      unfold ObjOk setHO
      exact ⟨R, ⟨_, R.choose_spec.choose_spec.choose_spec.choose_spec.1⟩, fun h1 h2 R1 hk => R1.at hk⟩
def rSortedX (X : Cx) : List V → Hp → VK → Prop := fun vs H Q => ∃ p ks, vs = [.ref p] ∧ H p = some (setHO X.prog X.w p ks) ∧ ks.length + 1 < scanBound ∧ ∀ l, H l = none → Q (.ref l) (upd H l (.lst ((sortS ks).map V.str)))
theorem each_strs : ∀ {out : List Value} {ks : List Str}, PySem.W.EachIs (fun v (x : Str) => ∃ t, v = Value.str x t) out ks → Vals (ks.map V.str) out
  | _, _, .nil => .nil
  | _, _, .cons h t => .cons h (each_strs t)
theorem setX_of {pins : List (Addr × Obj)} {σ : L2.St} {H : Hp} {s : Shared} {p : Addr} {ks : List Str} (I : L2.Inv X pins σ H s) (h : H p = some (setHO X.prog X.w p ks)) : SetX (PySem.strKind X.prog X.w) kfS s.heap p ks ks.length := by
  have := I.hok p _ h
  unfold ObjOk setHO at this
  exact this.1
theorem ded_le {α : Type} [DecidableEq α] : ∀ {l : List α}, (ded l).length ≤ l.length
  | [] => Nat.le_refl _
  | x :: xs => by
    unfold ded
    have := ded_le (l := xs)
    split <;> simp <;> omega
theorem callR_sortedX (hc : X.calm = true) (hu : X.A.units + 64 < cLine) : CallR X (.builtin "sorted") (rSortedX X) := by
  intro pins s σ H vs us Q I rv h
  obtain ⟨p, ks, rfl, hs, hb, q⟩ := h
  cases rv with
  | cons r1 r2 =>
    cases r2
    cases r1
    refine sorted_setX (setX_of I hs) (I.ok.hd hc) (by omega) (by omega) fun s' l out e kp g1 o1 hz hl ev => ?_
    obtain ⟨h', g', d', t', os'⟩ := s'
    dsimp only at g1 o1 kp hz hl
    subst g1
    subst o1
    have hsl : ((sortS ks).map V.str).length ≤ sizeLine := by
      have h1 : (sortS ks).length = (ded ks).length := List.length_mergeSort _
      have h2 := ded_le (l := ks)
      have h3 : scanBound ≤ sizeLine := by decide
      rw [List.length_map]
      omega
    have J := I.laid (h' := h') (a := l) (o := .lst ((sortS ks).map V.str)) (t' := t') kp hz (by
      unfold ObjOk
      exact ⟨hsl, out, e, each_strs ev, hl⟩)
    exact ⟨.ref l, _, ⟨J.ok, J.os, J.bare, J.base, J.loc, J.cell, J.free, J.freeC, J.pin, J.hok, J.len⟩, rfl, q l (I.hok.fresh hz)⟩
def rLenX (X : Cx) : List V → Hp → VK → Prop := fun vs H Q => ∃ p ks, vs = [.ref p] ∧ H p = some (setHO X.prog X.w p ks) ∧ ks.length + 1 < scanBound ∧ Q (.int (ded ks).length) H
theorem callR_lenX : CallR X (.builtin "len") (rLenX X) := by
  intro pins s σ H vs us Q I rv h
  obtain ⟨p, ks, rfl, hs, hb, q⟩ := h
  cases rv with
  | cons r1 r2 =>
    cases r2
    cases r1
    refine len_setX (setX_of I hs) (by omega) fun tk tk' => ?_
    exact ⟨.int _, H, I.kept (fun _ _ e => e), ⟨_, rfl⟩, q⟩
/-! in the layer -/
theorem lat_junk {r : List Addr} {H : Hp} {p : Addr} {u : HO} (np : H p = none) : Lat r H r (upd H p u) :=
  ⟨fun _ _ h => h, fun b xs e => by rw [upd_ne (ne_of_none e np)]; exact e, fun b o u e => by rw [upd_ne (ne_of_none e np)]; exact e⟩
theorem Sim.junk {K : PySem.W.Frag} {mg : Str → Option Value} {r : List Addr} {S : Sto} {H : Hp} {p : Addr} {u : HO} (h : Sim K mg r S H) (np : H p = none) : Sim K mg r S (upd H p u) := by
  refine ⟨h.len, h.nd, fun n o a e1 e2 => ?_⟩
  have q := h.ob n o a e1 e2
  cases o with
  | cst xs => obtain ⟨ws, e, z⟩ := q; exact ⟨ws, e.lat (lat_junk (r := r) np), z.lat (lat_junk np)⟩
  | lst xs => obtain ⟨ws, e, _⟩ := id q; exact q.lat (lat_junk np) (upd_ne (ne_of_none e np))
  | dK xs => obtain ⟨ws, e, _⟩ := id q; exact q.lat (lat_junk np) (upd_ne (ne_of_none e np))
  | dT xs => obtain ⟨ws, e, _⟩ := id q; exact q.lat (lat_junk np) (upd_ne (ne_of_none e np))
  | lkK xs => obtain ⟨od, ws, e, _⟩ := id q; exact q.lat (lat_junk np) (upd_ne (ne_of_none e np))
def strsD : List D → Option (List Str)
  | [] => some []
  | .str x :: ds => (strsD ds).map (x :: ·)
  | _ => none
theorem strsD_ok {K : PySem.W.Frag} {mg : Str → Option Value} {r : List Addr} {H : Hp} : ∀ {ds : List D} {vs : List V} {ks : List Str}, RepL K mg r H ds vs → strsD ds = some ks → vs = ks.map V.str
  | [], _, _, q, h => by cases q; cases h; rfl
  | d :: ds, _, _, q, h => by
    cases q with
    | cons q1 q2 =>
      cases d with
      | str b =>
        obtain ⟨a, e1, e2⟩ := Option.map_eq_some_iff.mp (show (strsD ds).map (b :: ·) = _ from h)
        subst e2
        cases q1
        rw [strsD_ok q2 e1]; rfl
      | _ => cases h
theorem repStrs {K : PySem.W.Frag} {mg : Str → Option Value} {r : List Addr} {H : Hp} : ∀ ns : List Str, RepL K mg r H (ns.map D.str) (ns.map V.str)
  | [] => .nil
  | c :: cs => .cons (.str c) (repStrs cs)
def setArg (d : D) (S : Sto) : Option (List Str) := match d with
  | .ref n => (seqAt n S).bind fun xs => (strsD xs).bind fun ks => if ks.length + 1 < scanBound then some ks else none
  | _ => none
def mOfSet (g : List Str → Sto → R) (m : ME) : ME := fun env S => (m env S).bind fun p => (setArg p.1 p.2).bind fun ks => g ks p.2
theorem cE_ofSet {id : String} {rr : List V → Hp → VK → Prop} {x : Str} {e : Expr} {m : ME} {g : List Str → Sto → R} {p p2 pos pos2 : Pos} (hc : CallR X (.builtin id) rr)
    (hs : ∀ ks S d S' r H p (Q : VK), g ks S = some (d, S') → ks.length + 1 < scanBound → Sim X.K X.mg r S H → H p = some (setHO X.prog X.w p ks) → (∀ r' H' v, Sim X.K X.mg r' S' H' → Lat r H r' H' → RepV X.K X.mg r' H' d v → Q v H') → rr [.ref p] H Q)
    (hcalm : X.calm = true) (hm : X.mg x = none) (hv : bootBuiltins x = some (.builtin id)) (hm2 : X.mg "set" = none) (he : CE X e m) (hg : Gl X x := by rfl) (hg2 : Gl X "set" := by rfl) (hn : x ≠ "__name__" := by decide) (hdb : (x == ("__debug__" : Str)) = false := by decide) (h : nS e = true := by rfl) :
    CE X (.Call (.Name x p) [.Call (.Name "set" p2) [e] [] pos2] [] pos) (mOfSet g m) := by
  refine ⟨?_⟩
  intro env S d S' h0 r σ H Q A hq
  obtain ⟨⟨d0, S1⟩, e1, h0⟩ := Option.bind_eq_some_iff.mp h0
  obtain ⟨ks, e2, h0⟩ := Option.bind_eq_some_iff.mp h0
  have st : ∀ {e : Expr}, nS e = true → starEach [e] X.env = (false, eval e X.env) :: starEach [] X.env := fun h => star_cons h
  refine tm_of (pe_callB hc hg hm hv (pa_cons (pe_callTy (callR_set hcalm) hg2 hm2 (by rfl) (pa_cons pe_tm pa_nil (st h)) (by decide) (by decide) (st h) (star_plain rfl)) pa_nil (st rfl)) hn hdb (st rfl) (star_plain rfl)) ?_
  refine he env S d0 S1 e1 r σ H _ A fun r1 H1 v s1 l1 q1 => ?_
  have e2' : setArg d0 S1 = some ks := e2
  clear e2
  unfold setArg at e2'
  split at e2'
  case h_2 => cases e2'
  obtain ⟨xs, e3, e2'⟩ := Option.bind_eq_some_iff.mp e2'
  obtain ⟨ks', e4, e2'⟩ := Option.bind_eq_some_iff.mp e2'
  split at e2'
  case isFalse => cases e2'
  rename_i hb
  cases e2'
  cases q1 with
  | ref ea =>
    obtain ⟨vs, h1, q⟩ := seqAt_ok (X := X) s1 ea e3
    have := strsD_ok q e4
    subst this
    refine ⟨_, ks, rfl, h1, hb, fun q' np => ?_⟩
    exact hs ks S1 d S' r1 _ q' Q h0 hb (s1.junk np) upd_same fun r2 H2 w s2 l2 q2 => hq r2 H2 w s2 (l1.trans ((lat_junk np).trans l2)) q2
def gSortS (ks : List Str) (S : Sto) : R := newL ((sortS ks).map D.str) S
def gLenS (ks : List Str) (S : Sto) : R := some (.int (ded ks).length, S)
theorem cE_sortSet {e : Expr} {m : ME} {p p2 pos pos2 : Pos} (hcalm : X.calm = true) (hu : X.A.units + 64 < cLine) (hm : X.mg "sorted" = none) (hm2 : X.mg "set" = none) (he : CE X e m) (hg : Gl X "sorted" := by rfl) (hg2 : Gl X "set" := by rfl) (h : nS e = true := by rfl) :
    CE X (.Call (.Name "sorted" p) [.Call (.Name "set" p2) [e] [] pos2] [] pos) (mOfSet gSortS m) :=
  cE_ofSet (callR_sortedX hcalm hu) (fun ks S d S' r H p Q h0 hb s hp hq => ⟨p, ks, rfl, hp, hb, fun l nl => by
    obtain ⟨a1, a2, a3⟩ := newL_ok (X := X) s nl (repStrs (sortS ks)) h0
    exact hq _ _ _ a1 a2 a3⟩) hcalm hm (by rfl) hm2 he hg hg2 (by decide) (by decide) h
theorem cE_lenSet {e : Expr} {m : ME} {p p2 pos pos2 : Pos} (hcalm : X.calm = true) (hm : X.mg "len" = none) (hm2 : X.mg "set" = none) (he : CE X e m) (hg : Gl X "len" := by rfl) (hg2 : Gl X "set" := by rfl) (h : nS e = true := by rfl) :
    CE X (.Call (.Name "len" p) [.Call (.Name "set" p2) [e] [] pos2] [] pos) (mOfSet gLenS m) :=
  cE_ofSet callR_lenX (fun ks S d S' r H p Q h0 hb s hp hq => by
    cases h0
    exact ⟨p, ks, rfl, hp, hb, hq r H _ s .refl (.int _)⟩) hcalm hm (by rfl) hm2 he hg hg2 (by decide) (by decide) h
end
end PL
end

section
set_option Elab.async false
set_option linter.all false
set_option maxRecDepth 100000
/-! PL16: d.update(e), sorted(d) -/
namespace PL
open PySem PySem.Spec PyProof.Rows L2

section
variable {X : Cx}
def rUpdK : V → List V → Hp → VK → Prop := fun x xs H Q => ∃ a b kvs more, x = .ref a ∧ xs = [.ref b] ∧ a ≠ b ∧ H a = some (.dK kvs) ∧ H b = some (.dK more) ∧ kvs.length + more.length ≤ sizeLine ∧ Q .non (upd H a (.dK (mergeK kvs more)))
theorem mtR_update : MtR X "dict.update" rUpdK := by
  intro pins s σ H x xs v us Q I rv rvs h
  obtain ⟨a, b, kvs, more, rfl, rfl, hab, ha, hb, hl, q⟩ := h
  cases rv
  cases rvs with
  | cons r1 r2 =>
    cases r2
    cases r1
    obtain ⟨l1, s1, vs1, k1, d1⟩ := dk_of I.hok ha
    obtain ⟨l2, s2, vs2, k2, d2⟩ := dk_of I.hok hb
    refine call_meetsIn F.slot_dict_update (isD_at I (.inl ⟨kvs, .inl ha⟩)).1 F.entry_dict_update (F.args_dict_update_2 _ _) (meets_dict_update (mixKind X.prog X.w) a b hab s2) ?_
    refine ⟨vs1, vs2, d1, d2, by rw [← Paired.len k1, ← Paired.len k2]; exact hl, fun h' d3 d4 sb => ?_⟩
    have hk : KV (mergeK kvs more) (merged vs1 vs2) := KV.merge k2 k1
    have ob : ObjOk X.prog X.w (upd H a (.dK (mergeK kvs more))) h' a (.dK (mergeK kvs more)) := dk_new (by
      have := length_mergeK more kvs
      omega) s1 hk d3
    refine ⟨.non, _, I.write (e := a) (t' := s.toks) (by rw [ha]; trivial) (.inl rfl) (fun b' u hne e => by rw [sb.2 b' hne]; exact e) ?_ ob, rfl, q⟩
    obtain ⟨o, es, ep, ho, _⟩ := d3
    exact ⟨o, ho⟩
def gUpdate : D → List D → Sto → R
  | .ref n, [.ref m], S => match S[n]?, S[m]? with
    | some (.dK kvs), some (.dK more) => if n ≠ m ∧ kvs.length + more.length ≤ sizeLine then some (.non, S.set n (.dK (mergeD kvs more))) else none
    | _, _ => none
  | _, _, _ => none
theorem mtS_update {T : String} : MtS X T rUpdK gUpdate := by
  intro x xs S d S' e r H u vs Q s q1 q2 hq
  unfold gUpdate at e
  split at e
  case h_2 => cases e
  rename_i n m
  split at e
  case h_2 => cases e
  rename_i kvs more ex em
  split at e
  case isFalse => cases e
  rename_i hz
  cases e
  cases q1 with
  | ref ea =>
    match vs, q2 with
    | [v], .cons z .nil =>
      cases z with
      | ref eb =>
        obtain ⟨ws, h1, l⟩ := s.ob _ _ _ ex ea
        obtain ⟨ws2, h2, l2⟩ := s.ob _ _ _ em eb
        refine ⟨_, _, ws, ws2, rfl, rfl, fun hab => ?_, h1, h2, by rw [← Paired.len l, ← Paired.len l2]; exact hz.2, ?_⟩
        · subst hab
          exact hz.1 (s.nd n m _ _ _ ea eb ex em rfl rfl)
        · have L : Lat r H r (upd H _ (.dK (mergeK ws ws2))) := lat_upd h1 trivial
          obtain ⟨s8, l8⟩ := s.put (o' := .dK (mergeD kvs more)) (v := .dK (mergeK ws ws2)) ex ea rfl rfl ⟨_, upd_same, (mergeD_ok l2 l).lat L⟩
          exact hq r _ _ s8 l8 .non
/-! sorted(d), keys texts, fewer than 64 -/
def keyStrs : List (Key × D) → Option (List Str)
  | [] => some []
  | (.inr x, _) :: ks => (keyStrs ks).map (x :: ·)
  | _ => none
theorem keyStrs_ok {r : List Addr} {H : Hp} : ∀ {kvs : List (Key × D)} {ws : List (Key × V)} {ks : List Str}, RepKs X.K X.mg r H kvs ws → keyStrs kvs = some ks → ws.map (fun x => x.1) = ks.map Sum.inr
  | [], _, _, .nil, h => by cases h; rfl
  | (.inl i, d) :: kvs, _, _, .cons h t, e => by cases e
  | (.inr x, d) :: kvs, (k, w) :: ws, _, .cons h t, e => by
    obtain ⟨ks', e1, e2⟩ := Option.map_eq_some_iff.mp (show (keyStrs kvs).map (x :: ·) = _ from e)
    subst e2
    have h1 : Sum.inr x = k := h.1
    subst h1
    rw [List.map_cons, List.map_cons, keyStrs_ok t e1]
def gSortedD : List D → Sto → R
  | [.ref n], S => match S[n]? with
    | some (.dK kvs) => (keyStrs kvs).bind fun ks => if ks.length < 64 then newL ((ks.mergeSort leS).map D.str) S else none
    | _ => none
  | _, _ => none
def rSortedDK : List V → Hp → VK → Prop := fun xs H Q => ∃ a kvs ks, xs = [V.ref a] ∧ Rd H a (.dK kvs) ∧ kvs.map (fun x => x.1) = ks.map Sum.inr ∧ ks.length < 64 ∧ ∀ (ys : List Str) (p : Addr), ys.Perm ks → sortedS ys = true → H p = none → Q (.ref p) (upd H p (.lst (ys.map V.str)))
theorem callR_sortedD (hc : X.calm = true) : CallR X (.builtin "sorted") rSortedDK := call_sortedD hc
theorem rising_pair : ∀ {ys : List Str} {x : Str}, risingS x ys = true → (x :: ys).Pairwise fun a b => leS a b = true
  | [], x, _ => List.pairwise_singleton _ _
  | y :: ys, x, h => by
    rw [risingS.eq_2, Bool.and_eq_true] at h
    have hxy : leS x y = true := by
      have h1 := h.1
      rw [ltCps_eq, PySem.W.not_lt_str] at h1
      exact h1
    have ih := rising_pair h.2
    refine List.pairwise_cons.mpr ⟨fun z hz => ?_, ih⟩
    rcases List.mem_cons.mp hz with rfl | hz
    · exact hxy
    · exact leS_trans _ _ _ hxy ((List.pairwise_cons.mp ih).1 z hz)
theorem sorted_pair {ys : List Str} (h : sortedS ys = true) : ys.Pairwise fun a b => leS a b = true := by
  cases ys with
  | nil => exact .nil
  | cons x r => exact rising_pair h
theorem callS_sortedD : CallS X rSortedDK gSortedD := by
  intro xs S d S' e r H vs Q s q hq
  unfold gSortedD at e
  split at e
  case h_2 => cases e
  rename_i n
  split at e
  case h_2 => cases e
  rename_i kvs ex
  obtain ⟨ks, e1, e⟩ := Option.bind_eq_some_iff.mp e
  split at e
  case isFalse => cases e
  rename_i hk
  match vs, q with
  | [v], .cons z .nil =>
    cases z with
    | ref ea =>
      obtain ⟨ws, h1, l⟩ := s.ob _ _ _ ex ea
      refine ⟨_, ws, ks, rfl, .inl h1, keyStrs_ok (X := X) l e1, hk, fun ys p hp hs np => ?_⟩
      have : ys = ks.mergeSort leS := List.Perm.eq_of_pairwise (fun a b _ _ h1 h2 => leS_anti h1 h2) (sorted_pair hs) (List.pairwise_mergeSort leS_trans leS_total ks) (hp.trans (List.mergeSort_perm ks _).symm)
      subst this
      obtain ⟨a1, a2, a3⟩ := newL_ok (X := X) s np (repStrs _) e
      exact hq _ _ _ a1 a2 a3
end
end PL
end

section
set_option Elab.async false
set_option linter.all false
set_option maxRecDepth 100000
set_option maxHeartbeats 4000000
namespace K11
open PySem PySem.Spec PyProof.Rows L2 PL
def topS (i : Nat) : Stmt := PySem.Challenge.pw_forktales_k11_loose_ends_told.main.body.getD i (.Pass ⟨0, 0, 0, 0⟩)
/-! scenes_by_name -/
abbrev s0 : Stmt := topS 1
def N0 : List Str := [(Str.ofString "story"), (Str.ofString "scene")]
def P0 : List Str := [(Str.ofString "story")]
theorem S0 : FnScope N0 P0 (defScope s0) := ⟨rfl, rfl, rfl, by decide +kernel, rfl, by decide +kernel, by decide +kernel⟩
/-! loose_ends -/
abbrev s1 : Stmt := topS 3
def N1 : List Str := [(Str.ofString "story"), (Str.ofString "scenes"), (Str.ofString "begin"), (Str.ofString "come_to"), (Str.ofString "left"), (Str.ofString "scene"), (Str.ofString "name")]
def P1 : List Str := [(Str.ofString "story")]
theorem S1 : FnScope N1 P1 (defScope s1) := ⟨rfl, rfl, rfl, by decide +kernel, rfl, by decide +kernel, by decide +kernel⟩
/-! _led_to -/
abbrev s2 : Stmt := topS 4
def N2 : List Str := [(Str.ofString "scene"), (Str.ofString "_"), (Str.ofString "choices"), (Str.ofString "woven"), (Str.ofString "choice"), (Str.ofString "name")]
def P2 : List Str := [(Str.ofString "scene")]
theorem S2 : FnScope N2 P2 (defScope s2) := ⟨rfl, rfl, rfl, by decide +kernel, rfl, by decide +kernel, by decide +kernel⟩
/-! _law_feed -/
abbrev s3 : Stmt := topS 6
def N3 : List Str := [(Str.ofString "_law_script")]
def P3 : List Str := [(Str.ofString "_law_script")]
theorem S3 : FnScope N3 P3 (defScope s3) := ⟨rfl, rfl, rfl, by decide +kernel, rfl, by decide +kernel, by decide +kernel⟩
/-! _law_draw -/
abbrev s4 : Stmt := topS 7
def N4 : List Str := [(Str.ofString "_law_feed_here"), (Str.ofString "_law_many"), (Str.ofString "_law_found"), (Str.ofString "_law_cell"), (Str.ofString "_law_mixed")]
def P4 : List Str := [(Str.ofString "_law_feed_here"), (Str.ofString "_law_many")]
theorem S4 : FnScope N4 P4 (defScope s4) := ⟨rfl, rfl, rfl, by decide +kernel, rfl, by decide +kernel, by decide +kernel⟩
/-! _law_pick -/
abbrev s5 : Stmt := topS 8
def N5 : List Str := [(Str.ofString "_law_feed_here"), (Str.ofString "_law_some")]
def P5 : List Str := [(Str.ofString "_law_feed_here"), (Str.ofString "_law_some")]
theorem S5 : FnScope N5 P5 (defScope s5) := ⟨rfl, rfl, rfl, by decide +kernel, rfl, by decide +kernel, by decide +kernel⟩
/-! _law_spent -/
abbrev s6 : Stmt := topS 9
def N6 : List Str := [(Str.ofString "_law_pool")]
def P6 : List Str := [(Str.ofString "_law_pool")]
theorem S6 : FnScope N6 P6 (defScope s6) := ⟨rfl, rfl, rfl, by decide +kernel, rfl, by decide +kernel, by decide +kernel⟩
/-! _law_sum -/
abbrev s7 : Stmt := topS 10
def N7 : List Str := [(Str.ofString "_law_feed_here"), (Str.ofString "_law_deep"), (Str.ofString "_law_pool"), (Str.ofString "_law_way")]
def P7 : List Str := [(Str.ofString "_law_feed_here"), (Str.ofString "_law_deep"), (Str.ofString "_law_pool")]
theorem S7 : FnScope N7 P7 (defScope s7) := ⟨rfl, rfl, rfl, by decide +kernel, rfl, by decide +kernel, by decide +kernel⟩
/-! _law_test -/
abbrev s8 : Stmt := topS 11
def N8 : List Str := [(Str.ofString "_law_feed_here"), (Str.ofString "_law_deep"), (Str.ofString "_law_pool"), (Str.ofString "_law_way"), (Str.ofString "_law_some"), (Str.ofString "_law_k")]
def P8 : List Str := [(Str.ofString "_law_feed_here"), (Str.ofString "_law_deep"), (Str.ofString "_law_pool")]
theorem S8 : FnScope N8 P8 (defScope s8) := ⟨rfl, rfl, rfl, by decide +kernel, rfl, by decide +kernel, by decide +kernel⟩
/-! _law_pieces -/
abbrev s9 : Stmt := topS 12
def N9 : List Str := [(Str.ofString "_law_feed_here"), (Str.ofString "_law_deep"), (Str.ofString "_law_pool"), (Str.ofString "_law_only"), (Str.ofString "_law_many"), (Str.ofString "_law_k")]
def P9 : List Str := [(Str.ofString "_law_feed_here"), (Str.ofString "_law_deep"), (Str.ofString "_law_pool"), (Str.ofString "_law_only")]
theorem S9 : FnScope N9 P9 (defScope s9) := ⟨rfl, rfl, rfl, by decide +kernel, rfl, by decide +kernel, by decide +kernel⟩
/-! _law_piece -/
abbrev s10 : Stmt := topS 13
def N10 : List Str := [(Str.ofString "_law_feed_here"), (Str.ofString "_law_deep"), (Str.ofString "_law_pool"), (Str.ofString "_law_only"), (Str.ofString "_law_way"), (Str.ofString "_law_first")]
def P10 : List Str := [(Str.ofString "_law_feed_here"), (Str.ofString "_law_deep"), (Str.ofString "_law_pool"), (Str.ofString "_law_only")]
theorem S10 : FnScope N10 P10 (defScope s10) := ⟨rfl, rfl, rfl, by decide +kernel, rfl, by decide +kernel, by decide +kernel⟩
/-! _law_act -/
abbrev s11 : Stmt := topS 14
def N11 : List Str := [(Str.ofString "_law_feed_here"), (Str.ofString "_law_pool"), (Str.ofString "_law_way"), (Str.ofString "_law_folk"), (Str.ofString "_law_spots"), (Str.ofString "_law_name")]
def P11 : List Str := [(Str.ofString "_law_feed_here"), (Str.ofString "_law_pool")]
theorem S11 : FnScope N11 P11 (defScope s11) := ⟨rfl, rfl, rfl, by decide +kernel, rfl, by decide +kernel, by decide +kernel⟩
/-! _law_next -/
abbrev s12 : Stmt := topS 15
def N12 : List Str := [(Str.ofString "_law_feed_here"), (Str.ofString "_law_pool"), (Str.ofString "_law_way"), (Str.ofString "_law_scene_here")]
def P12 : List Str := [(Str.ofString "_law_feed_here"), (Str.ofString "_law_pool")]
theorem S12 : FnScope N12 P12 (defScope s12) := ⟨rfl, rfl, rfl, by decide +kernel, rfl, by decide +kernel, by decide +kernel⟩
/-! _law_choice -/
abbrev s13 : Stmt := topS 16
def N13 : List Str := [(Str.ofString "_law_feed_here"), (Str.ofString "_law_name"), (Str.ofString "_law_pool"), (Str.ofString "_law_tries"), (Str.ofString "_law_k"), (Str.ofString "_law_acts"), (Str.ofString "_law_one"), (Str.ofString "_law_label"), (Str.ofString "_law_test_here")]
def P13 : List Str := [(Str.ofString "_law_feed_here"), (Str.ofString "_law_name"), (Str.ofString "_law_pool")]
theorem S13 : FnScope N13 P13 (defScope s13) := ⟨rfl, rfl, rfl, by decide +kernel, rfl, by decide +kernel, by decide +kernel⟩
/-! _law_scene -/
abbrev s14 : Stmt := topS 17
def N14 : List Str := [(Str.ofString "_law_feed_here"), (Str.ofString "_law_name"), (Str.ofString "_law_pool"), (Str.ofString "_law_names"), (Str.ofString "_law_choices"), (Str.ofString "_law_one"), (Str.ofString "_law_woven"), (Str.ofString "_law_ending")]
def P14 : List Str := [(Str.ofString "_law_feed_here"), (Str.ofString "_law_name"), (Str.ofString "_law_pool")]
theorem S14 : FnScope N14 P14 (defScope s14) := ⟨rfl, rfl, rfl, by decide +kernel, rfl, by decide +kernel, by decide +kernel⟩
/-! _law_tale -/
abbrev s15 : Stmt := topS 18
def N15 : List Str := [(Str.ofString "_law_feed_here"), (Str.ofString "_law_many"), (Str.ofString "_law_names"), (Str.ofString "_law_numbers"), (Str.ofString "_law_places"), (Str.ofString "_law_figures"), (Str.ofString "_law_pool"), (Str.ofString "_law_rows"), (Str.ofString "_law_k"), (Str.ofString "_law_name"), (Str.ofString "_law_doors"), (Str.ofString "_law_one"), (Str.ofString "_law_other"), (Str.ofString "_law_digits"), (Str.ofString "_law_folk"), (Str.ofString "_law_scenes")]
def P15 : List Str := [(Str.ofString "_law_feed_here"), (Str.ofString "_law_many")]
theorem S15 : FnScope N15 P15 (defScope s15) := ⟨rfl, rfl, rfl, by decide +kernel, rfl, by decide +kernel, by decide +kernel⟩
/-! _law_come_to -/
abbrev s16 : Stmt := topS 19
def N16 : List Str := [(Str.ofString "_law_story"), (Str.ofString "_law_found"), (Str.ofString "_law_left"), (Str.ofString "_law_here"), (Str.ofString "_law_scene_here"), (Str.ofString "_law_one"), (Str.ofString "_law_more"), (Str.ofString "_law_choice_here")]
def P16 : List Str := [(Str.ofString "_law_story")]
theorem S16 : FnScope N16 P16 (defScope s16) := ⟨rfl, rfl, rfl, by decide +kernel, rfl, by decide +kernel, by decide +kernel⟩
/-! _law_chain -/
abbrev s17 : Stmt := topS 20
def N17 : List Str := [(Str.ofString "_law_way"), (Str.ofString "_law_names"), (Str.ofString "_law_scenes"), (Str.ofString "_law_k"), (Str.ofString "_law_to"), (Str.ofString "_law_after"), (Str.ofString "_law_choice_here")]
def P17 : List Str := [(Str.ofString "_law_way")]
theorem S17 : FnScope N17 P17 (defScope s17) := ⟨rfl, rfl, rfl, by decide +kernel, rfl, by decide +kernel, by decide +kernel⟩
/-! law -/
abbrev s18 : Stmt := topS 21
def N18 : List Str := [(Str.ofString "_law_script"), (Str.ofString "_law_feed_here"), (Str.ofString "_law_some"), (Str.ofString "_law_way"), (Str.ofString "_law_story"), (Str.ofString "_law_cut"), (Str.ofString "_law_shut"), (Str.ofString "_law_scene_here"), (Str.ofString "_law_turn"), (Str.ofString "_law_bare"), (Str.ofString "_law_kept"), (Str.ofString "_law_come"), (Str.ofString "_law_due")]
def P18 : List Str := [(Str.ofString "_law_script")]
theorem S18 : FnScope N18 P18 (defScope s18) := ⟨rfl, rfl, rfl, by decide +kernel, rfl, by decide +kernel, by decide +kernel⟩
def dS (i : Nat) : Stmt := match i with
  | 0 => s0
  | 1 => s1
  | 2 => s2
  | 3 => s3
  | 4 => s4
  | 5 => s5
  | 6 => s6
  | 7 => s7
  | 8 => s8
  | 9 => s9
  | 10 => s10
  | 11 => s11
  | 12 => s12
  | 13 => s13
  | 14 => s14
  | 15 => s15
  | 16 => s16
  | 17 => s17
  | 18 => s18
  | _ => s0
def dX (i : Nat) : Str := match i with
  | 0 => (Str.ofString "scenes_by_name")
  | 1 => (Str.ofString "loose_ends")
  | 2 => (Str.ofString "_led_to")
  | 3 => (Str.ofString "_law_feed")
  | 4 => (Str.ofString "_law_draw")
  | 5 => (Str.ofString "_law_pick")
  | 6 => (Str.ofString "_law_spent")
  | 7 => (Str.ofString "_law_sum")
  | 8 => (Str.ofString "_law_test")
  | 9 => (Str.ofString "_law_pieces")
  | 10 => (Str.ofString "_law_piece")
  | 11 => (Str.ofString "_law_act")
  | 12 => (Str.ofString "_law_next")
  | 13 => (Str.ofString "_law_choice")
  | 14 => (Str.ofString "_law_scene")
  | 15 => (Str.ofString "_law_tale")
  | 16 => (Str.ofString "_law_come_to")
  | 17 => (Str.ofString "_law_chain")
  | 18 => (Str.ofString "law")
  | _ => Str.empty
def dP (i : Nat) : List Str := match i with
  | 0 => P0
  | 1 => P1
  | 2 => P2
  | 3 => P3
  | 4 => P4
  | 5 => P5
  | 6 => P6
  | 7 => P7
  | 8 => P8
  | 9 => P9
  | 10 => P10
  | 11 => P11
  | 12 => P12
  | 13 => P13
  | 14 => P14
  | 15 => P15
  | 16 => P16
  | 17 => P17
  | 18 => P18
  | _ => []
def dN (i : Nat) : Nat := match i with
  | 0 => 1
  | 1 => 1
  | 2 => 1
  | 3 => 1
  | 4 => 2
  | 5 => 2
  | 6 => 1
  | 7 => 3
  | 8 => 3
  | 9 => 4
  | 10 => 4
  | 11 => 2
  | 12 => 2
  | 13 => 3
  | 14 => 3
  | 15 => 2
  | 16 => 1
  | 17 => 1
  | 18 => 1
  | _ => 0
structure Txt (K : PySem.W.Frag) (mg : Str → Option Value) (f : Nat → Addr) (fd : Nat → FuncData) : Prop where
  d : ∀ i, i < 19 → DefAt K mg (dX i) (dS i) (dP i) (f i) (fd i)
  b_dict : mg (Str.ofString "dict") = none
  b_enumerate : mg (Str.ofString "enumerate") = none
  b_len : mg (Str.ofString "len") = none
  b_list : mg (Str.ofString "list") = none
  b_range : mg (Str.ofString "range") = none
  b_repr : mg (Str.ofString "repr") = none
  b_set : mg (Str.ofString "set") = none
  b_sorted : mg (Str.ofString "sorted") = none
  b_tuple : mg (Str.ofString "tuple") = none
/-- scenes_by_name -/
def m0 (C : Nat → MF) : MF := mBody 2 (mRet (mDc (mItr (mBin ixA (mVar 0) (mC (.int 5)))) (gN 1) (mYes) (mBin ixA (mVar 1) (mC (.int 0))) (mVar 1) [1]))
/-- loose_ends -/
def m1 (C : Nat → MF) : MF := mBody 7 (mSeq (mAsg (mCall 1 (C 0) (mCons (mVar 0) (mNil))) (gN 1))
    (mSeq (mAsg (mBin ixA (mVar 0) (mC (.int 6))) (gN 2))
    (mSeq (mAsg (mDisp [(mVar 2, mC (.bl true))]) (gN 3))
    (mSeq (mAsg (mLst (mCons (mVar 2) (mNil))) (gN 4))
    (mSeq (mWh (mTru (mVar 4)) (mSeq (mAsg (mBin ixA (mVar 1) (mMt "list" gPop (mVar 4) mNil)) (gN 5))
    (mFor (mItr (mCall 1 (C 2) (mCons (mVar 5) (mNil)))) (gN 6) (mIfS (asB (mBin (inA not) (mVar 6) (mVar 3))) (mSeq (mAsg (mC (.bl true)) (gSubM (mVar 3) (mVar 6) setSeq))
    (mDrop (mMt "list" gAppend (mVar 4) (mCons (mVar 6) (mNil))))) (mNext)))) 100000)
    (mRet (mBlt gTuple (mCons (mLockE 1 (mLc (mWalk (fun p => kD p.1) (mVar 1)) (gN 6) (asB (mBin (inA not) (mVar 6) (mVar 3))) (mVar 6) [6])) (mNil)))))))))
/-- _led_to -/
def m2 (C : Nat → MF) : MF := mBody 6 (mSeq (mAsg (mVar 0) (gT 5 (gsC (gN 1) (gsC (gN 1) (gsC (gN 2) (gsC (gN 3) (gsC (gN 1) (gsN))))))))
    (mRet (mBin dAdd (mLc2 (mItr (mVar 2)) (gN 4) (mYes) (mItr (mSl slA (mBin ixA (mVar 4) (mC (.int 5))) (mPart (mC (.int 1))) (mNo))) (gN 5) (mYes) (mVar 5) [4, 5] [5]) (mBlt gList (mCons (mVar 3) (mNil))))))
/-- _law_feed -/
def m3 (C : Nat → MF) : MF := mBody 1 (mRet (mLst (mCons (mSl slA (mVar 0) (mNo) (mPart (mC (.int 63)))) (mCons (mC (.int 0)) (mCons (mC (.int 0)) (mCons (mC (.int 0)) (mNil)))))))
/-- _law_draw -/
def m4 (C : Nat → MF) : MF := mBody 5 (mSeq (mAsg (mBin dAdd (mBin ixA (mVar 0) (mC (.int 3))) (mC (.int 1))) (gSubM (mVar 0) (mC (.int 3)) setSeq))
    (mSeq (mIfS (asB (mBin dGt (mBin ixA (mVar 0) (mC (.int 2))) (mC (.int 0)))) (mSeq (mAsg (mBin dMod (mBin ixA (mVar 0) (mC (.int 2))) (mVar 1)) (gN 2))
    (mSeq (mAsg (mBin dDiv (mBin ixA (mVar 0) (mC (.int 2))) (mVar 1)) (gSubM (mVar 0) (mC (.int 2)) setSeq))
    (mRet (mVar 2)))) (mNext))
    (mSeq (mAsg (mC (.int 5)) (gN 3))
    (mSeq (mIfS (asB (mBin dNe (mBin ixA (mVar 0) (mC (.int 0))) (mLst (mNil)))) (mAsg (mBin ixA (mBin ixA (mVar 0) (mC (.int 0))) (mBin dMod (mBin ixA (mVar 0) (mC (.int 1))) (mBlt gLen (mCons (mBin ixA (mVar 0) (mC (.int 0))) (mNil))))) (gN 3)) (mNext))
    (mSeq (mAsg (mBin dAdd (mBin ixA (mVar 0) (mC (.int 1))) (mC (.int 1))) (gSubM (mVar 0) (mC (.int 1)) setSeq))
    (mSeq (mIfS (mAndT (asB (mBin dGe (mVar 3) (mBin dPow (mC (.int 10)) (mC (.int 18))))) (asB (mBin dLe (mBin ixA (mVar 0) (mC (.int 1))) (mBlt gLen (mCons (mBin ixA (mVar 0) (mC (.int 0))) (mNil)))))) (mSeq (mAsg (mBin dDiv (mVar 3) (mVar 1)) (gSubM (mVar 0) (mC (.int 2)) setSeq))
    (mRet (mBin dMod (mVar 3) (mVar 1)))) (mNext))
    (mSeq (mAsg (mBin dMod (mBin dPow (mBin dAdd (mBin dAdd (mBin dMod (mVar 3) (mC (.int 2147483629))) (mBin dMul (mC (.int 7919)) (mBin ixA (mVar 0) (mC (.int 3))))) (mC (.int 1))) (mC (.int 5))) (mC (.int 2147483647))) (gN 4))
    (mRet (mBin dMod (mBin dDiv (mBin dMod (mBin dPow (mBin dAdd (mVar 4) (mBin dMul (mC (.int 104729)) (mBin ixA (mVar 0) (mC (.int 3))))) (mC (.int 5))) (mC (.int 2147483587))) (mC (.int 64))) (mVar 1))))))))))
/-- _law_pick -/
def m5 (C : Nat → MF) : MF := mBody 2 (mRet (mBin ixA (mVar 1) (mCall 2 (C 4) (mCons (mVar 0) (mCons (mBlt gLen (mCons (mVar 1) (mNil))) (mNil))))))
/-- _law_spent -/
def m6 (C : Nat → MF) : MF := mBody 1 (mSeq (mAsg (mBin dSub (mBin ixA (mBin ixA (mVar 0) (mC (.str (Str.ofString "left")))) (mC (.int 0))) (mC (.int 1))) (gSubM (mBin ixA (mVar 0) (mC (.str (Str.ofString "left")))) (mC (.int 0)) setSeq))
    (mRet (mBin dLt (mBin ixA (mBin ixA (mVar 0) (mC (.str (Str.ofString "left")))) (mC (.int 0))) (mC (.int 0)))))
/-- _law_sum -/
def m7 (C : Nat → MF) : MF := mBody 4 (mSeq (mAsg (mCall 2 (C 4) (mCons (mVar 0) (mCons (mC (.int 7)) (mNil)))) (gN 3))
    (mSeq (mIfS (mTru (mCall 1 (C 6) (mCons (mVar 2) (mNil)))) (mRet (mTup (mCons (mC (.str (Str.ofString "num"))) (mCons (mVar 3) (mNil))))) (mNext))
    (mSeq (mIfS (mAndT (asB (mBin dLt (mVar 3) (mC (.int 2)))) (asB (mBin dGt (mVar 1) (mC (.int 0))))) (mRet (mTup (mCons (mBin ixA (mLst (mCons (mC (.str (Str.ofString "plus"))) (mCons (mC (.str (Str.ofString "minus"))) (mNil)))) (mVar 3)) (mCons (mCall 3 (C 7) (mCons (mVar 0) (mCons (mBin dSub (mVar 1) (mC (.int 1))) (mCons (mVar 2) (mNil))))) (mCons (mCall 3 (C 7) (mCons (mVar 0) (mCons (mBin dSub (mVar 1) (mC (.int 1))) (mCons (mVar 2) (mNil))))) (mNil)))))) (mNext))
    (mSeq (mIfS (mAndT (asB (mBin dLt (mVar 3) (mC (.int 4)))) (asB (mBin dNe (mBin ixA (mVar 2) (mC (.str (Str.ofString "number")))) (mLst (mNil))))) (mRet (mTup (mCons (mC (.str (Str.ofString "of"))) (mCons (mCall 2 (C 5) (mCons (mVar 0) (mCons (mBin ixA (mVar 2) (mC (.str (Str.ofString "number")))) (mNil)))) (mNil))))) (mNext))
    (mSeq (mIfS (mAndT (asB (mBin dEq (mVar 3) (mC (.int 4)))) (asB (mBin dNe (mBin ixA (mVar 2) (mC (.str (Str.ofString "scene")))) (mLst (mNil))))) (mRet (mTup (mCons (mC (.str (Str.ofString "seen"))) (mCons (mCall 2 (C 5) (mCons (mVar 0) (mCons (mBin ixA (mVar 2) (mC (.str (Str.ofString "scene")))) (mNil)))) (mNil))))) (mNext))
    (mRet (mTup (mCons (mC (.str (Str.ofString "num"))) (mCons (mBin ixA (mLst (mCons (mC (.int 0)) (mCons (mC (.int 1)) (mCons (mC (.int 2)) (mCons (mC (.int 9)) (mCons (mNeg (mC (.int 3))) (mCons (mC (.int 10)) (mNil)))))))) (mCall 2 (C 4) (mCons (mVar 0) (mCons (mC (.int 6)) (mNil))))) (mNil))))))))))
/-- _law_test -/
def m8 (C : Nat → MF) : MF := mBody 6 (mSeq (mAsg (mCall 2 (C 4) (mCons (mVar 0) (mCons (mC (.int 9)) (mNil)))) (gN 3))
    (mSeq (mIfS (mTru (mCall 1 (C 6) (mCons (mVar 2) (mNil)))) (mRet (mTup (mCons (mC (.str (Str.ofString "all"))) (mCons (mTup (mNil)) (mNil))))) (mNext))
    (mSeq (mIfS (mAndT (asB (mBin dLt (mVar 3) (mC (.int 3)))) (asB (mBin dGt (mVar 1) (mC (.int 0))))) (mSeq (mAsg (mBlt gTuple (mCons (mLc (mR1 (mCons (mCall 2 (C 4) (mCons (mVar 0) (mCons (mC (.int 3)) (mNil)))) (mNil))) (gN 5) (mYes) (mCall 3 (C 8) (mCons (mVar 0) (mCons (mBin dSub (mVar 1) (mC (.int 1))) (mCons (mVar 2) (mNil))))) [5]) (mNil))) (gN 4))
    (mRet (mBin ixA (mLst (mCons (mTup (mCons (mC (.str (Str.ofString "not"))) (mCons (mCall 3 (C 8) (mCons (mVar 0) (mCons (mBin dSub (mVar 1) (mC (.int 1))) (mCons (mVar 2) (mNil))))) (mNil)))) (mCons (mTup (mCons (mC (.str (Str.ofString "all"))) (mCons (mVar 4) (mNil)))) (mCons (mTup (mCons (mC (.str (Str.ofString "any"))) (mCons (mVar 4) (mNil)))) (mNil))))) (mVar 3)))) (mNext))
    (mSeq (mIfS (mAndT (asB (mBin dEq (mVar 3) (mC (.int 3)))) (mAndT (asB (mBin dNe (mBin ixA (mVar 2) (mC (.str (Str.ofString "figure")))) (mLst (mNil)))) (asB (mBin dNe (mBin ixA (mVar 2) (mC (.str (Str.ofString "place")))) (mLst (mNil)))))) (mRet (mTup (mCons (mC (.str (Str.ofString "at"))) (mCons (mCall 2 (C 5) (mCons (mVar 0) (mCons (mBin ixA (mVar 2) (mC (.str (Str.ofString "figure")))) (mNil)))) (mCons (mCall 2 (C 5) (mCons (mVar 0) (mCons (mBin ixA (mVar 2) (mC (.str (Str.ofString "place")))) (mNil)))) (mNil)))))) (mNext))
    (mSeq (mIfS (mAndT (asB (mBin dEq (mVar 3) (mC (.int 4)))) (asB (mBin dNe (mBin ixA (mVar 2) (mC (.str (Str.ofString "figure")))) (mLst (mNil))))) (mRet (mTup (mCons (mC (.str (Str.ofString "with"))) (mCons (mCall 2 (C 5) (mCons (mVar 0) (mCons (mBin ixA (mVar 2) (mC (.str (Str.ofString "figure")))) (mNil)))) (mCons (mCall 2 (C 5) (mCons (mVar 0) (mCons (mBin ixA (mVar 2) (mC (.str (Str.ofString "figure")))) (mNil)))) (mNil)))))) (mNext))
    (mSeq (mIfS (asB (mBin dLt (mVar 3) (mC (.int 7)))) (mRet (mTup (mCons (mC (.str (Str.ofString "is"))) (mCons (mCall 3 (C 7) (mCons (mVar 0) (mCons (mC (.int 1)) (mCons (mVar 2) (mNil))))) (mCons (mBin ixA (mLst (mCons (mC (.str (Str.ofString "<"))) (mCons (mC (.str (Str.ofString "="))) (mCons (mC (.str (Str.ofString ">"))) (mNil))))) (mCall 2 (C 4) (mCons (mVar 0) (mCons (mC (.int 3)) (mNil))))) (mCons (mCall 3 (C 7) (mCons (mVar 0) (mCons (mC (.int 1)) (mCons (mVar 2) (mNil))))) (mNil))))))) (mNext))
    (mRet (mTup (mCons (mC (.str (Str.ofString "all"))) (mCons (mTup (mNil)) (mNil)))))))))))
/-- _law_pieces -/
def m9 (C : Nat → MF) : MF := mBody 6 (mSeq (mAsg (mIf (asB (mBin dGt (mBin ixA (mBin ixA (mVar 2) (mC (.str (Str.ofString "left")))) (mC (.int 0))) (mC (.int 0)))) (mCall 2 (C 4) (mCons (mVar 0) (mCons (mC (.int 3)) (mNil)))) (mC (.int 0))) (gN 4))
    (mRet (mBlt gTuple (mCons (mLc (mR1 (mCons (mVar 4) (mNil))) (gN 5) (mYes) (mCall 4 (C 10) (mCons (mVar 0) (mCons (mVar 1) (mCons (mVar 2) (mCons (mVar 3) (mNil)))))) [5]) (mNil)))))
/-- _law_piece -/
def m10 (C : Nat → MF) : MF := mBody 6 (mSeq (mAsg (mCall 2 (C 4) (mCons (mVar 0) (mCons (mC (.int 9)) (mNil)))) (gN 4))
    (mSeq (mIfS (mTru (mCall 1 (C 6) (mCons (mVar 2) (mNil)))) (mRet (mTup (mCons (mC (.str (Str.ofString "end"))) (mNil)))) (mNext))
    (mSeq (mIfS (mAndT (asB (mBin dLt (mVar 4) (mC (.int 2)))) (asB (mBin dGt (mVar 1) (mC (.int 0))))) (mSeq (mAsg (mCall 4 (C 9) (mCons (mVar 0) (mCons (mBin dSub (mVar 1) (mC (.int 1))) (mCons (mVar 2) (mCons (mVar 3) (mNil)))))) (gN 5))
    (mSeq (mIfS (mAndT (asB (mBin dEq (mVar 4) (mC (.int 1)))) (mTru (mVar 3))) (mRet (mTup (mCons (mC (.str (Str.ofString "only"))) (mCons (mBin ixA (mLst (mCons (mC (.str (Str.ofString "ann"))) (mCons (mC (.str (Str.ofString "zoe"))) (mNil)))) (mCall 2 (C 4) (mCons (mVar 0) (mCons (mC (.int 2)) (mNil))))) (mCons (mVar 5) (mNil)))))) (mNext))
    (mRet (mTup (mCons (mC (.str (Str.ofString "if"))) (mCons (mCall 3 (C 8) (mCons (mVar 0) (mCons (mC (.int 1)) (mCons (mVar 2) (mNil))))) (mCons (mVar 5) (mCons (mCall 4 (C 9) (mCons (mVar 0) (mCons (mBin dSub (mVar 1) (mC (.int 1))) (mCons (mVar 2) (mCons (mVar 3) (mNil)))))) (mNil))))))))) (mNext))
    (mSeq (mIfS (asB (mBin dEq (mVar 4) (mC (.int 2)))) (mRet (mTup (mCons (mC (.str (Str.ofString "worth"))) (mCons (mCall 3 (C 7) (mCons (mVar 0) (mCons (mC (.int 2)) (mCons (mVar 2) (mNil))))) (mNil))))) (mNext))
    (mSeq (mIfS (mAndT (asB (mBin dEq (mVar 4) (mC (.int 3)))) (asB (mBin dNe (mBin ixA (mVar 2) (mC (.str (Str.ofString "figure")))) (mLst (mNil))))) (mRet (mTup (mCons (mC (.str (Str.ofString "place"))) (mCons (mCall 2 (C 5) (mCons (mVar 0) (mCons (mBin ixA (mVar 2) (mC (.str (Str.ofString "figure")))) (mNil)))) (mNil))))) (mNext))
    (mSeq (mIfS (asB (mBin dLt (mVar 4) (mC (.int 6)))) (mRet (mBin ixA (mLst (mCons (mTup (mCons (mC (.str (Str.ofString "end"))) (mNil))) (mCons (mTup (mCons (mC (.str (Str.ofString "glue"))) (mNil))) (mNil)))) (mBin dMod (mVar 4) (mC (.int 2))))) (mNext))
    (mRet (mTup (mCons (mC (.str (Str.ofString "text"))) (mCons (mBin ixA (mLst (mCons (mC (.str (Str.ofString ""))) (mCons (mC (.str (Str.ofString " "))) (mCons (mC (.str (Str.ofString "You go."))) (mCons (mC (.str (Str.ofString "a  b "))) (mCons (mC (.str (Str.ofString "done"))) (mCons (mC (.str (Str.ofString "else"))) (mCons (mC (.str (Str.ofString "text x"))) (mCons (mC (.str (Str.ofString "if all 0"))) (mNil)))))))))) (mCall 2 (C 4) (mCons (mVar 0) (mCons (mC (.int 8)) (mNil))))) (mNil)))))))))))
/-- _law_act -/
def m11 (C : Nat → MF) : MF := mBody 6 (mSeq (mPar [2, 3, 4] (mCons (mCall 2 (C 4) (mCons (mVar 0) (mCons (mC (.int 6)) (mNil)))) (mCons (mBin ixA (mVar 1) (mC (.str (Str.ofString "figure")))) (mCons (mBin ixA (mVar 1) (mC (.str (Str.ofString "place")))) (mNil)))))
    (mSeq (mIfS (mAndT (asB (mBin dLt (mVar 2) (mC (.int 2)))) (asB (mBin dNe (mBin ixA (mVar 1) (mC (.str (Str.ofString "number")))) (mLst (mNil))))) (mSeq (mAsg (mCall 2 (C 5) (mCons (mVar 0) (mCons (mBin ixA (mVar 1) (mC (.str (Str.ofString "number")))) (mNil)))) (gN 5))
    (mRet (mBin ixA (mLst (mCons (mTup (mCons (mC (.str (Str.ofString "set"))) (mCons (mVar 5) (mCons (mCall 3 (C 7) (mCons (mVar 0) (mCons (mC (.int 2)) (mCons (mVar 1) (mNil))))) (mNil))))) (mCons (mTup (mCons (mC (.str (Str.ofString "draw"))) (mCons (mVar 5) (mNil)))) (mNil)))) (mVar 2)))) (mNext))
    (mSeq (mIfS (mAndT (asB (mBin dLt (mVar 2) (mC (.int 4)))) (mAndT (asB (mBin dNe (mVar 3) (mLst (mNil)))) (asB (mBin dNe (mVar 4) (mLst (mNil)))))) (mRet (mTup (mCons (mBin ixA (mLst (mCons (mC (.str (Str.ofString "go"))) (mCons (mC (.str (Str.ofString "put"))) (mNil)))) (mBin dMod (mVar 2) (mC (.int 2)))) (mCons (mCall 2 (C 5) (mCons (mVar 0) (mCons (mVar 3) (mNil)))) (mCons (mCall 2 (C 5) (mCons (mVar 0) (mCons (mVar 4) (mNil)))) (mNil)))))) (mNext))
    (mSeq (mIfS (mAndT (asB (mBin dEq (mVar 2) (mC (.int 4)))) (asB (mBin dNe (mVar 3) (mLst (mNil))))) (mRet (mTup (mCons (mC (.str (Str.ofString "join"))) (mCons (mCall 2 (C 5) (mCons (mVar 0) (mCons (mVar 3) (mNil)))) (mCons (mCall 2 (C 5) (mCons (mVar 0) (mCons (mVar 3) (mNil)))) (mNil)))))) (mNext))
    (mRet (mIf (asB (mBin dNe (mVar 3) (mLst (mNil)))) (mTup (mCons (mC (.str (Str.ofString "leave"))) (mCons (mCall 2 (C 5) (mCons (mVar 0) (mCons (mVar 3) (mNil)))) (mNil)))) (mC .non)))))))
/-- _law_next -/
def m12 (C : Nat → MF) : MF := mBody 4 (mSeq (mAsg (mCall 2 (C 4) (mCons (mVar 0) (mCons (mC (.int 5)) (mNil)))) (gN 2))
    (mSeq (mIfS (asB (mBin dEq (mVar 2) (mC (.int 0)))) (mRet (mTup (mCons (mC (.str (Str.ofString "back"))) (mNil)))) (mNext))
    (mSeq (mAsg (mCall 2 (C 5) (mCons (mVar 0) (mCons (mBin ixA (mVar 1) (mC (.str (Str.ofString "scene")))) (mNil)))) (gN 3))
    (mRet (mIf (asB (mBin dEq (mVar 2) (mC (.int 1)))) (mTup (mCons (mC (.str (Str.ofString "into"))) (mCons (mVar 3) (mCons (mCall 2 (C 5) (mCons (mVar 0) (mCons (mBin ixA (mVar 1) (mC (.str (Str.ofString "scene")))) (mNil)))) (mNil))))) (mTup (mCons (mC (.str (Str.ofString "to"))) (mCons (mVar 3) (mNil)))))))))
/-- _law_choice -/
def m13 (C : Nat → MF) : MF := mBody 9 (mSeq (mAsg (mLc (mR1 (mCons (mCall 2 (C 4) (mCons (mVar 0) (mCons (mC (.int 3)) (mNil)))) (mNil))) (gN 4) (mYes) (mCall 2 (C 11) (mCons (mVar 0) (mCons (mVar 2) (mNil)))) [4]) (gN 3))
    (mSeq (mAsg (mBlt gTuple (mCons (mLc (mItr (mVar 3)) (gN 6) (asB (mBin dIsNotO (mVar 6) (mC .non))) (mVar 6) [6]) (mNil))) (gN 5))
    (mSeq (mPar [7, 8] (mCons (mCall 4 (C 9) (mCons (mVar 0) (mCons (mC (.int 1)) (mCons (mVar 2) (mCons (mC (.bl false)) (mNil)))))) (mCons (mCall 3 (C 8) (mCons (mVar 0) (mCons (mC (.int 2)) (mCons (mVar 2) (mNil))))) (mNil))))
    (mRet (mTup (mCons (mVar 1) (mCons (mVar 7) (mCons (mVar 8) (mCons (mBin dEq (mCall 2 (C 4) (mCons (mVar 0) (mCons (mC (.int 3)) (mNil)))) (mC (.int 0))) (mCons (mVar 5) (mCons (mCall 2 (C 12) (mCons (mVar 0) (mCons (mVar 2) (mNil)))) (mNil))))))))))))
/-- _law_scene -/
def m14 (C : Nat → MF) : MF := mBody 8 (mSeq (mAsg (mSl slA (mLst (mCons (mC (.str (Str.ofString "go"))) (mCons (mC (.str (Str.ofString "ask"))) (mCons (mC (.str (Str.ofString "once"))) (mNil))))) (mPart (mCall 2 (C 4) (mCons (mVar 0) (mCons (mC (.int 2)) (mNil))))) (mNo)) (gN 3))
    (mSeq (mAsg (mBlt gTuple (mCons (mLc (mItr (mSl slA (mVar 3) (mNo) (mPart (mCall 2 (C 4) (mCons (mVar 0) (mCons (mC (.int 3)) (mNil))))))) (gN 5) (mYes) (mCall 3 (C 13) (mCons (mVar 0) (mCons (mVar 5) (mCons (mVar 2) (mNil))))) [5]) (mNil))) (gN 4))
    (mSeq (mAsg (mLc (mItr (mBin ixA (mVar 2) (mC (.str (Str.ofString "scene"))))) (gN 5) (asB (mBin dEq (mCall 2 (C 4) (mCons (mVar 0) (mCons (mC (.int 5)) (mNil)))) (mC (.int 0)))) (mVar 5) [5]) (gN 6))
    (mSeq (mAsg (mIf (asB (mBin dEq (mCall 2 (C 4) (mCons (mVar 0) (mCons (mC (.int 6)) (mNil)))) (mC (.int 0)))) (mBin ixA (mLst (mCons (mC (.str (Str.ofString "won"))) (mCons (mC (.str (Str.ofString "lost"))) (mNil)))) (mCall 2 (C 4) (mCons (mVar 0) (mCons (mC (.int 2)) (mNil))))) (mC .non)) (gN 7))
    (mRet (mTup (mCons (mVar 1) (mCons (mCall 4 (C 9) (mCons (mVar 0) (mCons (mC (.int 2)) (mCons (mVar 2) (mCons (mC (.bl true)) (mNil)))))) (mCons (mVar 4) (mCons (mBlt gTuple (mCons (mRv (mVar 6)) (mNil))) (mCons (mVar 7) (mNil))))))))))))
/-- _law_tale -/
def m15 (C : Nat → MF) : MF := mBody 16 (mSeq (mAsg (mSl slA (mLst (mCons (mC (.str (Str.ofString "barn"))) (mCons (mC (.str (Str.ofString "cave"))) (mCons (mC (.str (Str.ofString "dusk"))) (mCons (mC (.str (Str.ofString "end"))) (mCons (mC (.str (Str.ofString "hall"))) (mCons (mC (.str (Str.ofString "zzzzzzzz"))) (mNil)))))))) (mNo) (mPart (mBin dAdd (mC (.int 1)) (mCall 2 (C 4) (mCons (mVar 0) (mCons (mVar 1) (mNil))))))) (gN 2))
    (mSeq (mAsg (mSl slA (mLst (mCons (mC (.str (Str.ofString "gold"))) (mCons (mC (.str (Str.ofString "hp"))) (mCons (mC (.str (Str.ofString "k"))) (mNil))))) (mPart (mCall 2 (C 4) (mCons (mVar 0) (mCons (mC (.int 2)) (mNil))))) (mPart (mBin dAdd (mC (.int 1)) (mCall 2 (C 4) (mCons (mVar 0) (mCons (mC (.int 3)) (mNil))))))) (gN 3))
    (mSeq (mAsg (mSl slA (mLst (mCons (mC (.str (Str.ofString "cave"))) (mCons (mC (.str (Str.ofString "inn"))) (mCons (mC (.str (Str.ofString "yard"))) (mNil))))) (mPart (mCall 2 (C 4) (mCons (mVar 0) (mCons (mC (.int 2)) (mNil))))) (mPart (mBin dAdd (mC (.int 1)) (mCall 2 (C 4) (mCons (mVar 0) (mCons (mC (.int 3)) (mNil))))))) (gN 4))
    (mSeq (mAsg (mIf (asB (mBin dNe (mVar 4) (mLst (mNil)))) (mSl slA (mLst (mCons (mC (.str (Str.ofString "ann"))) (mCons (mC (.str (Str.ofString "bob"))) (mCons (mC (.str (Str.ofString "cat"))) (mNil))))) (mNo) (mPart (mCall 2 (C 4) (mCons (mVar 0) (mCons (mC (.int 4)) (mNil)))))) (mLst (mNil))) (gN 5))
    (mSeq (mAsg (mDisp [(mC (.str (Str.ofString "scene")), mVar 2), (mC (.str (Str.ofString "number")), mVar 3), (mC (.str (Str.ofString "place")), mVar 4), (mC (.str (Str.ofString "figure")), mVar 5), (mC (.str (Str.ofString "left")), mLst (mCons (mC (.int 60)) (mNil)))]) (gN 6))
    (mSeq (mAsg (mLc (mEn (mCons (mVar 3) (mNil))) (gT 2 (gsC (gN 8) (gsC (gN 9) (gsN)))) (mYes) (mTup (mCons (mVar 9) (mCons (mC (.int 0)) (mCons (mBin dSub (mC (.int 9)) (mVar 8)) (mCons (mCall 2 (C 4) (mCons (mVar 0) (mCons (mC (.int 5)) (mNil)))) (mNil)))))) [8, 9]) (gN 7))
    (mSeq (mAsg (mLst (mNil)) (gN 10))
    (mSeq (mFor (mItr (mVar 4)) (gN 11) (mAsg (mBin dAdd (mVar 10) (mLc (mItr (mVar 4)) (gN 12) (mAndT (asB (mBin dLt (mVar 11) (mVar 12))) (asB (mBin dEq (mCall 2 (C 4) (mCons (mVar 0) (mCons (mC (.int 2)) (mNil)))) (mC (.int 0))))) (mTup (mCons (mVar 11) (mCons (mVar 12) (mNil)))) [12])) (gN 10)))
    (mSeq (mAsg (mBlt gTuple (mCons (mLc (mR1 (mCons (mCall 2 (C 4) (mCons (mVar 0) (mCons (mC (.int 4)) (mNil)))) (mNil))) (gN 8) (mYes) (mCall 2 (C 4) (mCons (mVar 0) (mCons (mC (.int 10)) (mNil)))) [8]) (mNil))) (gN 13))
    (mSeq (mAsg (mLc (mItr (mVar 5)) (gN 9) (mYes) (mTup (mCons (mVar 9) (mCons (mCall 2 (C 5) (mCons (mVar 0) (mCons (mVar 4) (mNil)))) (mNil)))) [9]) (gN 14))
    (mSeq (mAsg (mBlt gTuple (mCons (mLc (mItr (mVar 2)) (gN 9) (mYes) (mCall 3 (C 14) (mCons (mVar 0) (mCons (mVar 9) (mCons (mVar 6) (mNil))))) [9]) (mNil))) (gN 15))
    (mRet (mTup (mCons (mBlt gTuple (mCons (mVar 7) (mNil))) (mCons (mBlt gTuple (mCons (mVar 4) (mNil))) (mCons (mBlt gTuple (mCons (mVar 10) (mNil))) (mCons (mBlt gTuple (mCons (mVar 14) (mNil))) (mCons (mVar 13) (mCons (mVar 15) (mCons (mCall 2 (C 5) (mCons (mVar 0) (mCons (mVar 2) (mNil)))) (mNil)))))))))))))))))))))
/-- _law_come_to -/
def m16 (C : Nat → MF) : MF := mBody 8 (mSeq (mAsg (mTup (mCons (mDisp [(mBin ixA (mVar 0) (mC (.int 6)), mC (.bl true))]) (mCons (mLst (mCons (mBin ixA (mVar 0) (mC (.int 6))) (mNil))) (mNil)))) (gT 2 (gsC (gN 1) (gsC (gN 2) (gsN)))))
    (mSeq (mWh (asB (mBin dNe (mVar 2) (mLst (mNil)))) (mSeq (mAsg (mMt "list" gPop (mVar 2) mNil) (gN 3))
    (mSeq (mAsg (mBin ixA (mLc (mItr (mBin ixA (mVar 0) (mC (.int 5)))) (gN 5) (asB (mBin dEq (mBin ixA (mVar 5) (mC (.int 0))) (mVar 3))) (mVar 5) [5]) (mC (.int 0))) (gN 4))
    (mSeq (mAsg (mBlt gList (mCons (mBin ixA (mVar 4) (mC (.int 3))) (mNil))) (gN 6))
    (mSeq (mFor (mItr (mBin ixA (mVar 4) (mC (.int 2)))) (gN 7) (mAsg (mBin dAdd (mVar 6) (mBlt gList (mCons (mSl slA (mBin ixA (mVar 7) (mC (.int 5))) (mPart (mC (.int 1))) (mNo)) (mNil)))) (gN 6)))
    (mSeq (mAsg (mBin dAdd (mVar 2) (mLc (mItr (mOfSet gSortS (mVar 6))) (gN 5) (asB (mBin (inA not) (mVar 5) (mVar 1))) (mVar 5) [5])) (gN 2))
    (mDrop (mMt "dict" gUpdate (mVar 1) (mCons (mBlt gDict (mCons (mLc (mItr (mVar 6)) (gN 5) (mYes) (mTup (mCons (mVar 5) (mCons (mC (.bl true)) (mNil)))) [5]) (mNil))) (mNil))))))))) 100000)
    (mRet (mBlt gSortedD (mCons (mVar 1) (mNil))))))
/-- _law_chain -/
def m17 (C : Nat → MF) : MF := mBody 7 (mSeq (mPar [1, 2] (mCons (mC (.str (Str.ofString "abcdefgh"))) (mCons (mLst (mNil)) (mNil))))
    (mSeq (mFor (mR1 (mCons (mC (.int 8)) (mNil))) (gN 3) (mSeq (mAsg (mBin ixA (mVar 1) (mBin dMod (mBin dAdd (mVar 3) (mC (.int 2))) (mC (.int 8)))) (gN 4))
    (mSeq (mAsg (mBin ixA (mLst (mCons (mTup (mCons (mC (.str (Str.ofString "to"))) (mCons (mVar 4) (mNil)))) (mCons (mTup (mCons (mC (.str (Str.ofString "into"))) (mCons (mVar 4) (mCons (mBin ixA (mVar 1) (mVar 3)) (mNil))))) (mCons (mTup (mCons (mC (.str (Str.ofString "into"))) (mCons (mBin ixA (mVar 1) (mVar 3)) (mCons (mVar 4) (mNil))))) (mCons (mTup (mCons (mC (.str (Str.ofString "back"))) (mNil))) (mNil)))))) (mVar 0)) (gN 5))
    (mSeq (mAsg (mTup (mCons (mC (.str (Str.ofString "go"))) (mCons (mTup (mCons (mTup (mCons (mC (.str (Str.ofString "worth"))) (mCons (mTup (mCons (mC (.str (Str.ofString "seen"))) (mCons (mBin ixA (mVar 1) (mBin dMod (mBin dAdd (mVar 3) (mC (.int 1))) (mC (.int 8)))) (mNil)))) (mNil)))) (mNil))) (mCons (mTup (mCons (mC (.str (Str.ofString "all"))) (mCons (mTup (mNil)) (mNil)))) (mCons (mC (.bl false)) (mCons (mTup (mNil)) (mCons (mVar 5) (mNil)))))))) (gN 6))
    (mDrop (mMt "list" gAppend (mVar 2) (mCons (mTup (mCons (mBin ixA (mVar 1) (mVar 3)) (mCons (mTup (mNil)) (mCons (mTup (mCons (mVar 6) (mNil))) (mCons (mIf (asB (mBin dEq (mVar 0) (mC (.int 3)))) (mTup (mCons (mVar 4) (mNil))) (mTup (mNil))) (mCons (mC .non) (mNil))))))) (mNil))))))))
    (mRet (mTup (mCons (mTup (mNil)) (mCons (mTup (mNil)) (mCons (mTup (mNil)) (mCons (mTup (mNil)) (mCons (mTup (mNil)) (mCons (mBlt gTuple (mCons (mVar 2) (mNil))) (mCons (mC (.str (Str.ofString "a"))) (mNil))))))))))))
/-- law -/
def m18 (C : Nat → MF) : MF := mBody 13 (mSeq (mAsg (mCall 1 (C 3) (mCons (mVar 0) (mNil))) (gN 1))
    (mSeq (mAsg (mLst (mCons (mTup (mCons (mTup (mNil)) (mCons (mTup (mNil)) (mCons (mTup (mNil)) (mCons (mTup (mNil)) (mCons (mTup (mNil)) (mCons (mTup (mCons (mTup (mCons (mC (.str (Str.ofString "a"))) (mCons (mTup (mNil)) (mCons (mTup (mNil)) (mCons (mTup (mNil)) (mCons (mC (.str (Str.ofString "x"))) (mNil))))))) (mNil))) (mCons (mC (.str (Str.ofString "a"))) (mNil))))))))) (mNil))) (gN 2))
    (mSeq (mFor (mR1 (mCons (mC (.int 4)) (mNil))) (gN 3) (mSeq (mAsg (mCall 1 (C 17) (mCons (mVar 3) (mNil))) (gN 4))
    (mSeq (mIfS (mOrT (asB (mBin dNe (mCall 1 (C 1) (mCons (mVar 4) (mNil))) (mTup (mCons (mC (.str (Str.ofString "b"))) (mCons (mC (.str (Str.ofString "d"))) (mCons (mC (.str (Str.ofString "f"))) (mCons (mC (.str (Str.ofString "h"))) (mNil)))))))) (asB (mBin dNe (mCall 1 (C 1) (mCons (mBin dAdd (mSl slA (mVar 4) (mNo) (mPart (mC (.int 6)))) (mTup (mCons (mC (.str (Str.ofString "d"))) (mNil)))) (mNil))) (mTup (mCons (mC (.str (Str.ofString "a"))) (mCons (mC (.str (Str.ofString "c"))) (mCons (mC (.str (Str.ofString "e"))) (mCons (mC (.str (Str.ofString "g"))) (mNil))))))))) (mRet (mC (.bl false))) (mNext))
    (mSeq (mAsg (mBin dAdd (mBin dAdd (mSl slA (mBin ixA (mVar 4) (mC (.int 5))) (mNo) (mPart (mC (.int 4)))) (mTup (mCons (mTup (mCons (mBin ixA (mBin ixA (mBin ixA (mVar 4) (mC (.int 5))) (mC (.int 4))) (mC (.int 0))) (mCons (mTup (mNil)) (mCons (mTup (mNil)) (mCons (mTup (mNil)) (mCons (mC .non) (mNil))))))) (mNil)))) (mSl slA (mBin ixA (mVar 4) (mC (.int 5))) (mPart (mC (.int 5))) (mNo))) (gN 5))
    (mSeq (mAsg (mBlt gTuple (mCons (mLc (mItr (mBin ixA (mVar 4) (mC (.int 5)))) (gN 7) (mYes) (mBin dAdd (mSl slA (mVar 7) (mNo) (mPart (mC (.int 4)))) (mTup (mCons (mC (.str (Str.ofString "x"))) (mNil)))) [7]) (mNil))) (gN 6))
    (mAsg (mBin dAdd (mVar 2) (mLst (mCons (mVar 4) (mCons (mBin dAdd (mSl slA (mVar 4) (mNo) (mPart (mC (.int 5)))) (mTup (mCons (mVar 5) (mCons (mC (.str (Str.ofString "a"))) (mNil))))) (mCons (mBin dAdd (mSl slA (mVar 4) (mNo) (mPart (mC (.int 5)))) (mTup (mCons (mVar 5) (mCons (mC (.str (Str.ofString "g"))) (mNil))))) (mCons (mBin dAdd (mSl slA (mVar 4) (mNo) (mPart (mC (.int 5)))) (mTup (mCons (mVar 6) (mCons (mC (.str (Str.ofString "a"))) (mNil))))) (mNil))))))) (gN 2)))))))
    (mSeq (mFor (mR1 (mCons (mC (.int 4)) (mNil))) (gN 8) (mSeq (mAsg (mCall 2 (C 15) (mCons (mVar 1) (mCons (mC (.int 6)) (mNil)))) (gN 4))
    (mSeq (mAsg (mBin dAdd (mVar 2) (mLc (mItr (mBin ixA (mVar 4) (mC (.int 5)))) (gN 7) (mYes) (mBin dAdd (mSl slA (mVar 4) (mNo) (mPart (mC (.int 6)))) (mTup (mCons (mBin ixA (mVar 7) (mC (.int 0))) (mNil)))) [7])) (gN 2))
    (mSeq (mAsg (mBlt gTuple (mCons (mLc (mItr (mBin ixA (mVar 4) (mC (.int 5)))) (gN 7) (mYes) (mBin dAdd (mBin dAdd (mSl slA (mVar 7) (mNo) (mPart (mC (.int 2)))) (mTup (mCons (mTup (mNil)) (mNil)))) (mSl slA (mVar 7) (mPart (mC (.int 3))) (mNo))) [7]) (mNil))) (gN 9))
    (mAsg (mBin dAdd (mVar 2) (mLst (mCons (mBin dAdd (mSl slA (mVar 4) (mNo) (mPart (mC (.int 5)))) (mTup (mCons (mVar 9) (mCons (mBin ixA (mVar 4) (mC (.int 6))) (mNil))))) (mCons (mBin dAdd (mSl slA (mVar 4) (mNo) (mPart (mC (.int 5)))) (mTup (mCons (mBin dAdd (mSl slA (mBin ixA (mVar 4) (mC (.int 5))) (mNo) (mPart (mC (.int 1)))) (mSl slA (mVar 9) (mPart (mC (.int 1))) (mNo))) (mCons (mBin ixA (mVar 4) (mC (.int 6))) (mNil))))) (mNil))))) (gN 2))))))
    (mSeq (mFor (mItr (mVar 2)) (gN 4) (mSeq (mAsg (mTup (mCons (mBlt gRepr (mCons (mVar 4) (mNil))) (mCons (mCall 1 (C 16) (mCons (mVar 4) (mNil))) (mNil)))) (gT 2 (gsC (gN 10) (gsC (gN 11) (gsN)))))
    (mSeq (mAsg (mBlt gTuple (mCons (mLc (mItr (mBin ixA (mVar 4) (mC (.int 5)))) (gN 7) (asB (mBin (inA not) (mBin ixA (mVar 7) (mC (.int 0))) (mVar 11))) (mBin ixA (mVar 7) (mC (.int 0))) [7]) (mNil))) (gN 12))
    (mIfS (mOrT (asB (mBin dNe (mBlt gRepr (mCons (mCall 1 (C 1) (mCons (mVar 4) (mNil))) (mNil))) (mBlt gRepr (mCons (mVar 12) (mNil))))) (asB (mBin dNe (mBlt gRepr (mCons (mVar 4) (mNil))) (mVar 10)))) (mRet (mC (.bl false))) (mNext)))))
    (mRet (mC (.bl true))))))))
def lv : Nat → Nat → MF
  | 0, _ => fun _ _ => none
  | k + 1, i => match i with
    | 0 => m0 (lv k)
    | 1 => m1 (lv k)
    | 2 => m2 (lv k)
    | 3 => m3 (lv k)
    | 4 => m4 (lv k)
    | 5 => m5 (lv k)
    | 6 => m6 (lv k)
    | 7 => m7 (lv k)
    | 8 => m8 (lv k)
    | 9 => m9 (lv k)
    | 10 => m10 (lv k)
    | 11 => m11 (lv k)
    | 12 => m12 (lv k)
    | 13 => m13 (lv k)
    | 14 => m14 (lv k)
    | 15 => m15 (lv k)
    | 16 => m16 (lv k)
    | 17 => m17 (lv k)
    | 18 => m18 (lv k)
    | _ => fun _ _ => none
section
variable {P : Program} {w : World} {K : PySem.W.Frag} {mg : Str → Option Value} {base : Heap} {f : Nat → Addr} {fd : Nat → FuncData}
theorem ok0 (T : Txt K mg f fd) {k : Nat} {C : Nat → MF} (G : ∀ i, i < 19 → FnG P w K mg base k (f i) (fd i) (dP i) (spM K mg (dN i) (C i))) : FnG P w K mg base (k + 1) (f 0) (fd 0) (dP 0) (spM K mg 1 (m0 C)) := by
  refine fnG_ok (st := s0) (x := (Str.ofString "scenes_by_name")) (qual := (Str.ofString "scenes_by_name")) (T.d 0 (by decide)).fn S0 rfl (fun cdv A outer s H E hr hgd => ?_)
  refine cSs_one ?_
  refine cS_ret ?_
  refine cE_dc (L := [1]) (own := [ ((Str.ofString "scene") , 1) ]) rfl S0.nd ?_ (by exact show blkC N0 (defScope s0) _ [ ((Str.ofString "scene") , 1) ] = true from by decide +kernel) (by decide) (fun _ _ _ _ _ => ?_) (fun _ _ _ _ _ => ?_) (fun _ _ _ _ _ => ?_) (fun _ _ _ _ _ => ?_)
  · refine cI_seq ?_
    refine kIx (hu_of hr) ?_ ?_
    · exact cV 0
    · exact cE_int 
  · exact cGn 1 S0.nd
  · exact cTs_nil 
  · refine kIx (hu_of hr) ?_ ?_
    · exact cV 1
    · exact cE_int 
  · exact cV 1
theorem ok1 (T : Txt K mg f fd) {k : Nat} {C : Nat → MF} (G : ∀ i, i < 19 → FnG P w K mg base k (f i) (fd i) (dP i) (spM K mg (dN i) (C i))) : FnG P w K mg base (k + 1) (f 1) (fd 1) (dP 1) (spM K mg 1 (m1 C)) := by
  refine fnG_ok (st := s1) (x := (Str.ofString "loose_ends")) (qual := (Str.ofString "loose_ends")) (T.d 1 (by decide)).fn S1 rfl (fun cdv A outer s H E hr hgd => ?_)
  refine cSs_cons ?_ ?_
  · refine kSet 1 S1.nd ?_
    refine kCall (x := dX 0) (ps := P0) (G 0 (by decide)) hr hgd (T.d 0 (by decide)).fn.kp (T.d 0 (by decide)).bi (T.d 0 (by decide)).mg ?_
    refine kA ?_ ?_
    · exact cV 0
    · exact cA_nil 
  · refine cSs_cons ?_ ?_
    · refine kSet 2 S1.nd ?_
      refine kIx (hu_of hr) ?_ ?_
      · exact cV 0
      · exact cE_int 
    · refine cSs_cons ?_ ?_
      · refine kSet 3 S1.nd ?_
        refine cE_disp ?_ rfl rfl (by simp) (by decide)
        refine cPs_cons ?_ ?_ ?_
        · exact cV 2
        · exact cE_bl 
        · exact cPs_nil 
      · refine cSs_cons ?_ ?_
        · refine kSet 4 S1.nd ?_
          refine cE_lst ?_
          refine kA ?_ ?_
          · exact cV 2
          · exact cA_nil 
        · refine cSs_cons ?_ ?_
          · refine cS_while 100000 PassesOwn.never ?_ ?_
            · refine kTru ?_
              exact cV 4
            · refine cSs_cons ?_ ?_
              · refine kSet 5 S1.nd ?_
                refine kIx (hu_of hr) ?_ ?_
                · exact cV 1
                · refine kMt0 PySem.F.plainAttrs_list PySem.F.slot_list_pop PySem.F.type_list_pop mt_pop mtS_pop ?_
                  exact cV 4
              · refine cSs_one ?_
                refine kFor (L := [6]) PassesOwn.never rfl ?_ ?_ ?_
                · refine cI_seq ?_
                  refine kCall (x := dX 2) (ps := P2) (G 2 (by decide)) hr hgd (T.d 2 (by decide)).fn.kp (T.d 2 (by decide)).bi (T.d 2 (by decide)).mg ?_
                  refine kA ?_ ?_
                  · exact cV 5
                  · exact cA_nil 
                · exact cGn 6 S1.nd
                · refine cSs_one ?_
                  refine cS_if ?_ ?_ ?_
                  · refine kNotInT (hu_of hr) ?_ ?_
                    · exact cV 6
                    · exact cV 3
                  · refine cSs_cons ?_ ?_
                    · refine kAsgT (L := []) ?_ ?_
                      · exact cE_bl 
                      · refine kGs (hu_of hr) ?_ ?_
                        · exact cV 3
                        · exact cV 6
                    · refine cSs_one ?_
                      refine kExpr ?_
                      refine kMt PySem.F.plainAttrs_list PySem.F.slot_list_append PySem.F.type_list_append mt_append mtS_append ?_ ?_
                      · exact cV 4
                      · refine kA ?_ ?_
                        · exact cV 6
                        · exact cA_nil 
                  · exact cSs_nil 
          · refine cSs_one ?_
            refine cS_ret ?_
            refine kTy call_tuple_of callS_tuple T.b_tuple boot_tuple ?_
            refine kA ?_ ?_
            · refine cE_lock 1 ?_
              refine kLc (L := [6]) (own := [ ((Str.ofString "name") , 6) ]) rfl S1.nd ?_ (by exact show blkC N1 (defScope s1) _ [ ((Str.ofString "name") , 6) ] = true from by decide +kernel) (by decide) (fun _ _ _ _ _ => ?_) (fun _ _ _ _ _ => ?_) (fun _ _ _ _ _ => ?_)
              · refine cI_keys ?_
                exact cV 1
              · exact cGn 6 S1.nd
              · refine cTs_one ?_
                refine kNotInT (hu_of hr) ?_ ?_
                · exact cV 6
                · exact cV 3
              · exact cV 6
            · exact cA_nil 
theorem ok2 (T : Txt K mg f fd) {k : Nat} {C : Nat → MF} (G : ∀ i, i < 19 → FnG P w K mg base k (f i) (fd i) (dP i) (spM K mg (dN i) (C i))) : FnG P w K mg base (k + 1) (f 2) (fd 2) (dP 2) (spM K mg 1 (m2 C)) := by
  refine fnG_ok (st := s2) (x := (Str.ofString "_led_to")) (qual := (Str.ofString "_led_to")) (T.d 2 (by decide)).fn S2 rfl (fun cdv A outer s H E hr hgd => ?_)
  refine cSs_cons ?_ ?_
  · refine kAsg (L := ([1] ++ ([1] ++ ([2] ++ ([3] ++ ([1] ++ [])))))) ?_ ?_
    · exact cV 0
    · refine kGt rfl ?_
      refine kGc ?_ ?_
      · exact cGn 1 S2.nd
      · refine kGc ?_ ?_
        · exact cGn 1 S2.nd
        · refine kGc ?_ ?_
          · exact cGn 2 S2.nd
          · refine kGc ?_ ?_
            · exact cGn 3 S2.nd
            · refine kGc ?_ ?_
              · exact cGn 1 S2.nd
              · exact cGs_nil 
  · refine cSs_one ?_
    refine cS_ret ?_
    refine cE_bin (op_add.or (op_add_str.or (op_catA.or op_cat))) (OpS.alt opS_iiI0 (OpS.alt opS_ssS (OpS.alt opS_ttT opS_llL))) ?_ ?_
    · refine cE_lc2 (L := [4]) (L1 := [5]) (own := [ ((Str.ofString "choice") , 4) , ((Str.ofString "name") , 5) ]) (vs1 := [5]) rfl S2.nd ?_ (by exact show blkC N2 (defScope s2) _ [ ((Str.ofString "choice") , 4) , ((Str.ofString "name") , 5) ] = true from by decide +kernel) (by decide) (by decide) (by decide) (fun _ _ _ _ _ => ?_) (fun _ _ _ _ _ => ?_) (fun _ _ _ _ _ => ?_) (fun _ _ _ _ _ => ?_) (fun _ _ _ _ _ => ?_) (fun _ _ _ _ _ => ?_)
      · refine cI_seq ?_
        exact cV 2
      · exact cGn 4 S2.nd
      · exact cTs_nil 
      · refine cI_seq ?_
        refine cE_slA ?_ ?_ ?_
        · refine kIx (hu_of hr) ?_ ?_
          · exact cV 4
          · exact cE_int 
        · refine cO_some ?_
          exact cE_int 
        · exact cO_none 
      · exact cGn 5 S2.nd
      · exact cTs_nil 
      · exact cV 5
    · refine kTy call_list_of callS_list T.b_list boot_list ?_
      refine kA ?_ ?_
      · exact cV 3
      · exact cA_nil 
theorem ok3 (T : Txt K mg f fd) {k : Nat} {C : Nat → MF} (G : ∀ i, i < 19 → FnG P w K mg base k (f i) (fd i) (dP i) (spM K mg (dN i) (C i))) : FnG P w K mg base (k + 1) (f 3) (fd 3) (dP 3) (spM K mg 1 (m3 C)) := by
  refine fnG_ok (st := s3) (x := (Str.ofString "_law_feed")) (qual := (Str.ofString "_law_feed")) (T.d 3 (by decide)).fn S3 rfl (fun cdv A outer s H E hr hgd => ?_)
  refine cSs_one ?_
  refine cS_ret ?_
  refine cE_lst ?_
  refine kA ?_ ?_
  · refine cE_slA ?_ ?_ ?_
    · exact cV 0
    · exact cO_none 
    · refine cO_some ?_
      exact cE_int 
  · refine kA ?_ ?_
    · exact cE_int 
    · refine kA ?_ ?_
      · exact cE_int 
      · refine kA ?_ ?_
        · exact cE_int 
        · exact cA_nil 
theorem ok4 (T : Txt K mg f fd) {k : Nat} {C : Nat → MF} (G : ∀ i, i < 19 → FnG P w K mg base k (f i) (fd i) (dP i) (spM K mg (dN i) (C i))) : FnG P w K mg base (k + 1) (f 4) (fd 4) (dP 4) (spM K mg 2 (m4 C)) := by
  refine fnG_ok (st := s4) (x := (Str.ofString "_law_draw")) (qual := (Str.ofString "_law_draw")) (T.d 4 (by decide)).fn S4 rfl (fun cdv A outer s H E hr hgd => ?_)
  refine cSs_cons ?_ ?_
  · refine kAsgT (L := []) ?_ ?_
    · refine cE_bin (op_add.or (op_add_str.or (op_catA.or op_cat))) (OpS.alt opS_iiI0 (OpS.alt opS_ssS (OpS.alt opS_ttT opS_llL))) ?_ ?_
      · refine kIx (hu_of hr) ?_ ?_
        · exact cV 0
        · exact cE_int 
      · exact cE_int 
    · refine kGs (hu_of hr) ?_ ?_
      · exact cV 0
      · exact cE_int 
  · refine cSs_cons ?_ ?_
    · refine cS_if ?_ ?_ ?_
      · refine kCmpT (op_gt.or op_gt_str) (OpS.alt opS_iiB opS_ssB) ?_ ?_
        · refine kIx (hu_of hr) ?_ ?_
          · exact cV 0
          · exact cE_int 
        · exact cE_int 
      · refine cSs_cons ?_ ?_
        · refine kSet 2 S4.nd ?_
          refine cE_bin op_mod opS_mod ?_ ?_
          · refine kIx (hu_of hr) ?_ ?_
            · exact cV 0
            · exact cE_int 
          · exact cV 1
        · refine cSs_cons ?_ ?_
          · refine kAsgT (L := []) ?_ ?_
            · refine cE_bin op_fdiv opS_fdiv ?_ ?_
              · refine kIx (hu_of hr) ?_ ?_
                · exact cV 0
                · exact cE_int 
              · exact cV 1
            · refine kGs (hu_of hr) ?_ ?_
              · exact cV 0
              · exact cE_int 
          · refine cSs_one ?_
            refine cS_ret ?_
            exact cV 2
      · exact cSs_nil 
    · refine cSs_cons ?_ ?_
      · refine kSet 3 S4.nd ?_
        exact cE_int 
      · refine cSs_cons ?_ ?_
        · refine cS_if ?_ ?_ ?_
          · refine kCmpT (op_ne.or (op_neD hr.units)) (OpS.alt opS_sNe opS_deepNe) ?_ ?_
            · refine kIx (hu_of hr) ?_ ?_
              · exact cV 0
              · exact cE_int 
            · refine cE_lst ?_
              exact cA_nil 
          · refine cSs_one ?_
            refine kSet 3 S4.nd ?_
            refine kIx (hu_of hr) ?_ ?_
            · refine kIx (hu_of hr) ?_ ?_
              · exact cV 0
              · exact cE_int 
            · refine cE_bin op_mod opS_mod ?_ ?_
              · refine kIx (hu_of hr) ?_ ?_
                · exact cV 0
                · exact cE_int 
              · refine kB (call_len_seq.or call_len_str) callS_len T.b_len PySem.boot_len ?_
                refine kA ?_ ?_
                · refine kIx (hu_of hr) ?_ ?_
                  · exact cV 0
                  · exact cE_int 
                · exact cA_nil 
          · exact cSs_nil 
        · refine cSs_cons ?_ ?_
          · refine kAsgT (L := []) ?_ ?_
            · refine cE_bin (op_add.or (op_add_str.or (op_catA.or op_cat))) (OpS.alt opS_iiI0 (OpS.alt opS_ssS (OpS.alt opS_ttT opS_llL))) ?_ ?_
              · refine kIx (hu_of hr) ?_ ?_
                · exact cV 0
                · exact cE_int 
              · exact cE_int 
            · refine kGs (hu_of hr) ?_ ?_
              · exact cV 0
              · exact cE_int 
          · refine cSs_cons ?_ ?_
            · refine cS_if ?_ ?_ ?_
              · refine cT_w ?_
                refine cW_and ?_ ?_
                · refine kCmpT (op_ge.or op_ge_str) (OpS.alt opS_iiB opS_ssB) ?_ ?_
                  · exact cV 3
                  · refine cE_bin op_pow opS_pow ?_ ?_
                    · exact cE_int 
                    · exact cE_int 
                · refine cW_and1 ?_
                  refine kCmpT (op_le.or op_le_str) (OpS.alt opS_iiB opS_ssB) ?_ ?_
                  · refine kIx (hu_of hr) ?_ ?_
                    · exact cV 0
                    · exact cE_int 
                  · refine kB (call_len_seq.or call_len_str) callS_len T.b_len PySem.boot_len ?_
                    refine kA ?_ ?_
                    · refine kIx (hu_of hr) ?_ ?_
                      · exact cV 0
                      · exact cE_int 
                    · exact cA_nil 
              · refine cSs_cons ?_ ?_
                · refine kAsgT (L := []) ?_ ?_
                  · refine cE_bin op_fdiv opS_fdiv ?_ ?_
                    · exact cV 3
                    · exact cV 1
                  · refine kGs (hu_of hr) ?_ ?_
                    · exact cV 0
                    · exact cE_int 
                · refine cSs_one ?_
                  refine cS_ret ?_
                  refine cE_bin op_mod opS_mod ?_ ?_
                  · exact cV 3
                  · exact cV 1
              · exact cSs_nil 
            · refine cSs_cons ?_ ?_
              · refine kSet 4 S4.nd ?_
                refine cE_bin op_mod opS_mod ?_ ?_
                · refine cE_bin op_pow opS_pow ?_ ?_
                  · refine cE_bin (op_add.or (op_add_str.or (op_catA.or op_cat))) (OpS.alt opS_iiI0 (OpS.alt opS_ssS (OpS.alt opS_ttT opS_llL))) ?_ ?_
                    · refine cE_bin (op_add.or (op_add_str.or (op_catA.or op_cat))) (OpS.alt opS_iiI0 (OpS.alt opS_ssS (OpS.alt opS_ttT opS_llL))) ?_ ?_
                      · refine cE_bin op_mod opS_mod ?_ ?_
                        · exact cV 3
                        · exact cE_int 
                      · refine cE_bin (op_mul.or op_repT) (OpS.alt opS_mul opS_tiT) ?_ ?_
                        · exact cE_int 
                        · refine kIx (hu_of hr) ?_ ?_
                          · exact cV 0
                          · exact cE_int 
                    · exact cE_int 
                  · exact cE_int 
                · exact cE_int 
              · refine cSs_one ?_
                refine cS_ret ?_
                refine cE_bin op_mod opS_mod ?_ ?_
                · refine cE_bin op_fdiv opS_fdiv ?_ ?_
                  · refine cE_bin op_mod opS_mod ?_ ?_
                    · refine cE_bin op_pow opS_pow ?_ ?_
                      · refine cE_bin (op_add.or (op_add_str.or (op_catA.or op_cat))) (OpS.alt opS_iiI0 (OpS.alt opS_ssS (OpS.alt opS_ttT opS_llL))) ?_ ?_
                        · exact cV 4
                        · refine cE_bin (op_mul.or op_repT) (OpS.alt opS_mul opS_tiT) ?_ ?_
                          · exact cE_int 
                          · refine kIx (hu_of hr) ?_ ?_
                            · exact cV 0
                            · exact cE_int 
                      · exact cE_int 
                    · exact cE_int 
                  · exact cE_int 
                · exact cV 1
theorem ok5 (T : Txt K mg f fd) {k : Nat} {C : Nat → MF} (G : ∀ i, i < 19 → FnG P w K mg base k (f i) (fd i) (dP i) (spM K mg (dN i) (C i))) : FnG P w K mg base (k + 1) (f 5) (fd 5) (dP 5) (spM K mg 2 (m5 C)) := by
  refine fnG_ok (st := s5) (x := (Str.ofString "_law_pick")) (qual := (Str.ofString "_law_pick")) (T.d 5 (by decide)).fn S5 rfl (fun cdv A outer s H E hr hgd => ?_)
  refine cSs_one ?_
  refine cS_ret ?_
  refine kIx (hu_of hr) ?_ ?_
  · exact cV 1
  · refine kCall (x := dX 4) (ps := P4) (G 4 (by decide)) hr hgd (T.d 4 (by decide)).fn.kp (T.d 4 (by decide)).bi (T.d 4 (by decide)).mg ?_
    refine kA ?_ ?_
    · exact cV 0
    · refine kA ?_ ?_
      · refine kB (call_len_seq.or call_len_str) callS_len T.b_len PySem.boot_len ?_
        refine kA ?_ ?_
        · exact cV 1
        · exact cA_nil 
      · exact cA_nil 
theorem ok6 (T : Txt K mg f fd) {k : Nat} {C : Nat → MF} (G : ∀ i, i < 19 → FnG P w K mg base k (f i) (fd i) (dP i) (spM K mg (dN i) (C i))) : FnG P w K mg base (k + 1) (f 6) (fd 6) (dP 6) (spM K mg 1 (m6 C)) := by
  refine fnG_ok (st := s6) (x := (Str.ofString "_law_spent")) (qual := (Str.ofString "_law_spent")) (T.d 6 (by decide)).fn S6 rfl (fun cdv A outer s H E hr hgd => ?_)
  refine cSs_cons ?_ ?_
  · refine kAsgT (L := []) ?_ ?_
    · refine cE_bin op_sub opS_iiI0 ?_ ?_
      · refine kIx (hu_of hr) ?_ ?_
        · refine kIx (hu_of hr) ?_ ?_
          · exact cV 0
          · exact cE_str 
        · exact cE_int 
      · exact cE_int 
    · refine kGs (hu_of hr) ?_ ?_
      · refine kIx (hu_of hr) ?_ ?_
        · exact cV 0
        · exact cE_str 
      · exact cE_int 
  · refine cSs_one ?_
    refine cS_ret ?_
    refine kCmp (op_lt.or op_lt_str) (OpS.alt opS_iiB opS_ssB) ?_ ?_
    · refine kIx (hu_of hr) ?_ ?_
      · refine kIx (hu_of hr) ?_ ?_
        · exact cV 0
        · exact cE_str 
      · exact cE_int 
    · exact cE_int 
theorem ok7 (T : Txt K mg f fd) {k : Nat} {C : Nat → MF} (G : ∀ i, i < 19 → FnG P w K mg base k (f i) (fd i) (dP i) (spM K mg (dN i) (C i))) : FnG P w K mg base (k + 1) (f 7) (fd 7) (dP 7) (spM K mg 3 (m7 C)) := by
  refine fnG_ok (st := s7) (x := (Str.ofString "_law_sum")) (qual := (Str.ofString "_law_sum")) (T.d 7 (by decide)).fn S7 rfl (fun cdv A outer s H E hr hgd => ?_)
  refine cSs_cons ?_ ?_
  · refine kSet 3 S7.nd ?_
    refine kCall (x := dX 4) (ps := P4) (G 4 (by decide)) hr hgd (T.d 4 (by decide)).fn.kp (T.d 4 (by decide)).bi (T.d 4 (by decide)).mg ?_
    refine kA ?_ ?_
    · exact cV 0
    · refine kA ?_ ?_
      · exact cE_int 
      · exact cA_nil 
  · refine cSs_cons ?_ ?_
    · refine cS_if ?_ ?_ ?_
      · refine kTru ?_
        refine kCall (x := dX 6) (ps := P6) (G 6 (by decide)) hr hgd (T.d 6 (by decide)).fn.kp (T.d 6 (by decide)).bi (T.d 6 (by decide)).mg ?_
        refine kA ?_ ?_
        · exact cV 2
        · exact cA_nil 
      · refine cSs_one ?_
        refine cS_ret ?_
        refine cE_tup ?_
        refine kA ?_ ?_
        · exact cE_str 
        · refine kA ?_ ?_
          · exact cV 3
          · exact cA_nil 
      · exact cSs_nil 
    · refine cSs_cons ?_ ?_
      · refine cS_if ?_ ?_ ?_
        · refine cT_w ?_
          refine cW_and ?_ ?_
          · refine kCmpT (op_lt.or op_lt_str) (OpS.alt opS_iiB opS_ssB) ?_ ?_
            · exact cV 3
            · exact cE_int 
          · refine cW_and1 ?_
            refine kCmpT (op_gt.or op_gt_str) (OpS.alt opS_iiB opS_ssB) ?_ ?_
            · exact cV 1
            · exact cE_int 
        · refine cSs_one ?_
          refine cS_ret ?_
          refine cE_tup ?_
          refine kA ?_ ?_
          · refine kIx (hu_of hr) ?_ ?_
            · refine cE_lst ?_
              refine kA ?_ ?_
              · exact cE_str 
              · refine kA ?_ ?_
                · exact cE_str 
                · exact cA_nil 
            · exact cV 3
          · refine kA ?_ ?_
            · refine kCall (x := dX 7) (ps := P7) (G 7 (by decide)) hr hgd (T.d 7 (by decide)).fn.kp (T.d 7 (by decide)).bi (T.d 7 (by decide)).mg ?_
              refine kA ?_ ?_
              · exact cV 0
              · refine kA ?_ ?_
                · refine cE_bin op_sub opS_iiI0 ?_ ?_
                  · exact cV 1
                  · exact cE_int 
                · refine kA ?_ ?_
                  · exact cV 2
                  · exact cA_nil 
            · refine kA ?_ ?_
              · refine kCall (x := dX 7) (ps := P7) (G 7 (by decide)) hr hgd (T.d 7 (by decide)).fn.kp (T.d 7 (by decide)).bi (T.d 7 (by decide)).mg ?_
                refine kA ?_ ?_
                · exact cV 0
                · refine kA ?_ ?_
                  · refine cE_bin op_sub opS_iiI0 ?_ ?_
                    · exact cV 1
                    · exact cE_int 
                  · refine kA ?_ ?_
                    · exact cV 2
                    · exact cA_nil 
              · exact cA_nil 
        · exact cSs_nil 
      · refine cSs_cons ?_ ?_
        · refine cS_if ?_ ?_ ?_
          · refine cT_w ?_
            refine cW_and ?_ ?_
            · refine kCmpT (op_lt.or op_lt_str) (OpS.alt opS_iiB opS_ssB) ?_ ?_
              · exact cV 3
              · exact cE_int 
            · refine cW_and1 ?_
              refine kCmpT (op_ne.or (op_neD hr.units)) (OpS.alt opS_sNe opS_deepNe) ?_ ?_
              · refine kIx (hu_of hr) ?_ ?_
                · exact cV 2
                · exact cE_str 
              · refine cE_lst ?_
                exact cA_nil 
          · refine cSs_one ?_
            refine cS_ret ?_
            refine cE_tup ?_
            refine kA ?_ ?_
            · exact cE_str 
            · refine kA ?_ ?_
              · refine kCall (x := dX 5) (ps := P5) (G 5 (by decide)) hr hgd (T.d 5 (by decide)).fn.kp (T.d 5 (by decide)).bi (T.d 5 (by decide)).mg ?_
                refine kA ?_ ?_
                · exact cV 0
                · refine kA ?_ ?_
                  · refine kIx (hu_of hr) ?_ ?_
                    · exact cV 2
                    · exact cE_str 
                  · exact cA_nil 
              · exact cA_nil 
          · exact cSs_nil 
        · refine cSs_cons ?_ ?_
          · refine cS_if ?_ ?_ ?_
            · refine cT_w ?_
              refine cW_and ?_ ?_
              · refine kCmpT (op_eq.or (op_eqD hr.units)) (OpS.alt opS_sEq opS_deepEq) ?_ ?_
                · exact cV 3
                · exact cE_int 
              · refine cW_and1 ?_
                refine kCmpT (op_ne.or (op_neD hr.units)) (OpS.alt opS_sNe opS_deepNe) ?_ ?_
                · refine kIx (hu_of hr) ?_ ?_
                  · exact cV 2
                  · exact cE_str 
                · refine cE_lst ?_
                  exact cA_nil 
            · refine cSs_one ?_
              refine cS_ret ?_
              refine cE_tup ?_
              refine kA ?_ ?_
              · exact cE_str 
              · refine kA ?_ ?_
                · refine kCall (x := dX 5) (ps := P5) (G 5 (by decide)) hr hgd (T.d 5 (by decide)).fn.kp (T.d 5 (by decide)).bi (T.d 5 (by decide)).mg ?_
                  refine kA ?_ ?_
                  · exact cV 0
                  · refine kA ?_ ?_
                    · refine kIx (hu_of hr) ?_ ?_
                      · exact cV 2
                      · exact cE_str 
                    · exact cA_nil 
                · exact cA_nil 
            · exact cSs_nil 
          · refine cSs_one ?_
            refine cS_ret ?_
            refine cE_tup ?_
            refine kA ?_ ?_
            · exact cE_str 
            · refine kA ?_ ?_
              · refine kIx (hu_of hr) ?_ ?_
                · refine cE_lst ?_
                  refine kA ?_ ?_
                  · exact cE_int 
                  · refine kA ?_ ?_
                    · exact cE_int 
                    · refine kA ?_ ?_
                      · exact cE_int 
                      · refine kA ?_ ?_
                        · exact cE_int 
                        · refine kA ?_ ?_
                          · refine cE_neg ?_
                            exact cE_int 
                          · refine kA ?_ ?_
                            · exact cE_int 
                            · exact cA_nil 
                · refine kCall (x := dX 4) (ps := P4) (G 4 (by decide)) hr hgd (T.d 4 (by decide)).fn.kp (T.d 4 (by decide)).bi (T.d 4 (by decide)).mg ?_
                  refine kA ?_ ?_
                  · exact cV 0
                  · refine kA ?_ ?_
                    · exact cE_int 
                    · exact cA_nil 
              · exact cA_nil 
theorem ok8 (T : Txt K mg f fd) {k : Nat} {C : Nat → MF} (G : ∀ i, i < 19 → FnG P w K mg base k (f i) (fd i) (dP i) (spM K mg (dN i) (C i))) : FnG P w K mg base (k + 1) (f 8) (fd 8) (dP 8) (spM K mg 3 (m8 C)) := by
  refine fnG_ok (st := s8) (x := (Str.ofString "_law_test")) (qual := (Str.ofString "_law_test")) (T.d 8 (by decide)).fn S8 rfl (fun cdv A outer s H E hr hgd => ?_)
  refine cSs_cons ?_ ?_
  · refine kSet 3 S8.nd ?_
    refine kCall (x := dX 4) (ps := P4) (G 4 (by decide)) hr hgd (T.d 4 (by decide)).fn.kp (T.d 4 (by decide)).bi (T.d 4 (by decide)).mg ?_
    refine kA ?_ ?_
    · exact cV 0
    · refine kA ?_ ?_
      · exact cE_int 
      · exact cA_nil 
  · refine cSs_cons ?_ ?_
    · refine cS_if ?_ ?_ ?_
      · refine kTru ?_
        refine kCall (x := dX 6) (ps := P6) (G 6 (by decide)) hr hgd (T.d 6 (by decide)).fn.kp (T.d 6 (by decide)).bi (T.d 6 (by decide)).mg ?_
        refine kA ?_ ?_
        · exact cV 2
        · exact cA_nil 
      · refine cSs_one ?_
        refine cS_ret ?_
        refine cE_tup ?_
        refine kA ?_ ?_
        · exact cE_str 
        · refine kA ?_ ?_
          · refine cE_tup ?_
            exact cA_nil 
          · exact cA_nil 
      · exact cSs_nil 
    · refine cSs_cons ?_ ?_
      · refine cS_if ?_ ?_ ?_
        · refine cT_w ?_
          refine cW_and ?_ ?_
          · refine kCmpT (op_lt.or op_lt_str) (OpS.alt opS_iiB opS_ssB) ?_ ?_
            · exact cV 3
            · exact cE_int 
          · refine cW_and1 ?_
            refine kCmpT (op_gt.or op_gt_str) (OpS.alt opS_iiB opS_ssB) ?_ ?_
            · exact cV 1
            · exact cE_int 
        · refine cSs_cons ?_ ?_
          · refine kSet 4 S8.nd ?_
            refine kTy call_tuple_of callS_tuple T.b_tuple boot_tuple ?_
            refine kA ?_ ?_
            · refine kLc (L := [5]) (own := [ ((Str.ofString "_law_k") , 5) ]) rfl S8.nd ?_ (by exact show blkC N8 (defScope s8) _ [ ((Str.ofString "_law_k") , 5) ] = true from by decide +kernel) (by decide) (fun _ _ _ _ _ => ?_) (fun _ _ _ _ _ => ?_) (fun _ _ _ _ _ => ?_)
              · refine kR1 T.b_range ?_
                refine kA ?_ ?_
                · refine kCall (x := dX 4) (ps := P4) (G 4 (by decide)) hr hgd (T.d 4 (by decide)).fn.kp (T.d 4 (by decide)).bi (T.d 4 (by decide)).mg ?_
                  refine kA ?_ ?_
                  · exact cV 0
                  · refine kA ?_ ?_
                    · exact cE_int 
                    · exact cA_nil 
                · exact cA_nil 
              · exact cGn 5 S8.nd
              · exact cTs_nil 
              · refine kCall (x := dX 8) (ps := P8) (G 8 (by decide)) hr hgd (T.d 8 (by decide)).fn.kp (T.d 8 (by decide)).bi (T.d 8 (by decide)).mg ?_
                refine kA ?_ ?_
                · exact cV 0
                · refine kA ?_ ?_
                  · refine cE_bin op_sub opS_iiI0 ?_ ?_
                    · exact cV 1
                    · exact cE_int 
                  · refine kA ?_ ?_
                    · exact cV 2
                    · exact cA_nil 
            · exact cA_nil 
          · refine cSs_one ?_
            refine cS_ret ?_
            refine kIx (hu_of hr) ?_ ?_
            · refine cE_lst ?_
              refine kA ?_ ?_
              · refine cE_tup ?_
                refine kA ?_ ?_
                · exact cE_str 
                · refine kA ?_ ?_
                  · refine kCall (x := dX 8) (ps := P8) (G 8 (by decide)) hr hgd (T.d 8 (by decide)).fn.kp (T.d 8 (by decide)).bi (T.d 8 (by decide)).mg ?_
                    refine kA ?_ ?_
                    · exact cV 0
                    · refine kA ?_ ?_
                      · refine cE_bin op_sub opS_iiI0 ?_ ?_
                        · exact cV 1
                        · exact cE_int 
                      · refine kA ?_ ?_
                        · exact cV 2
                        · exact cA_nil 
                  · exact cA_nil 
              · refine kA ?_ ?_
                · refine cE_tup ?_
                  refine kA ?_ ?_
                  · exact cE_str 
                  · refine kA ?_ ?_
                    · exact cV 4
                    · exact cA_nil 
                · refine kA ?_ ?_
                  · refine cE_tup ?_
                    refine kA ?_ ?_
                    · exact cE_str 
                    · refine kA ?_ ?_
                      · exact cV 4
                      · exact cA_nil 
                  · exact cA_nil 
            · exact cV 3
        · exact cSs_nil 
      · refine cSs_cons ?_ ?_
        · refine cS_if ?_ ?_ ?_
          · refine cT_w ?_
            refine cW_and ?_ ?_
            · refine kCmpT (op_eq.or (op_eqD hr.units)) (OpS.alt opS_sEq opS_deepEq) ?_ ?_
              · exact cV 3
              · exact cE_int 
            · refine cW_and ?_ ?_
              · refine kCmpT (op_ne.or (op_neD hr.units)) (OpS.alt opS_sNe opS_deepNe) ?_ ?_
                · refine kIx (hu_of hr) ?_ ?_
                  · exact cV 2
                  · exact cE_str 
                · refine cE_lst ?_
                  exact cA_nil 
              · refine cW_and1 ?_
                refine kCmpT (op_ne.or (op_neD hr.units)) (OpS.alt opS_sNe opS_deepNe) ?_ ?_
                · refine kIx (hu_of hr) ?_ ?_
                  · exact cV 2
                  · exact cE_str 
                · refine cE_lst ?_
                  exact cA_nil 
          · refine cSs_one ?_
            refine cS_ret ?_
            refine cE_tup ?_
            refine kA ?_ ?_
            · exact cE_str 
            · refine kA ?_ ?_
              · refine kCall (x := dX 5) (ps := P5) (G 5 (by decide)) hr hgd (T.d 5 (by decide)).fn.kp (T.d 5 (by decide)).bi (T.d 5 (by decide)).mg ?_
                refine kA ?_ ?_
                · exact cV 0
                · refine kA ?_ ?_
                  · refine kIx (hu_of hr) ?_ ?_
                    · exact cV 2
                    · exact cE_str 
                  · exact cA_nil 
              · refine kA ?_ ?_
                · refine kCall (x := dX 5) (ps := P5) (G 5 (by decide)) hr hgd (T.d 5 (by decide)).fn.kp (T.d 5 (by decide)).bi (T.d 5 (by decide)).mg ?_
                  refine kA ?_ ?_
                  · exact cV 0
                  · refine kA ?_ ?_
                    · refine kIx (hu_of hr) ?_ ?_
                      · exact cV 2
                      · exact cE_str 
                    · exact cA_nil 
                · exact cA_nil 
          · exact cSs_nil 
        · refine cSs_cons ?_ ?_
          · refine cS_if ?_ ?_ ?_
            · refine cT_w ?_
              refine cW_and ?_ ?_
              · refine kCmpT (op_eq.or (op_eqD hr.units)) (OpS.alt opS_sEq opS_deepEq) ?_ ?_
                · exact cV 3
                · exact cE_int 
              · refine cW_and1 ?_
                refine kCmpT (op_ne.or (op_neD hr.units)) (OpS.alt opS_sNe opS_deepNe) ?_ ?_
                · refine kIx (hu_of hr) ?_ ?_
                  · exact cV 2
                  · exact cE_str 
                · refine cE_lst ?_
                  exact cA_nil 
            · refine cSs_one ?_
              refine cS_ret ?_
              refine cE_tup ?_
              refine kA ?_ ?_
              · exact cE_str 
              · refine kA ?_ ?_
                · refine kCall (x := dX 5) (ps := P5) (G 5 (by decide)) hr hgd (T.d 5 (by decide)).fn.kp (T.d 5 (by decide)).bi (T.d 5 (by decide)).mg ?_
                  refine kA ?_ ?_
                  · exact cV 0
                  · refine kA ?_ ?_
                    · refine kIx (hu_of hr) ?_ ?_
                      · exact cV 2
                      · exact cE_str 
                    · exact cA_nil 
                · refine kA ?_ ?_
                  · refine kCall (x := dX 5) (ps := P5) (G 5 (by decide)) hr hgd (T.d 5 (by decide)).fn.kp (T.d 5 (by decide)).bi (T.d 5 (by decide)).mg ?_
                    refine kA ?_ ?_
                    · exact cV 0
                    · refine kA ?_ ?_
                      · refine kIx (hu_of hr) ?_ ?_
                        · exact cV 2
                        · exact cE_str 
                      · exact cA_nil 
                  · exact cA_nil 
            · exact cSs_nil 
          · refine cSs_cons ?_ ?_
            · refine cS_if ?_ ?_ ?_
              · refine kCmpT (op_lt.or op_lt_str) (OpS.alt opS_iiB opS_ssB) ?_ ?_
                · exact cV 3
                · exact cE_int 
              · refine cSs_one ?_
                refine cS_ret ?_
                refine cE_tup ?_
                refine kA ?_ ?_
                · exact cE_str 
                · refine kA ?_ ?_
                  · refine kCall (x := dX 7) (ps := P7) (G 7 (by decide)) hr hgd (T.d 7 (by decide)).fn.kp (T.d 7 (by decide)).bi (T.d 7 (by decide)).mg ?_
                    refine kA ?_ ?_
                    · exact cV 0
                    · refine kA ?_ ?_
                      · exact cE_int 
                      · refine kA ?_ ?_
                        · exact cV 2
                        · exact cA_nil 
                  · refine kA ?_ ?_
                    · refine kIx (hu_of hr) ?_ ?_
                      · refine cE_lst ?_
                        refine kA ?_ ?_
                        · exact cE_str 
                        · refine kA ?_ ?_
                          · exact cE_str 
                          · refine kA ?_ ?_
                            · exact cE_str 
                            · exact cA_nil 
                      · refine kCall (x := dX 4) (ps := P4) (G 4 (by decide)) hr hgd (T.d 4 (by decide)).fn.kp (T.d 4 (by decide)).bi (T.d 4 (by decide)).mg ?_
                        refine kA ?_ ?_
                        · exact cV 0
                        · refine kA ?_ ?_
                          · exact cE_int 
                          · exact cA_nil 
                    · refine kA ?_ ?_
                      · refine kCall (x := dX 7) (ps := P7) (G 7 (by decide)) hr hgd (T.d 7 (by decide)).fn.kp (T.d 7 (by decide)).bi (T.d 7 (by decide)).mg ?_
                        refine kA ?_ ?_
                        · exact cV 0
                        · refine kA ?_ ?_
                          · exact cE_int 
                          · refine kA ?_ ?_
                            · exact cV 2
                            · exact cA_nil 
                      · exact cA_nil 
              · exact cSs_nil 
            · refine cSs_one ?_
              refine cS_ret ?_
              refine cE_tup ?_
              refine kA ?_ ?_
              · exact cE_str 
              · refine kA ?_ ?_
                · refine cE_tup ?_
                  exact cA_nil 
                · exact cA_nil 
theorem ok9 (T : Txt K mg f fd) {k : Nat} {C : Nat → MF} (G : ∀ i, i < 19 → FnG P w K mg base k (f i) (fd i) (dP i) (spM K mg (dN i) (C i))) : FnG P w K mg base (k + 1) (f 9) (fd 9) (dP 9) (spM K mg 4 (m9 C)) := by
  refine fnG_ok (st := s9) (x := (Str.ofString "_law_pieces")) (qual := (Str.ofString "_law_pieces")) (T.d 9 (by decide)).fn S9 rfl (fun cdv A outer s H E hr hgd => ?_)
  refine cSs_cons ?_ ?_
  · refine kSet 4 S9.nd ?_
    refine cE_if ?_ ?_ ?_
    · refine kCmpT (op_gt.or op_gt_str) (OpS.alt opS_iiB opS_ssB) ?_ ?_
      · refine kIx (hu_of hr) ?_ ?_
        · refine kIx (hu_of hr) ?_ ?_
          · exact cV 2
          · exact cE_str 
        · exact cE_int 
      · exact cE_int 
    · refine kCall (x := dX 4) (ps := P4) (G 4 (by decide)) hr hgd (T.d 4 (by decide)).fn.kp (T.d 4 (by decide)).bi (T.d 4 (by decide)).mg ?_
      refine kA ?_ ?_
      · exact cV 0
      · refine kA ?_ ?_
        · exact cE_int 
        · exact cA_nil 
    · exact cE_int 
  · refine cSs_one ?_
    refine cS_ret ?_
    refine kTy call_tuple_of callS_tuple T.b_tuple boot_tuple ?_
    refine kA ?_ ?_
    · refine kLc (L := [5]) (own := [ ((Str.ofString "_law_k") , 5) ]) rfl S9.nd ?_ (by exact show blkC N9 (defScope s9) _ [ ((Str.ofString "_law_k") , 5) ] = true from by decide +kernel) (by decide) (fun _ _ _ _ _ => ?_) (fun _ _ _ _ _ => ?_) (fun _ _ _ _ _ => ?_)
      · refine kR1 T.b_range ?_
        refine kA ?_ ?_
        · exact cV 4
        · exact cA_nil 
      · exact cGn 5 S9.nd
      · exact cTs_nil 
      · refine kCall (x := dX 10) (ps := P10) (G 10 (by decide)) hr hgd (T.d 10 (by decide)).fn.kp (T.d 10 (by decide)).bi (T.d 10 (by decide)).mg ?_
        refine kA ?_ ?_
        · exact cV 0
        · refine kA ?_ ?_
          · exact cV 1
          · refine kA ?_ ?_
            · exact cV 2
            · refine kA ?_ ?_
              · exact cV 3
              · exact cA_nil 
    · exact cA_nil 
theorem ok10 (T : Txt K mg f fd) {k : Nat} {C : Nat → MF} (G : ∀ i, i < 19 → FnG P w K mg base k (f i) (fd i) (dP i) (spM K mg (dN i) (C i))) : FnG P w K mg base (k + 1) (f 10) (fd 10) (dP 10) (spM K mg 4 (m10 C)) := by
  refine fnG_ok (st := s10) (x := (Str.ofString "_law_piece")) (qual := (Str.ofString "_law_piece")) (T.d 10 (by decide)).fn S10 rfl (fun cdv A outer s H E hr hgd => ?_)
  refine cSs_cons ?_ ?_
  · refine kSet 4 S10.nd ?_
    refine kCall (x := dX 4) (ps := P4) (G 4 (by decide)) hr hgd (T.d 4 (by decide)).fn.kp (T.d 4 (by decide)).bi (T.d 4 (by decide)).mg ?_
    refine kA ?_ ?_
    · exact cV 0
    · refine kA ?_ ?_
      · exact cE_int 
      · exact cA_nil 
  · refine cSs_cons ?_ ?_
    · refine cS_if ?_ ?_ ?_
      · refine kTru ?_
        refine kCall (x := dX 6) (ps := P6) (G 6 (by decide)) hr hgd (T.d 6 (by decide)).fn.kp (T.d 6 (by decide)).bi (T.d 6 (by decide)).mg ?_
        refine kA ?_ ?_
        · exact cV 2
        · exact cA_nil 
      · refine cSs_one ?_
        refine cS_ret ?_
        refine cE_tup ?_
        refine kA ?_ ?_
        · exact cE_str 
        · exact cA_nil 
      · exact cSs_nil 
    · refine cSs_cons ?_ ?_
      · refine cS_if ?_ ?_ ?_
        · refine cT_w ?_
          refine cW_and ?_ ?_
          · refine kCmpT (op_lt.or op_lt_str) (OpS.alt opS_iiB opS_ssB) ?_ ?_
            · exact cV 4
            · exact cE_int 
          · refine cW_and1 ?_
            refine kCmpT (op_gt.or op_gt_str) (OpS.alt opS_iiB opS_ssB) ?_ ?_
            · exact cV 1
            · exact cE_int 
        · refine cSs_cons ?_ ?_
          · refine kSet 5 S10.nd ?_
            refine kCall (x := dX 9) (ps := P9) (G 9 (by decide)) hr hgd (T.d 9 (by decide)).fn.kp (T.d 9 (by decide)).bi (T.d 9 (by decide)).mg ?_
            refine kA ?_ ?_
            · exact cV 0
            · refine kA ?_ ?_
              · refine cE_bin op_sub opS_iiI0 ?_ ?_
                · exact cV 1
                · exact cE_int 
              · refine kA ?_ ?_
                · exact cV 2
                · refine kA ?_ ?_
                  · exact cV 3
                  · exact cA_nil 
          · refine cSs_cons ?_ ?_
            · refine cS_if ?_ ?_ ?_
              · refine cT_w ?_
                refine cW_and ?_ ?_
                · refine kCmpT (op_eq.or (op_eqD hr.units)) (OpS.alt opS_sEq opS_deepEq) ?_ ?_
                  · exact cV 4
                  · exact cE_int 
                · refine cW_and1 ?_
                  refine kTru ?_
                  exact cV 3
              · refine cSs_one ?_
                refine cS_ret ?_
                refine cE_tup ?_
                refine kA ?_ ?_
                · exact cE_str 
                · refine kA ?_ ?_
                  · refine kIx (hu_of hr) ?_ ?_
                    · refine cE_lst ?_
                      refine kA ?_ ?_
                      · exact cE_str 
                      · refine kA ?_ ?_
                        · exact cE_str 
                        · exact cA_nil 
                    · refine kCall (x := dX 4) (ps := P4) (G 4 (by decide)) hr hgd (T.d 4 (by decide)).fn.kp (T.d 4 (by decide)).bi (T.d 4 (by decide)).mg ?_
                      refine kA ?_ ?_
                      · exact cV 0
                      · refine kA ?_ ?_
                        · exact cE_int 
                        · exact cA_nil 
                  · refine kA ?_ ?_
                    · exact cV 5
                    · exact cA_nil 
              · exact cSs_nil 
            · refine cSs_one ?_
              refine cS_ret ?_
              refine cE_tup ?_
              refine kA ?_ ?_
              · exact cE_str 
              · refine kA ?_ ?_
                · refine kCall (x := dX 8) (ps := P8) (G 8 (by decide)) hr hgd (T.d 8 (by decide)).fn.kp (T.d 8 (by decide)).bi (T.d 8 (by decide)).mg ?_
                  refine kA ?_ ?_
                  · exact cV 0
                  · refine kA ?_ ?_
                    · exact cE_int 
                    · refine kA ?_ ?_
                      · exact cV 2
                      · exact cA_nil 
                · refine kA ?_ ?_
                  · exact cV 5
                  · refine kA ?_ ?_
                    · refine kCall (x := dX 9) (ps := P9) (G 9 (by decide)) hr hgd (T.d 9 (by decide)).fn.kp (T.d 9 (by decide)).bi (T.d 9 (by decide)).mg ?_
                      refine kA ?_ ?_
                      · exact cV 0
                      · refine kA ?_ ?_
                        · refine cE_bin op_sub opS_iiI0 ?_ ?_
                          · exact cV 1
                          · exact cE_int 
                        · refine kA ?_ ?_
                          · exact cV 2
                          · refine kA ?_ ?_
                            · exact cV 3
                            · exact cA_nil 
                    · exact cA_nil 
        · exact cSs_nil 
      · refine cSs_cons ?_ ?_
        · refine cS_if ?_ ?_ ?_
          · refine kCmpT (op_eq.or (op_eqD hr.units)) (OpS.alt opS_sEq opS_deepEq) ?_ ?_
            · exact cV 4
            · exact cE_int 
          · refine cSs_one ?_
            refine cS_ret ?_
            refine cE_tup ?_
            refine kA ?_ ?_
            · exact cE_str 
            · refine kA ?_ ?_
              · refine kCall (x := dX 7) (ps := P7) (G 7 (by decide)) hr hgd (T.d 7 (by decide)).fn.kp (T.d 7 (by decide)).bi (T.d 7 (by decide)).mg ?_
                refine kA ?_ ?_
                · exact cV 0
                · refine kA ?_ ?_
                  · exact cE_int 
                  · refine kA ?_ ?_
                    · exact cV 2
                    · exact cA_nil 
              · exact cA_nil 
          · exact cSs_nil 
        · refine cSs_cons ?_ ?_
          · refine cS_if ?_ ?_ ?_
            · refine cT_w ?_
              refine cW_and ?_ ?_
              · refine kCmpT (op_eq.or (op_eqD hr.units)) (OpS.alt opS_sEq opS_deepEq) ?_ ?_
                · exact cV 4
                · exact cE_int 
              · refine cW_and1 ?_
                refine kCmpT (op_ne.or (op_neD hr.units)) (OpS.alt opS_sNe opS_deepNe) ?_ ?_
                · refine kIx (hu_of hr) ?_ ?_
                  · exact cV 2
                  · exact cE_str 
                · refine cE_lst ?_
                  exact cA_nil 
            · refine cSs_one ?_
              refine cS_ret ?_
              refine cE_tup ?_
              refine kA ?_ ?_
              · exact cE_str 
              · refine kA ?_ ?_
                · refine kCall (x := dX 5) (ps := P5) (G 5 (by decide)) hr hgd (T.d 5 (by decide)).fn.kp (T.d 5 (by decide)).bi (T.d 5 (by decide)).mg ?_
                  refine kA ?_ ?_
                  · exact cV 0
                  · refine kA ?_ ?_
                    · refine kIx (hu_of hr) ?_ ?_
                      · exact cV 2
                      · exact cE_str 
                    · exact cA_nil 
                · exact cA_nil 
            · exact cSs_nil 
          · refine cSs_cons ?_ ?_
            · refine cS_if ?_ ?_ ?_
              · refine kCmpT (op_lt.or op_lt_str) (OpS.alt opS_iiB opS_ssB) ?_ ?_
                · exact cV 4
                · exact cE_int 
              · refine cSs_one ?_
                refine cS_ret ?_
                refine kIx (hu_of hr) ?_ ?_
                · refine cE_lst ?_
                  refine kA ?_ ?_
                  · refine cE_tup ?_
                    refine kA ?_ ?_
                    · exact cE_str 
                    · exact cA_nil 
                  · refine kA ?_ ?_
                    · refine cE_tup ?_
                      refine kA ?_ ?_
                      · exact cE_str 
                      · exact cA_nil 
                    · exact cA_nil 
                · refine cE_bin op_mod opS_mod ?_ ?_
                  · exact cV 4
                  · exact cE_int 
              · exact cSs_nil 
            · refine cSs_one ?_
              refine cS_ret ?_
              refine cE_tup ?_
              refine kA ?_ ?_
              · exact cE_str 
              · refine kA ?_ ?_
                · refine kIx (hu_of hr) ?_ ?_
                  · refine cE_lst ?_
                    refine kA ?_ ?_
                    · exact cE_str 
                    · refine kA ?_ ?_
                      · exact cE_str 
                      · refine kA ?_ ?_
                        · exact cE_str 
                        · refine kA ?_ ?_
                          · exact cE_str 
                          · refine kA ?_ ?_
                            · exact cE_str 
                            · refine kA ?_ ?_
                              · exact cE_str 
                              · refine kA ?_ ?_
                                · exact cE_str 
                                · refine kA ?_ ?_
                                  · exact cE_str 
                                  · exact cA_nil 
                  · refine kCall (x := dX 4) (ps := P4) (G 4 (by decide)) hr hgd (T.d 4 (by decide)).fn.kp (T.d 4 (by decide)).bi (T.d 4 (by decide)).mg ?_
                    refine kA ?_ ?_
                    · exact cV 0
                    · refine kA ?_ ?_
                      · exact cE_int 
                      · exact cA_nil 
                · exact cA_nil 
theorem ok11 (T : Txt K mg f fd) {k : Nat} {C : Nat → MF} (G : ∀ i, i < 19 → FnG P w K mg base k (f i) (fd i) (dP i) (spM K mg (dN i) (C i))) : FnG P w K mg base (k + 1) (f 11) (fd 11) (dP 11) (spM K mg 2 (m11 C)) := by
  refine fnG_ok (st := s11) (x := (Str.ofString "_law_act")) (qual := (Str.ofString "_law_act")) (T.d 11 (by decide)).fn S11 rfl (fun cdv A outer s H E hr hgd => ?_)
  refine cSs_cons ?_ ?_
  · refine cS_par3 (i := 2) (j := 3) (l := 4) rfl S11.nd rfl rfl rfl (by decide) (by decide) (by decide) rfl rfl rfl ?_ rfl
    refine kA ?_ ?_
    · refine kCall (x := dX 4) (ps := P4) (G 4 (by decide)) hr hgd (T.d 4 (by decide)).fn.kp (T.d 4 (by decide)).bi (T.d 4 (by decide)).mg ?_
      refine kA ?_ ?_
      · exact cV 0
      · refine kA ?_ ?_
        · exact cE_int 
        · exact cA_nil 
    · refine kA ?_ ?_
      · refine kIx (hu_of hr) ?_ ?_
        · exact cV 1
        · exact cE_str 
      · refine kA ?_ ?_
        · refine kIx (hu_of hr) ?_ ?_
          · exact cV 1
          · exact cE_str 
        · exact cA_nil 
  · refine cSs_cons ?_ ?_
    · refine cS_if ?_ ?_ ?_
      · refine cT_w ?_
        refine cW_and ?_ ?_
        · refine kCmpT (op_lt.or op_lt_str) (OpS.alt opS_iiB opS_ssB) ?_ ?_
          · exact cV 2
          · exact cE_int 
        · refine cW_and1 ?_
          refine kCmpT (op_ne.or (op_neD hr.units)) (OpS.alt opS_sNe opS_deepNe) ?_ ?_
          · refine kIx (hu_of hr) ?_ ?_
            · exact cV 1
            · exact cE_str 
          · refine cE_lst ?_
            exact cA_nil 
      · refine cSs_cons ?_ ?_
        · refine kSet 5 S11.nd ?_
          refine kCall (x := dX 5) (ps := P5) (G 5 (by decide)) hr hgd (T.d 5 (by decide)).fn.kp (T.d 5 (by decide)).bi (T.d 5 (by decide)).mg ?_
          refine kA ?_ ?_
          · exact cV 0
          · refine kA ?_ ?_
            · refine kIx (hu_of hr) ?_ ?_
              · exact cV 1
              · exact cE_str 
            · exact cA_nil 
        · refine cSs_one ?_
          refine cS_ret ?_
          refine kIx (hu_of hr) ?_ ?_
          · refine cE_lst ?_
            refine kA ?_ ?_
            · refine cE_tup ?_
              refine kA ?_ ?_
              · exact cE_str 
              · refine kA ?_ ?_
                · exact cV 5
                · refine kA ?_ ?_
                  · refine kCall (x := dX 7) (ps := P7) (G 7 (by decide)) hr hgd (T.d 7 (by decide)).fn.kp (T.d 7 (by decide)).bi (T.d 7 (by decide)).mg ?_
                    refine kA ?_ ?_
                    · exact cV 0
                    · refine kA ?_ ?_
                      · exact cE_int 
                      · refine kA ?_ ?_
                        · exact cV 1
                        · exact cA_nil 
                  · exact cA_nil 
            · refine kA ?_ ?_
              · refine cE_tup ?_
                refine kA ?_ ?_
                · exact cE_str 
                · refine kA ?_ ?_
                  · exact cV 5
                  · exact cA_nil 
              · exact cA_nil 
          · exact cV 2
      · exact cSs_nil 
    · refine cSs_cons ?_ ?_
      · refine cS_if ?_ ?_ ?_
        · refine cT_w ?_
          refine cW_and ?_ ?_
          · refine kCmpT (op_lt.or op_lt_str) (OpS.alt opS_iiB opS_ssB) ?_ ?_
            · exact cV 2
            · exact cE_int 
          · refine cW_and ?_ ?_
            · refine kCmpT (op_ne.or (op_neD hr.units)) (OpS.alt opS_sNe opS_deepNe) ?_ ?_
              · exact cV 3
              · refine cE_lst ?_
                exact cA_nil 
            · refine cW_and1 ?_
              refine kCmpT (op_ne.or (op_neD hr.units)) (OpS.alt opS_sNe opS_deepNe) ?_ ?_
              · exact cV 4
              · refine cE_lst ?_
                exact cA_nil 
        · refine cSs_one ?_
          refine cS_ret ?_
          refine cE_tup ?_
          refine kA ?_ ?_
          · refine kIx (hu_of hr) ?_ ?_
            · refine cE_lst ?_
              refine kA ?_ ?_
              · exact cE_str 
              · refine kA ?_ ?_
                · exact cE_str 
                · exact cA_nil 
            · refine cE_bin op_mod opS_mod ?_ ?_
              · exact cV 2
              · exact cE_int 
          · refine kA ?_ ?_
            · refine kCall (x := dX 5) (ps := P5) (G 5 (by decide)) hr hgd (T.d 5 (by decide)).fn.kp (T.d 5 (by decide)).bi (T.d 5 (by decide)).mg ?_
              refine kA ?_ ?_
              · exact cV 0
              · refine kA ?_ ?_
                · exact cV 3
                · exact cA_nil 
            · refine kA ?_ ?_
              · refine kCall (x := dX 5) (ps := P5) (G 5 (by decide)) hr hgd (T.d 5 (by decide)).fn.kp (T.d 5 (by decide)).bi (T.d 5 (by decide)).mg ?_
                refine kA ?_ ?_
                · exact cV 0
                · refine kA ?_ ?_
                  · exact cV 4
                  · exact cA_nil 
              · exact cA_nil 
        · exact cSs_nil 
      · refine cSs_cons ?_ ?_
        · refine cS_if ?_ ?_ ?_
          · refine cT_w ?_
            refine cW_and ?_ ?_
            · refine kCmpT (op_eq.or (op_eqD hr.units)) (OpS.alt opS_sEq opS_deepEq) ?_ ?_
              · exact cV 2
              · exact cE_int 
            · refine cW_and1 ?_
              refine kCmpT (op_ne.or (op_neD hr.units)) (OpS.alt opS_sNe opS_deepNe) ?_ ?_
              · exact cV 3
              · refine cE_lst ?_
                exact cA_nil 
          · refine cSs_one ?_
            refine cS_ret ?_
            refine cE_tup ?_
            refine kA ?_ ?_
            · exact cE_str 
            · refine kA ?_ ?_
              · refine kCall (x := dX 5) (ps := P5) (G 5 (by decide)) hr hgd (T.d 5 (by decide)).fn.kp (T.d 5 (by decide)).bi (T.d 5 (by decide)).mg ?_
                refine kA ?_ ?_
                · exact cV 0
                · refine kA ?_ ?_
                  · exact cV 3
                  · exact cA_nil 
              · refine kA ?_ ?_
                · refine kCall (x := dX 5) (ps := P5) (G 5 (by decide)) hr hgd (T.d 5 (by decide)).fn.kp (T.d 5 (by decide)).bi (T.d 5 (by decide)).mg ?_
                  refine kA ?_ ?_
                  · exact cV 0
                  · refine kA ?_ ?_
                    · exact cV 3
                    · exact cA_nil 
                · exact cA_nil 
          · exact cSs_nil 
        · refine cSs_one ?_
          refine cS_ret ?_
          refine cE_if ?_ ?_ ?_
          · refine kCmpT (op_ne.or (op_neD hr.units)) (OpS.alt opS_sNe opS_deepNe) ?_ ?_
            · exact cV 3
            · refine cE_lst ?_
              exact cA_nil 
          · refine cE_tup ?_
            refine kA ?_ ?_
            · exact cE_str 
            · refine kA ?_ ?_
              · refine kCall (x := dX 5) (ps := P5) (G 5 (by decide)) hr hgd (T.d 5 (by decide)).fn.kp (T.d 5 (by decide)).bi (T.d 5 (by decide)).mg ?_
                refine kA ?_ ?_
                · exact cV 0
                · refine kA ?_ ?_
                  · exact cV 3
                  · exact cA_nil 
              · exact cA_nil 
          · exact cE_non 
theorem ok12 (T : Txt K mg f fd) {k : Nat} {C : Nat → MF} (G : ∀ i, i < 19 → FnG P w K mg base k (f i) (fd i) (dP i) (spM K mg (dN i) (C i))) : FnG P w K mg base (k + 1) (f 12) (fd 12) (dP 12) (spM K mg 2 (m12 C)) := by
  refine fnG_ok (st := s12) (x := (Str.ofString "_law_next")) (qual := (Str.ofString "_law_next")) (T.d 12 (by decide)).fn S12 rfl (fun cdv A outer s H E hr hgd => ?_)
  refine cSs_cons ?_ ?_
  · refine kSet 2 S12.nd ?_
    refine kCall (x := dX 4) (ps := P4) (G 4 (by decide)) hr hgd (T.d 4 (by decide)).fn.kp (T.d 4 (by decide)).bi (T.d 4 (by decide)).mg ?_
    refine kA ?_ ?_
    · exact cV 0
    · refine kA ?_ ?_
      · exact cE_int 
      · exact cA_nil 
  · refine cSs_cons ?_ ?_
    · refine cS_if ?_ ?_ ?_
      · refine kCmpT (op_eq.or (op_eqD hr.units)) (OpS.alt opS_sEq opS_deepEq) ?_ ?_
        · exact cV 2
        · exact cE_int 
      · refine cSs_one ?_
        refine cS_ret ?_
        refine cE_tup ?_
        refine kA ?_ ?_
        · exact cE_str 
        · exact cA_nil 
      · exact cSs_nil 
    · refine cSs_cons ?_ ?_
      · refine kSet 3 S12.nd ?_
        refine kCall (x := dX 5) (ps := P5) (G 5 (by decide)) hr hgd (T.d 5 (by decide)).fn.kp (T.d 5 (by decide)).bi (T.d 5 (by decide)).mg ?_
        refine kA ?_ ?_
        · exact cV 0
        · refine kA ?_ ?_
          · refine kIx (hu_of hr) ?_ ?_
            · exact cV 1
            · exact cE_str 
          · exact cA_nil 
      · refine cSs_one ?_
        refine cS_ret ?_
        refine cE_if ?_ ?_ ?_
        · refine kCmpT (op_eq.or (op_eqD hr.units)) (OpS.alt opS_sEq opS_deepEq) ?_ ?_
          · exact cV 2
          · exact cE_int 
        · refine cE_tup ?_
          refine kA ?_ ?_
          · exact cE_str 
          · refine kA ?_ ?_
            · exact cV 3
            · refine kA ?_ ?_
              · refine kCall (x := dX 5) (ps := P5) (G 5 (by decide)) hr hgd (T.d 5 (by decide)).fn.kp (T.d 5 (by decide)).bi (T.d 5 (by decide)).mg ?_
                refine kA ?_ ?_
                · exact cV 0
                · refine kA ?_ ?_
                  · refine kIx (hu_of hr) ?_ ?_
                    · exact cV 1
                    · exact cE_str 
                  · exact cA_nil 
              · exact cA_nil 
        · refine cE_tup ?_
          refine kA ?_ ?_
          · exact cE_str 
          · refine kA ?_ ?_
            · exact cV 3
            · exact cA_nil 
theorem ok13 (T : Txt K mg f fd) {k : Nat} {C : Nat → MF} (G : ∀ i, i < 19 → FnG P w K mg base k (f i) (fd i) (dP i) (spM K mg (dN i) (C i))) : FnG P w K mg base (k + 1) (f 13) (fd 13) (dP 13) (spM K mg 3 (m13 C)) := by
  refine fnG_ok (st := s13) (x := (Str.ofString "_law_choice")) (qual := (Str.ofString "_law_choice")) (T.d 13 (by decide)).fn S13 rfl (fun cdv A outer s H E hr hgd => ?_)
  refine cSs_cons ?_ ?_
  · refine kSetLc (L := [4]) (i := 3) (own := [ ((Str.ofString "_law_k") , 4) ]) rfl S13.nd rfl rfl rfl (by decide +kernel) rfl ?_ (by exact show blkC N13 (defScope s13) _ [ ((Str.ofString "_law_k") , 4) ] = true from by decide +kernel) (by decide) (fun _ _ _ _ _ => ?_) (fun _ _ _ _ _ => ?_) (fun _ _ _ _ _ => ?_)
    · refine kR1 T.b_range ?_
      refine kA ?_ ?_
      · refine kCall (x := dX 4) (ps := P4) (G 4 (by decide)) hr hgd (T.d 4 (by decide)).fn.kp (T.d 4 (by decide)).bi (T.d 4 (by decide)).mg ?_
        refine kA ?_ ?_
        · exact cV 0
        · refine kA ?_ ?_
          · exact cE_int 
          · exact cA_nil 
      · exact cA_nil 
    · exact cGn 4 S13.nd
    · exact cTs_nil 
    · refine kCall (x := dX 11) (ps := P11) (G 11 (by decide)) hr hgd (T.d 11 (by decide)).fn.kp (T.d 11 (by decide)).bi (T.d 11 (by decide)).mg ?_
      refine kA ?_ ?_
      · exact cV 0
      · refine kA ?_ ?_
        · exact cV 2
        · exact cA_nil 
  · refine cSs_cons ?_ ?_
    · refine kSet 5 S13.nd ?_
      refine kTy call_tuple_of callS_tuple T.b_tuple boot_tuple ?_
      refine kA ?_ ?_
      · refine kLc (L := [6]) (own := [ ((Str.ofString "_law_one") , 6) ]) rfl S13.nd ?_ (by exact show blkC N13 (defScope s13) _ [ ((Str.ofString "_law_one") , 6) ] = true from by decide +kernel) (by decide) (fun _ _ _ _ _ => ?_) (fun _ _ _ _ _ => ?_) (fun _ _ _ _ _ => ?_)
        · refine cI_seq ?_
          exact cV 3
        · exact cGn 6 S13.nd
        · refine cTs_one ?_
          refine kCmpT (op_notN.or op_notBl) (OpS.alt opS_isNot opS_notB) ?_ ?_
          · exact cV 6
          · exact cE_non 
        · exact cV 6
      · exact cA_nil 
    · refine cSs_cons ?_ ?_
      · refine cS_par (i := 7) (j := 8) rfl S13.nd rfl rfl (by decide) rfl rfl ?_ rfl
        refine kA ?_ ?_
        · refine kCall (x := dX 9) (ps := P9) (G 9 (by decide)) hr hgd (T.d 9 (by decide)).fn.kp (T.d 9 (by decide)).bi (T.d 9 (by decide)).mg ?_
          refine kA ?_ ?_
          · exact cV 0
          · refine kA ?_ ?_
            · exact cE_int 
            · refine kA ?_ ?_
              · exact cV 2
              · refine kA ?_ ?_
                · exact cE_bl 
                · exact cA_nil 
        · refine kA ?_ ?_
          · refine kCall (x := dX 8) (ps := P8) (G 8 (by decide)) hr hgd (T.d 8 (by decide)).fn.kp (T.d 8 (by decide)).bi (T.d 8 (by decide)).mg ?_
            refine kA ?_ ?_
            · exact cV 0
            · refine kA ?_ ?_
              · exact cE_int 
              · refine kA ?_ ?_
                · exact cV 2
                · exact cA_nil 
          · exact cA_nil 
      · refine cSs_one ?_
        refine cS_ret ?_
        refine cE_tup ?_
        refine kA ?_ ?_
        · exact cV 1
        · refine kA ?_ ?_
          · exact cV 7
          · refine kA ?_ ?_
            · exact cV 8
            · refine kA ?_ ?_
              · refine kCmp (op_eq.or (op_eqD hr.units)) (OpS.alt opS_sEq opS_deepEq) ?_ ?_
                · refine kCall (x := dX 4) (ps := P4) (G 4 (by decide)) hr hgd (T.d 4 (by decide)).fn.kp (T.d 4 (by decide)).bi (T.d 4 (by decide)).mg ?_
                  refine kA ?_ ?_
                  · exact cV 0
                  · refine kA ?_ ?_
                    · exact cE_int 
                    · exact cA_nil 
                · exact cE_int 
              · refine kA ?_ ?_
                · exact cV 5
                · refine kA ?_ ?_
                  · refine kCall (x := dX 12) (ps := P12) (G 12 (by decide)) hr hgd (T.d 12 (by decide)).fn.kp (T.d 12 (by decide)).bi (T.d 12 (by decide)).mg ?_
                    refine kA ?_ ?_
                    · exact cV 0
                    · refine kA ?_ ?_
                      · exact cV 2
                      · exact cA_nil 
                  · exact cA_nil 
theorem ok14 (T : Txt K mg f fd) {k : Nat} {C : Nat → MF} (G : ∀ i, i < 19 → FnG P w K mg base k (f i) (fd i) (dP i) (spM K mg (dN i) (C i))) : FnG P w K mg base (k + 1) (f 14) (fd 14) (dP 14) (spM K mg 3 (m14 C)) := by
  refine fnG_ok (st := s14) (x := (Str.ofString "_law_scene")) (qual := (Str.ofString "_law_scene")) (T.d 14 (by decide)).fn S14 rfl (fun cdv A outer s H E hr hgd => ?_)
  refine cSs_cons ?_ ?_
  · refine kSet 3 S14.nd ?_
    refine cE_slA ?_ ?_ ?_
    · refine cE_lst ?_
      refine kA ?_ ?_
      · exact cE_str 
      · refine kA ?_ ?_
        · exact cE_str 
        · refine kA ?_ ?_
          · exact cE_str 
          · exact cA_nil 
    · refine cO_some ?_
      refine kCall (x := dX 4) (ps := P4) (G 4 (by decide)) hr hgd (T.d 4 (by decide)).fn.kp (T.d 4 (by decide)).bi (T.d 4 (by decide)).mg ?_
      refine kA ?_ ?_
      · exact cV 0
      · refine kA ?_ ?_
        · exact cE_int 
        · exact cA_nil 
    · exact cO_none 
  · refine cSs_cons ?_ ?_
    · refine kSet 4 S14.nd ?_
      refine kTy call_tuple_of callS_tuple T.b_tuple boot_tuple ?_
      refine kA ?_ ?_
      · refine kLc (L := [5]) (own := [ ((Str.ofString "_law_one") , 5) ]) rfl S14.nd ?_ (by exact show blkC N14 (defScope s14) _ [ ((Str.ofString "_law_one") , 5) ] = true from by decide +kernel) (by decide) (fun _ _ _ _ _ => ?_) (fun _ _ _ _ _ => ?_) (fun _ _ _ _ _ => ?_)
        · refine cI_seq ?_
          refine cE_slA ?_ ?_ ?_
          · exact cV 3
          · exact cO_none 
          · refine cO_some ?_
            refine kCall (x := dX 4) (ps := P4) (G 4 (by decide)) hr hgd (T.d 4 (by decide)).fn.kp (T.d 4 (by decide)).bi (T.d 4 (by decide)).mg ?_
            refine kA ?_ ?_
            · exact cV 0
            · refine kA ?_ ?_
              · exact cE_int 
              · exact cA_nil 
        · exact cGn 5 S14.nd
        · exact cTs_nil 
        · refine kCall (x := dX 13) (ps := P13) (G 13 (by decide)) hr hgd (T.d 13 (by decide)).fn.kp (T.d 13 (by decide)).bi (T.d 13 (by decide)).mg ?_
          refine kA ?_ ?_
          · exact cV 0
          · refine kA ?_ ?_
            · exact cV 5
            · refine kA ?_ ?_
              · exact cV 2
              · exact cA_nil 
      · exact cA_nil 
    · refine cSs_cons ?_ ?_
      · refine kSetLc (L := [5]) (i := 6) (own := [ ((Str.ofString "_law_one") , 5) ]) rfl S14.nd rfl rfl rfl (by decide +kernel) rfl ?_ (by exact show blkC N14 (defScope s14) _ [ ((Str.ofString "_law_one") , 5) ] = true from by decide +kernel) (by decide) (fun _ _ _ _ _ => ?_) (fun _ _ _ _ _ => ?_) (fun _ _ _ _ _ => ?_)
        · refine cI_seq ?_
          refine kIx (hu_of hr) ?_ ?_
          · exact cV 2
          · exact cE_str 
        · exact cGn 5 S14.nd
        · refine cTs_one ?_
          refine kCmpT (op_eq.or (op_eqD hr.units)) (OpS.alt opS_sEq opS_deepEq) ?_ ?_
          · refine kCall (x := dX 4) (ps := P4) (G 4 (by decide)) hr hgd (T.d 4 (by decide)).fn.kp (T.d 4 (by decide)).bi (T.d 4 (by decide)).mg ?_
            refine kA ?_ ?_
            · exact cV 0
            · refine kA ?_ ?_
              · exact cE_int 
              · exact cA_nil 
          · exact cE_int 
        · exact cV 5
      · refine cSs_cons ?_ ?_
        · refine kSet 7 S14.nd ?_
          refine cE_if ?_ ?_ ?_
          · refine kCmpT (op_eq.or (op_eqD hr.units)) (OpS.alt opS_sEq opS_deepEq) ?_ ?_
            · refine kCall (x := dX 4) (ps := P4) (G 4 (by decide)) hr hgd (T.d 4 (by decide)).fn.kp (T.d 4 (by decide)).bi (T.d 4 (by decide)).mg ?_
              refine kA ?_ ?_
              · exact cV 0
              · refine kA ?_ ?_
                · exact cE_int 
                · exact cA_nil 
            · exact cE_int 
          · refine kIx (hu_of hr) ?_ ?_
            · refine cE_lst ?_
              refine kA ?_ ?_
              · exact cE_str 
              · refine kA ?_ ?_
                · exact cE_str 
                · exact cA_nil 
            · refine kCall (x := dX 4) (ps := P4) (G 4 (by decide)) hr hgd (T.d 4 (by decide)).fn.kp (T.d 4 (by decide)).bi (T.d 4 (by decide)).mg ?_
              refine kA ?_ ?_
              · exact cV 0
              · refine kA ?_ ?_
                · exact cE_int 
                · exact cA_nil 
          · exact cE_non 
        · refine cSs_one ?_
          refine cS_ret ?_
          refine cE_tup ?_
          refine kA ?_ ?_
          · exact cV 1
          · refine kA ?_ ?_
            · refine kCall (x := dX 9) (ps := P9) (G 9 (by decide)) hr hgd (T.d 9 (by decide)).fn.kp (T.d 9 (by decide)).bi (T.d 9 (by decide)).mg ?_
              refine kA ?_ ?_
              · exact cV 0
              · refine kA ?_ ?_
                · exact cE_int 
                · refine kA ?_ ?_
                  · exact cV 2
                  · refine kA ?_ ?_
                    · exact cE_bl 
                    · exact cA_nil 
            · refine kA ?_ ?_
              · exact cV 4
              · refine kA ?_ ?_
                · refine kTy call_tuple_of callS_tuple T.b_tuple boot_tuple ?_
                  refine kA ?_ ?_
                  · refine cE_rev ?_
                    exact cV 6
                  · exact cA_nil 
                · refine kA ?_ ?_
                  · exact cV 7
                  · exact cA_nil 
theorem ok15 (T : Txt K mg f fd) {k : Nat} {C : Nat → MF} (G : ∀ i, i < 19 → FnG P w K mg base k (f i) (fd i) (dP i) (spM K mg (dN i) (C i))) : FnG P w K mg base (k + 1) (f 15) (fd 15) (dP 15) (spM K mg 2 (m15 C)) := by
  refine fnG_ok (st := s15) (x := (Str.ofString "_law_tale")) (qual := (Str.ofString "_law_tale")) (T.d 15 (by decide)).fn S15 rfl (fun cdv A outer s H E hr hgd => ?_)
  refine cSs_cons ?_ ?_
  · refine kSet 2 S15.nd ?_
    refine cE_slA ?_ ?_ ?_
    · refine cE_lst ?_
      refine kA ?_ ?_
      · exact cE_str 
      · refine kA ?_ ?_
        · exact cE_str 
        · refine kA ?_ ?_
          · exact cE_str 
          · refine kA ?_ ?_
            · exact cE_str 
            · refine kA ?_ ?_
              · exact cE_str 
              · refine kA ?_ ?_
                · exact cE_str 
                · exact cA_nil 
    · exact cO_none 
    · refine cO_some ?_
      refine cE_bin (op_add.or (op_add_str.or (op_catA.or op_cat))) (OpS.alt opS_iiI0 (OpS.alt opS_ssS (OpS.alt opS_ttT opS_llL))) ?_ ?_
      · exact cE_int 
      · refine kCall (x := dX 4) (ps := P4) (G 4 (by decide)) hr hgd (T.d 4 (by decide)).fn.kp (T.d 4 (by decide)).bi (T.d 4 (by decide)).mg ?_
        refine kA ?_ ?_
        · exact cV 0
        · refine kA ?_ ?_
          · exact cV 1
          · exact cA_nil 
  · refine cSs_cons ?_ ?_
    · refine kSet 3 S15.nd ?_
      refine cE_slA ?_ ?_ ?_
      · refine cE_lst ?_
        refine kA ?_ ?_
        · exact cE_str 
        · refine kA ?_ ?_
          · exact cE_str 
          · refine kA ?_ ?_
            · exact cE_str 
            · exact cA_nil 
      · refine cO_some ?_
        refine kCall (x := dX 4) (ps := P4) (G 4 (by decide)) hr hgd (T.d 4 (by decide)).fn.kp (T.d 4 (by decide)).bi (T.d 4 (by decide)).mg ?_
        refine kA ?_ ?_
        · exact cV 0
        · refine kA ?_ ?_
          · exact cE_int 
          · exact cA_nil 
      · refine cO_some ?_
        refine cE_bin (op_add.or (op_add_str.or (op_catA.or op_cat))) (OpS.alt opS_iiI0 (OpS.alt opS_ssS (OpS.alt opS_ttT opS_llL))) ?_ ?_
        · exact cE_int 
        · refine kCall (x := dX 4) (ps := P4) (G 4 (by decide)) hr hgd (T.d 4 (by decide)).fn.kp (T.d 4 (by decide)).bi (T.d 4 (by decide)).mg ?_
          refine kA ?_ ?_
          · exact cV 0
          · refine kA ?_ ?_
            · exact cE_int 
            · exact cA_nil 
    · refine cSs_cons ?_ ?_
      · refine kSet 4 S15.nd ?_
        refine cE_slA ?_ ?_ ?_
        · refine cE_lst ?_
          refine kA ?_ ?_
          · exact cE_str 
          · refine kA ?_ ?_
            · exact cE_str 
            · refine kA ?_ ?_
              · exact cE_str 
              · exact cA_nil 
        · refine cO_some ?_
          refine kCall (x := dX 4) (ps := P4) (G 4 (by decide)) hr hgd (T.d 4 (by decide)).fn.kp (T.d 4 (by decide)).bi (T.d 4 (by decide)).mg ?_
          refine kA ?_ ?_
          · exact cV 0
          · refine kA ?_ ?_
            · exact cE_int 
            · exact cA_nil 
        · refine cO_some ?_
          refine cE_bin (op_add.or (op_add_str.or (op_catA.or op_cat))) (OpS.alt opS_iiI0 (OpS.alt opS_ssS (OpS.alt opS_ttT opS_llL))) ?_ ?_
          · exact cE_int 
          · refine kCall (x := dX 4) (ps := P4) (G 4 (by decide)) hr hgd (T.d 4 (by decide)).fn.kp (T.d 4 (by decide)).bi (T.d 4 (by decide)).mg ?_
            refine kA ?_ ?_
            · exact cV 0
            · refine kA ?_ ?_
              · exact cE_int 
              · exact cA_nil 
      · refine cSs_cons ?_ ?_
        · refine kSet 5 S15.nd ?_
          refine cE_if ?_ ?_ ?_
          · refine kCmpT (op_ne.or (op_neD hr.units)) (OpS.alt opS_sNe opS_deepNe) ?_ ?_
            · exact cV 4
            · refine cE_lst ?_
              exact cA_nil 
          · refine cE_slA ?_ ?_ ?_
            · refine cE_lst ?_
              refine kA ?_ ?_
              · exact cE_str 
              · refine kA ?_ ?_
                · exact cE_str 
                · refine kA ?_ ?_
                  · exact cE_str 
                  · exact cA_nil 
            · exact cO_none 
            · refine cO_some ?_
              refine kCall (x := dX 4) (ps := P4) (G 4 (by decide)) hr hgd (T.d 4 (by decide)).fn.kp (T.d 4 (by decide)).bi (T.d 4 (by decide)).mg ?_
              refine kA ?_ ?_
              · exact cV 0
              · refine kA ?_ ?_
                · exact cE_int 
                · exact cA_nil 
          · refine cE_lst ?_
            exact cA_nil 
        · refine cSs_cons ?_ ?_
          · refine kSet 6 S15.nd ?_
            refine cE_disp ?_ rfl rfl (by simp) (by decide)
            refine cPs_cons ?_ ?_ ?_
            · exact cE_str 
            · exact cV 2
            · refine cPs_cons ?_ ?_ ?_
              · exact cE_str 
              · exact cV 3
              · refine cPs_cons ?_ ?_ ?_
                · exact cE_str 
                · exact cV 4
                · refine cPs_cons ?_ ?_ ?_
                  · exact cE_str 
                  · exact cV 5
                  · refine cPs_cons ?_ ?_ ?_
                    · exact cE_str 
                    · refine cE_lst ?_
                      refine kA ?_ ?_
                      · exact cE_int 
                      · exact cA_nil 
                    · exact cPs_nil 
          · refine cSs_cons ?_ ?_
            · refine kSetLc (L := ([8] ++ ([9] ++ []))) (i := 7) (own := [ ((Str.ofString "_law_k") , 8) , ((Str.ofString "_law_name") , 9) ]) rfl S15.nd rfl rfl rfl (by decide +kernel) rfl ?_ (by exact show blkC N15 (defScope s15) _ [ ((Str.ofString "_law_k") , 8) , ((Str.ofString "_law_name") , 9) ] = true from by decide +kernel) (by decide) (fun _ _ _ _ _ => ?_) (fun _ _ _ _ _ => ?_) (fun _ _ _ _ _ => ?_)
              · refine kEn T.b_enumerate ?_
                refine kA ?_ ?_
                · exact cV 3
                · exact cA_nil 
              · refine kGt rfl ?_
                refine kGc ?_ ?_
                · exact cGn 8 S15.nd
                · refine kGc ?_ ?_
                  · exact cGn 9 S15.nd
                  · exact cGs_nil 
              · exact cTs_nil 
              · refine cE_tup ?_
                refine kA ?_ ?_
                · exact cV 9
                · refine kA ?_ ?_
                  · exact cE_int 
                  · refine kA ?_ ?_
                    · refine cE_bin op_sub opS_iiI0 ?_ ?_
                      · exact cE_int 
                      · exact cV 8
                    · refine kA ?_ ?_
                      · refine kCall (x := dX 4) (ps := P4) (G 4 (by decide)) hr hgd (T.d 4 (by decide)).fn.kp (T.d 4 (by decide)).bi (T.d 4 (by decide)).mg ?_
                        refine kA ?_ ?_
                        · exact cV 0
                        · refine kA ?_ ?_
                          · exact cE_int 
                          · exact cA_nil 
                      · exact cA_nil 
            · refine cSs_cons ?_ ?_
              · refine kSet 10 S15.nd ?_
                refine cE_lst ?_
                exact cA_nil 
              · refine cSs_cons ?_ ?_
                · refine kFor (L := [11]) PassesOwn.never rfl ?_ ?_ ?_
                  · refine cI_seq ?_
                    exact cV 4
                  · exact cGn 11 S15.nd
                  · refine cSs_one ?_
                    refine kSet 10 S15.nd ?_
                    refine cE_bin (op_add.or (op_add_str.or (op_catA.or op_cat))) (OpS.alt opS_iiI0 (OpS.alt opS_ssS (OpS.alt opS_ttT opS_llL))) ?_ ?_
                    · exact cV 10
                    · refine kLc (L := [12]) (own := [ ((Str.ofString "_law_other") , 12) ]) rfl S15.nd ?_ (by exact show blkC N15 (defScope s15) _ [ ((Str.ofString "_law_other") , 12) ] = true from by decide +kernel) (by decide) (fun _ _ _ _ _ => ?_) (fun _ _ _ _ _ => ?_) (fun _ _ _ _ _ => ?_)
                      · refine cI_seq ?_
                        exact cV 4
                      · exact cGn 12 S15.nd
                      · refine cTs_one ?_
                        refine cT_w ?_
                        refine cW_and ?_ ?_
                        · refine kCmpT (op_lt.or op_lt_str) (OpS.alt opS_iiB opS_ssB) ?_ ?_
                          · exact cV 11
                          · exact cV 12
                        · refine cW_and1 ?_
                          refine kCmpT (op_eq.or (op_eqD hr.units)) (OpS.alt opS_sEq opS_deepEq) ?_ ?_
                          · refine kCall (x := dX 4) (ps := P4) (G 4 (by decide)) hr hgd (T.d 4 (by decide)).fn.kp (T.d 4 (by decide)).bi (T.d 4 (by decide)).mg ?_
                            refine kA ?_ ?_
                            · exact cV 0
                            · refine kA ?_ ?_
                              · exact cE_int 
                              · exact cA_nil 
                          · exact cE_int 
                      · refine cE_tup ?_
                        refine kA ?_ ?_
                        · exact cV 11
                        · refine kA ?_ ?_
                          · exact cV 12
                          · exact cA_nil 
                · refine cSs_cons ?_ ?_
                  · refine kSet 13 S15.nd ?_
                    refine kTy call_tuple_of callS_tuple T.b_tuple boot_tuple ?_
                    refine kA ?_ ?_
                    · refine kLc (L := [8]) (own := [ ((Str.ofString "_law_k") , 8) ]) rfl S15.nd ?_ (by exact show blkC N15 (defScope s15) _ [ ((Str.ofString "_law_k") , 8) ] = true from by decide +kernel) (by decide) (fun _ _ _ _ _ => ?_) (fun _ _ _ _ _ => ?_) (fun _ _ _ _ _ => ?_)
                      · refine kR1 T.b_range ?_
                        refine kA ?_ ?_
                        · refine kCall (x := dX 4) (ps := P4) (G 4 (by decide)) hr hgd (T.d 4 (by decide)).fn.kp (T.d 4 (by decide)).bi (T.d 4 (by decide)).mg ?_
                          refine kA ?_ ?_
                          · exact cV 0
                          · refine kA ?_ ?_
                            · exact cE_int 
                            · exact cA_nil 
                        · exact cA_nil 
                      · exact cGn 8 S15.nd
                      · exact cTs_nil 
                      · refine kCall (x := dX 4) (ps := P4) (G 4 (by decide)) hr hgd (T.d 4 (by decide)).fn.kp (T.d 4 (by decide)).bi (T.d 4 (by decide)).mg ?_
                        refine kA ?_ ?_
                        · exact cV 0
                        · refine kA ?_ ?_
                          · exact cE_int 
                          · exact cA_nil 
                    · exact cA_nil 
                  · refine cSs_cons ?_ ?_
                    · refine kSetLc (L := [9]) (i := 14) (own := [ ((Str.ofString "_law_name") , 9) ]) rfl S15.nd rfl rfl rfl (by decide +kernel) rfl ?_ (by exact show blkC N15 (defScope s15) _ [ ((Str.ofString "_law_name") , 9) ] = true from by decide +kernel) (by decide) (fun _ _ _ _ _ => ?_) (fun _ _ _ _ _ => ?_) (fun _ _ _ _ _ => ?_)
                      · refine cI_seq ?_
                        exact cV 5
                      · exact cGn 9 S15.nd
                      · exact cTs_nil 
                      · refine cE_tup ?_
                        refine kA ?_ ?_
                        · exact cV 9
                        · refine kA ?_ ?_
                          · refine kCall (x := dX 5) (ps := P5) (G 5 (by decide)) hr hgd (T.d 5 (by decide)).fn.kp (T.d 5 (by decide)).bi (T.d 5 (by decide)).mg ?_
                            refine kA ?_ ?_
                            · exact cV 0
                            · refine kA ?_ ?_
                              · exact cV 4
                              · exact cA_nil 
                          · exact cA_nil 
                    · refine cSs_cons ?_ ?_
                      · refine kSet 15 S15.nd ?_
                        refine kTy call_tuple_of callS_tuple T.b_tuple boot_tuple ?_
                        refine kA ?_ ?_
                        · refine kLc (L := [9]) (own := [ ((Str.ofString "_law_name") , 9) ]) rfl S15.nd ?_ (by exact show blkC N15 (defScope s15) _ [ ((Str.ofString "_law_name") , 9) ] = true from by decide +kernel) (by decide) (fun _ _ _ _ _ => ?_) (fun _ _ _ _ _ => ?_) (fun _ _ _ _ _ => ?_)
                          · refine cI_seq ?_
                            exact cV 2
                          · exact cGn 9 S15.nd
                          · exact cTs_nil 
                          · refine kCall (x := dX 14) (ps := P14) (G 14 (by decide)) hr hgd (T.d 14 (by decide)).fn.kp (T.d 14 (by decide)).bi (T.d 14 (by decide)).mg ?_
                            refine kA ?_ ?_
                            · exact cV 0
                            · refine kA ?_ ?_
                              · exact cV 9
                              · refine kA ?_ ?_
                                · exact cV 6
                                · exact cA_nil 
                        · exact cA_nil 
                      · refine cSs_one ?_
                        refine cS_ret ?_
                        refine cE_tup ?_
                        refine kA ?_ ?_
                        · refine kTy call_tuple_of callS_tuple T.b_tuple boot_tuple ?_
                          refine kA ?_ ?_
                          · exact cV 7
                          · exact cA_nil 
                        · refine kA ?_ ?_
                          · refine kTy call_tuple_of callS_tuple T.b_tuple boot_tuple ?_
                            refine kA ?_ ?_
                            · exact cV 4
                            · exact cA_nil 
                          · refine kA ?_ ?_
                            · refine kTy call_tuple_of callS_tuple T.b_tuple boot_tuple ?_
                              refine kA ?_ ?_
                              · exact cV 10
                              · exact cA_nil 
                            · refine kA ?_ ?_
                              · refine kTy call_tuple_of callS_tuple T.b_tuple boot_tuple ?_
                                refine kA ?_ ?_
                                · exact cV 14
                                · exact cA_nil 
                              · refine kA ?_ ?_
                                · exact cV 13
                                · refine kA ?_ ?_
                                  · exact cV 15
                                  · refine kA ?_ ?_
                                    · refine kCall (x := dX 5) (ps := P5) (G 5 (by decide)) hr hgd (T.d 5 (by decide)).fn.kp (T.d 5 (by decide)).bi (T.d 5 (by decide)).mg ?_
                                      refine kA ?_ ?_
                                      · exact cV 0
                                      · refine kA ?_ ?_
                                        · exact cV 2
                                        · exact cA_nil 
                                    · exact cA_nil 
theorem ok16 (T : Txt K mg f fd) {k : Nat} {C : Nat → MF} (G : ∀ i, i < 19 → FnG P w K mg base k (f i) (fd i) (dP i) (spM K mg (dN i) (C i))) : FnG P w K mg base (k + 1) (f 16) (fd 16) (dP 16) (spM K mg 1 (m16 C)) := by
  refine fnG_ok (st := s16) (x := (Str.ofString "_law_come_to")) (qual := (Str.ofString "_law_come_to")) (T.d 16 (by decide)).fn S16 rfl (fun cdv A outer s H E hr hgd => ?_)
  refine cSs_cons ?_ ?_
  · refine kAsgC (L := ([1] ++ ([2] ++ []))) ?_ ?_ rfl
    · refine cE_tup ?_
      refine kA ?_ ?_
      · refine cE_disp ?_ rfl rfl (by simp) (by decide)
        refine cPs_cons ?_ ?_ ?_
        · refine kIx (hu_of hr) ?_ ?_
          · exact cV 0
          · exact cE_int 
        · exact cE_bl 
        · exact cPs_nil 
      · refine kA ?_ ?_
        · refine cE_lst ?_
          refine kA ?_ ?_
          · refine kIx (hu_of hr) ?_ ?_
            · exact cV 0
            · exact cE_int 
          · exact cA_nil 
        · exact cA_nil 
    · refine kGt rfl ?_
      refine kGc ?_ ?_
      · exact cGn 1 S16.nd
      · refine kGc ?_ ?_
        · exact cGn 2 S16.nd
        · exact cGs_nil 
  · refine cSs_cons ?_ ?_
    · refine cS_while 100000 PassesOwn.never ?_ ?_
      · refine kCmpT (op_ne.or (op_neD hr.units)) (OpS.alt opS_sNe opS_deepNe) ?_ ?_
        · exact cV 2
        · refine cE_lst ?_
          exact cA_nil 
      · refine cSs_cons ?_ ?_
        · refine kSet 3 S16.nd ?_
          refine kMt0 PySem.F.plainAttrs_list PySem.F.slot_list_pop PySem.F.type_list_pop mt_pop mtS_pop ?_
          exact cV 2
        · refine cSs_cons ?_ ?_
          · refine kSet 4 S16.nd ?_
            refine kIx (hu_of hr) ?_ ?_
            · refine kLc (L := [5]) (own := [ ((Str.ofString "_law_one") , 5) ]) rfl S16.nd ?_ (by exact show blkC N16 (defScope s16) _ [ ((Str.ofString "_law_one") , 5) ] = true from by decide +kernel) (by decide) (fun _ _ _ _ _ => ?_) (fun _ _ _ _ _ => ?_) (fun _ _ _ _ _ => ?_)
              · refine cI_seq ?_
                refine kIx (hu_of hr) ?_ ?_
                · exact cV 0
                · exact cE_int 
              · exact cGn 5 S16.nd
              · refine cTs_one ?_
                refine kCmpT (op_eq.or (op_eqD hr.units)) (OpS.alt opS_sEq opS_deepEq) ?_ ?_
                · refine kIx (hu_of hr) ?_ ?_
                  · exact cV 5
                  · exact cE_int 
                · exact cV 3
              · exact cV 5
            · exact cE_int 
          · refine cSs_cons ?_ ?_
            · refine kSet 6 S16.nd ?_
              refine kTy call_list_of callS_list T.b_list boot_list ?_
              refine kA ?_ ?_
              · refine kIx (hu_of hr) ?_ ?_
                · exact cV 4
                · exact cE_int 
              · exact cA_nil 
            · refine cSs_cons ?_ ?_
              · refine kFor (L := [7]) PassesOwn.never rfl ?_ ?_ ?_
                · refine cI_seq ?_
                  refine kIx (hu_of hr) ?_ ?_
                  · exact cV 4
                  · exact cE_int 
                · exact cGn 7 S16.nd
                · refine cSs_one ?_
                  refine kSet 6 S16.nd ?_
                  refine cE_bin (op_add.or (op_add_str.or (op_catA.or op_cat))) (OpS.alt opS_iiI0 (OpS.alt opS_ssS (OpS.alt opS_ttT opS_llL))) ?_ ?_
                  · exact cV 6
                  · refine kTy call_list_of callS_list T.b_list boot_list ?_
                    refine kA ?_ ?_
                    · refine cE_slA ?_ ?_ ?_
                      · refine kIx (hu_of hr) ?_ ?_
                        · exact cV 7
                        · exact cE_int 
                      · refine cO_some ?_
                        exact cE_int 
                      · exact cO_none 
                    · exact cA_nil 
              · refine cSs_cons ?_ ?_
                · refine kSet 2 S16.nd ?_
                  refine cE_bin (op_add.or (op_add_str.or (op_catA.or op_cat))) (OpS.alt opS_iiI0 (OpS.alt opS_ssS (OpS.alt opS_ttT opS_llL))) ?_ ?_
                  · exact cV 2
                  · refine kLc (L := [5]) (own := [ ((Str.ofString "_law_one") , 5) ]) rfl S16.nd ?_ (by exact show blkC N16 (defScope s16) _ [ ((Str.ofString "_law_one") , 5) ] = true from by decide +kernel) (by decide) (fun _ _ _ _ _ => ?_) (fun _ _ _ _ _ => ?_) (fun _ _ _ _ _ => ?_)
                    · refine cI_seq ?_
                      refine cE_sortSet rfl hr.units T.b_sorted T.b_set ?_
                      exact cV 6
                    · exact cGn 5 S16.nd
                    · refine cTs_one ?_
                      refine kNotInT (hu_of hr) ?_ ?_
                      · exact cV 5
                      · exact cV 1
                    · exact cV 5
                · refine cSs_one ?_
                  refine kExpr ?_
                  refine kMt PySem.F.plainAttrs_dict PySem.F.slot_dict_update PySem.F.type_dict_update mtR_update mtS_update ?_ ?_
                  · exact cV 1
                  · refine kA ?_ ?_
                    · refine kTy (callR_dict rfl) callS_dict T.b_dict (by rfl) ?_
                      refine kA ?_ ?_
                      · refine kLc (L := [5]) (own := [ ((Str.ofString "_law_one") , 5) ]) rfl S16.nd ?_ (by exact show blkC N16 (defScope s16) _ [ ((Str.ofString "_law_one") , 5) ] = true from by decide +kernel) (by decide) (fun _ _ _ _ _ => ?_) (fun _ _ _ _ _ => ?_) (fun _ _ _ _ _ => ?_)
                        · refine cI_seq ?_
                          exact cV 6
                        · exact cGn 5 S16.nd
                        · exact cTs_nil 
                        · refine cE_tup ?_
                          refine kA ?_ ?_
                          · exact cV 5
                          · refine kA ?_ ?_
                            · exact cE_bl 
                            · exact cA_nil 
                      · exact cA_nil 
                    · exact cA_nil 
    · refine cSs_one ?_
      refine cS_ret ?_
      refine kB (callR_sortedD rfl) callS_sortedD T.b_sorted (by rfl) ?_
      refine kA ?_ ?_
      · exact cV 1
      · exact cA_nil 
theorem ok17 (T : Txt K mg f fd) {k : Nat} {C : Nat → MF} (G : ∀ i, i < 19 → FnG P w K mg base k (f i) (fd i) (dP i) (spM K mg (dN i) (C i))) : FnG P w K mg base (k + 1) (f 17) (fd 17) (dP 17) (spM K mg 1 (m17 C)) := by
  refine fnG_ok (st := s17) (x := (Str.ofString "_law_chain")) (qual := (Str.ofString "_law_chain")) (T.d 17 (by decide)).fn S17 rfl (fun cdv A outer s H E hr hgd => ?_)
  refine cSs_cons ?_ ?_
  · refine cS_par (i := 1) (j := 2) rfl S17.nd rfl rfl (by decide) rfl rfl ?_ rfl
    refine kA ?_ ?_
    · exact cE_str 
    · refine kA ?_ ?_
      · refine cE_lst ?_
        exact cA_nil 
      · exact cA_nil 
  · refine cSs_cons ?_ ?_
    · refine kFor (L := [3]) PassesOwn.never rfl ?_ ?_ ?_
      · refine kR1 T.b_range ?_
        refine kA ?_ ?_
        · exact cE_int 
        · exact cA_nil 
      · exact cGn 3 S17.nd
      · refine cSs_cons ?_ ?_
        · refine kSet 4 S17.nd ?_
          refine kIx (hu_of hr) ?_ ?_
          · exact cV 1
          · refine cE_bin op_mod opS_mod ?_ ?_
            · refine cE_bin (op_add.or (op_add_str.or (op_catA.or op_cat))) (OpS.alt opS_iiI0 (OpS.alt opS_ssS (OpS.alt opS_ttT opS_llL))) ?_ ?_
              · exact cV 3
              · exact cE_int 
            · exact cE_int 
        · refine cSs_cons ?_ ?_
          · refine kSet 5 S17.nd ?_
            refine kIx (hu_of hr) ?_ ?_
            · refine cE_lst ?_
              refine kA ?_ ?_
              · refine cE_tup ?_
                refine kA ?_ ?_
                · exact cE_str 
                · refine kA ?_ ?_
                  · exact cV 4
                  · exact cA_nil 
              · refine kA ?_ ?_
                · refine cE_tup ?_
                  refine kA ?_ ?_
                  · exact cE_str 
                  · refine kA ?_ ?_
                    · exact cV 4
                    · refine kA ?_ ?_
                      · refine kIx (hu_of hr) ?_ ?_
                        · exact cV 1
                        · exact cV 3
                      · exact cA_nil 
                · refine kA ?_ ?_
                  · refine cE_tup ?_
                    refine kA ?_ ?_
                    · exact cE_str 
                    · refine kA ?_ ?_
                      · refine kIx (hu_of hr) ?_ ?_
                        · exact cV 1
                        · exact cV 3
                      · refine kA ?_ ?_
                        · exact cV 4
                        · exact cA_nil 
                  · refine kA ?_ ?_
                    · refine cE_tup ?_
                      refine kA ?_ ?_
                      · exact cE_str 
                      · exact cA_nil 
                    · exact cA_nil 
            · exact cV 0
          · refine cSs_cons ?_ ?_
            · refine kSet 6 S17.nd ?_
              refine cE_tup ?_
              refine kA ?_ ?_
              · exact cE_str 
              · refine kA ?_ ?_
                · refine cE_tup ?_
                  refine kA ?_ ?_
                  · refine cE_tup ?_
                    refine kA ?_ ?_
                    · exact cE_str 
                    · refine kA ?_ ?_
                      · refine cE_tup ?_
                        refine kA ?_ ?_
                        · exact cE_str 
                        · refine kA ?_ ?_
                          · refine kIx (hu_of hr) ?_ ?_
                            · exact cV 1
                            · refine cE_bin op_mod opS_mod ?_ ?_
                              · refine cE_bin (op_add.or (op_add_str.or (op_catA.or op_cat))) (OpS.alt opS_iiI0 (OpS.alt opS_ssS (OpS.alt opS_ttT opS_llL))) ?_ ?_
                                · exact cV 3
                                · exact cE_int 
                              · exact cE_int 
                          · exact cA_nil 
                      · exact cA_nil 
                  · exact cA_nil 
                · refine kA ?_ ?_
                  · refine cE_tup ?_
                    refine kA ?_ ?_
                    · exact cE_str 
                    · refine kA ?_ ?_
                      · refine cE_tup ?_
                        exact cA_nil 
                      · exact cA_nil 
                  · refine kA ?_ ?_
                    · exact cE_bl 
                    · refine kA ?_ ?_
                      · refine cE_tup ?_
                        exact cA_nil 
                      · refine kA ?_ ?_
                        · exact cV 5
                        · exact cA_nil 
            · refine cSs_one ?_
              refine kExpr ?_
              refine kMt PySem.F.plainAttrs_list PySem.F.slot_list_append PySem.F.type_list_append mt_append mtS_append ?_ ?_
              · exact cV 2
              · refine kA ?_ ?_
                · refine cE_tup ?_
                  refine kA ?_ ?_
                  · refine kIx (hu_of hr) ?_ ?_
                    · exact cV 1
                    · exact cV 3
                  · refine kA ?_ ?_
                    · refine cE_tup ?_
                      exact cA_nil 
                    · refine kA ?_ ?_
                      · refine cE_tup ?_
                        refine kA ?_ ?_
                        · exact cV 6
                        · exact cA_nil 
                      · refine kA ?_ ?_
                        · refine cE_if ?_ ?_ ?_
                          · refine kCmpT (op_eq.or (op_eqD hr.units)) (OpS.alt opS_sEq opS_deepEq) ?_ ?_
                            · exact cV 0
                            · exact cE_int 
                          · refine cE_tup ?_
                            refine kA ?_ ?_
                            · exact cV 4
                            · exact cA_nil 
                          · refine cE_tup ?_
                            exact cA_nil 
                        · refine kA ?_ ?_
                          · exact cE_non 
                          · exact cA_nil 
                · exact cA_nil 
    · refine cSs_one ?_
      refine cS_ret ?_
      refine cE_tup ?_
      refine kA ?_ ?_
      · refine cE_tup ?_
        exact cA_nil 
      · refine kA ?_ ?_
        · refine cE_tup ?_
          exact cA_nil 
        · refine kA ?_ ?_
          · refine cE_tup ?_
            exact cA_nil 
          · refine kA ?_ ?_
            · refine cE_tup ?_
              exact cA_nil 
            · refine kA ?_ ?_
              · refine cE_tup ?_
                exact cA_nil 
              · refine kA ?_ ?_
                · refine kTy call_tuple_of callS_tuple T.b_tuple boot_tuple ?_
                  refine kA ?_ ?_
                  · exact cV 2
                  · exact cA_nil 
                · refine kA ?_ ?_
                  · exact cE_str 
                  · exact cA_nil 
theorem ok18 (T : Txt K mg f fd) {k : Nat} {C : Nat → MF} (G : ∀ i, i < 19 → FnG P w K mg base k (f i) (fd i) (dP i) (spM K mg (dN i) (C i))) : FnG P w K mg base (k + 1) (f 18) (fd 18) (dP 18) (spM K mg 1 (m18 C)) := by
  refine fnG_ok (st := s18) (x := (Str.ofString "law")) (qual := (Str.ofString "law")) (T.d 18 (by decide)).fn S18 rfl (fun cdv A outer s H E hr hgd => ?_)
  refine cSs_cons ?_ ?_
  · refine kSet 1 S18.nd ?_
    refine kCall (x := dX 3) (ps := P3) (G 3 (by decide)) hr hgd (T.d 3 (by decide)).fn.kp (T.d 3 (by decide)).bi (T.d 3 (by decide)).mg ?_
    refine kA ?_ ?_
    · exact cV 0
    · exact cA_nil 
  · refine cSs_cons ?_ ?_
    · refine kSet 2 S18.nd ?_
      refine cE_lst ?_
      refine kA ?_ ?_
      · refine cE_tup ?_
        refine kA ?_ ?_
        · refine cE_tup ?_
          exact cA_nil 
        · refine kA ?_ ?_
          · refine cE_tup ?_
            exact cA_nil 
          · refine kA ?_ ?_
            · refine cE_tup ?_
              exact cA_nil 
            · refine kA ?_ ?_
              · refine cE_tup ?_
                exact cA_nil 
              · refine kA ?_ ?_
                · refine cE_tup ?_
                  exact cA_nil 
                · refine kA ?_ ?_
                  · refine cE_tup ?_
                    refine kA ?_ ?_
                    · refine cE_tup ?_
                      refine kA ?_ ?_
                      · exact cE_str 
                      · refine kA ?_ ?_
                        · refine cE_tup ?_
                          exact cA_nil 
                        · refine kA ?_ ?_
                          · refine cE_tup ?_
                            exact cA_nil 
                          · refine kA ?_ ?_
                            · refine cE_tup ?_
                              exact cA_nil 
                            · refine kA ?_ ?_
                              · exact cE_str 
                              · exact cA_nil 
                    · exact cA_nil 
                  · refine kA ?_ ?_
                    · exact cE_str 
                    · exact cA_nil 
      · exact cA_nil 
    · refine cSs_cons ?_ ?_
      · refine kFor (L := [3]) PassesOwn.never rfl ?_ ?_ ?_
        · refine kR1 T.b_range ?_
          refine kA ?_ ?_
          · exact cE_int 
          · exact cA_nil 
        · exact cGn 3 S18.nd
        · refine cSs_cons ?_ ?_
          · refine kSet 4 S18.nd ?_
            refine kCall (x := dX 17) (ps := P17) (G 17 (by decide)) hr hgd (T.d 17 (by decide)).fn.kp (T.d 17 (by decide)).bi (T.d 17 (by decide)).mg ?_
            refine kA ?_ ?_
            · exact cV 3
            · exact cA_nil 
          · refine cSs_cons ?_ ?_
            · refine cS_if ?_ ?_ ?_
              · refine cT_w ?_
                refine cW_or ?_ ?_
                · refine kCmpT (op_ne.or (op_neD hr.units)) (OpS.alt opS_sNe opS_deepNe) ?_ ?_
                  · refine kCall (x := dX 1) (ps := P1) (G 1 (by decide)) hr hgd (T.d 1 (by decide)).fn.kp (T.d 1 (by decide)).bi (T.d 1 (by decide)).mg ?_
                    refine kA ?_ ?_
                    · exact cV 4
                    · exact cA_nil 
                  · refine cE_tup ?_
                    refine kA ?_ ?_
                    · exact cE_str 
                    · refine kA ?_ ?_
                      · exact cE_str 
                      · refine kA ?_ ?_
                        · exact cE_str 
                        · refine kA ?_ ?_
                          · exact cE_str 
                          · exact cA_nil 
                · refine cW_or1 ?_
                  refine kCmpT (op_ne.or (op_neD hr.units)) (OpS.alt opS_sNe opS_deepNe) ?_ ?_
                  · refine kCall (x := dX 1) (ps := P1) (G 1 (by decide)) hr hgd (T.d 1 (by decide)).fn.kp (T.d 1 (by decide)).bi (T.d 1 (by decide)).mg ?_
                    refine kA ?_ ?_
                    · refine cE_bin (op_add.or (op_add_str.or (op_catA.or op_cat))) (OpS.alt opS_iiI0 (OpS.alt opS_ssS (OpS.alt opS_ttT opS_llL))) ?_ ?_
                      · refine cE_slA ?_ ?_ ?_
                        · exact cV 4
                        · exact cO_none 
                        · refine cO_some ?_
                          exact cE_int 
                      · refine cE_tup ?_
                        refine kA ?_ ?_
                        · exact cE_str 
                        · exact cA_nil 
                    · exact cA_nil 
                  · refine cE_tup ?_
                    refine kA ?_ ?_
                    · exact cE_str 
                    · refine kA ?_ ?_
                      · exact cE_str 
                      · refine kA ?_ ?_
                        · exact cE_str 
                        · refine kA ?_ ?_
                          · exact cE_str 
                          · exact cA_nil 
              · refine cSs_one ?_
                refine cS_ret ?_
                exact cE_bl 
              · exact cSs_nil 
            · refine cSs_cons ?_ ?_
              · refine kSet 5 S18.nd ?_
                refine cE_bin (op_add.or (op_add_str.or (op_catA.or op_cat))) (OpS.alt opS_iiI0 (OpS.alt opS_ssS (OpS.alt opS_ttT opS_llL))) ?_ ?_
                · refine cE_bin (op_add.or (op_add_str.or (op_catA.or op_cat))) (OpS.alt opS_iiI0 (OpS.alt opS_ssS (OpS.alt opS_ttT opS_llL))) ?_ ?_
                  · refine cE_slA ?_ ?_ ?_
                    · refine kIx (hu_of hr) ?_ ?_
                      · exact cV 4
                      · exact cE_int 
                    · exact cO_none 
                    · refine cO_some ?_
                      exact cE_int 
                  · refine cE_tup ?_
                    refine kA ?_ ?_
                    · refine cE_tup ?_
                      refine kA ?_ ?_
                      · refine kIx (hu_of hr) ?_ ?_
                        · refine kIx (hu_of hr) ?_ ?_
                          · refine kIx (hu_of hr) ?_ ?_
                            · exact cV 4
                            · exact cE_int 
                          · exact cE_int 
                        · exact cE_int 
                      · refine kA ?_ ?_
                        · refine cE_tup ?_
                          exact cA_nil 
                        · refine kA ?_ ?_
                          · refine cE_tup ?_
                            exact cA_nil 
                          · refine kA ?_ ?_
                            · refine cE_tup ?_
                              exact cA_nil 
                            · refine kA ?_ ?_
                              · exact cE_non 
                              · exact cA_nil 
                    · exact cA_nil 
                · refine cE_slA ?_ ?_ ?_
                  · refine kIx (hu_of hr) ?_ ?_
                    · exact cV 4
                    · exact cE_int 
                  · refine cO_some ?_
                    exact cE_int 
                  · exact cO_none 
              · refine cSs_cons ?_ ?_
                · refine kSet 6 S18.nd ?_
                  refine kTy call_tuple_of callS_tuple T.b_tuple boot_tuple ?_
                  refine kA ?_ ?_
                  · refine kLc (L := [7]) (own := [ ((Str.ofString "_law_scene_here") , 7) ]) rfl S18.nd ?_ (by exact show blkC N18 (defScope s18) _ [ ((Str.ofString "_law_scene_here") , 7) ] = true from by decide +kernel) (by decide) (fun _ _ _ _ _ => ?_) (fun _ _ _ _ _ => ?_) (fun _ _ _ _ _ => ?_)
                    · refine cI_seq ?_
                      refine kIx (hu_of hr) ?_ ?_
                      · exact cV 4
                      · exact cE_int 
                    · exact cGn 7 S18.nd
                    · exact cTs_nil 
                    · refine cE_bin (op_add.or (op_add_str.or (op_catA.or op_cat))) (OpS.alt opS_iiI0 (OpS.alt opS_ssS (OpS.alt opS_ttT opS_llL))) ?_ ?_
                      · refine cE_slA ?_ ?_ ?_
                        · exact cV 7
                        · exact cO_none 
                        · refine cO_some ?_
                          exact cE_int 
                      · refine cE_tup ?_
                        refine kA ?_ ?_
                        · exact cE_str 
                        · exact cA_nil 
                  · exact cA_nil 
                · refine cSs_one ?_
                  refine kSet 2 S18.nd ?_
                  refine cE_bin (op_add.or (op_add_str.or (op_catA.or op_cat))) (OpS.alt opS_iiI0 (OpS.alt opS_ssS (OpS.alt opS_ttT opS_llL))) ?_ ?_
                  · exact cV 2
                  · refine cE_lst ?_
                    refine kA ?_ ?_
                    · exact cV 4
                    · refine kA ?_ ?_
                      · refine cE_bin (op_add.or (op_add_str.or (op_catA.or op_cat))) (OpS.alt opS_iiI0 (OpS.alt opS_ssS (OpS.alt opS_ttT opS_llL))) ?_ ?_
                        · refine cE_slA ?_ ?_ ?_
                          · exact cV 4
                          · exact cO_none 
                          · refine cO_some ?_
                            exact cE_int 
                        · refine cE_tup ?_
                          refine kA ?_ ?_
                          · exact cV 5
                          · refine kA ?_ ?_
                            · exact cE_str 
                            · exact cA_nil 
                      · refine kA ?_ ?_
                        · refine cE_bin (op_add.or (op_add_str.or (op_catA.or op_cat))) (OpS.alt opS_iiI0 (OpS.alt opS_ssS (OpS.alt opS_ttT opS_llL))) ?_ ?_
                          · refine cE_slA ?_ ?_ ?_
                            · exact cV 4
                            · exact cO_none 
                            · refine cO_some ?_
                              exact cE_int 
                          · refine cE_tup ?_
                            refine kA ?_ ?_
                            · exact cV 5
                            · refine kA ?_ ?_
                              · exact cE_str 
                              · exact cA_nil 
                        · refine kA ?_ ?_
                          · refine cE_bin (op_add.or (op_add_str.or (op_catA.or op_cat))) (OpS.alt opS_iiI0 (OpS.alt opS_ssS (OpS.alt opS_ttT opS_llL))) ?_ ?_
                            · refine cE_slA ?_ ?_ ?_
                              · exact cV 4
                              · exact cO_none 
                              · refine cO_some ?_
                                exact cE_int 
                            · refine cE_tup ?_
                              refine kA ?_ ?_
                              · exact cV 6
                              · refine kA ?_ ?_
                                · exact cE_str 
                                · exact cA_nil 
                          · exact cA_nil 
      · refine cSs_cons ?_ ?_
        · refine kFor (L := [8]) PassesOwn.never rfl ?_ ?_ ?_
          · refine kR1 T.b_range ?_
            refine kA ?_ ?_
            · exact cE_int 
            · exact cA_nil 
          · exact cGn 8 S18.nd
          · refine cSs_cons ?_ ?_
            · refine kSet 4 S18.nd ?_
              refine kCall (x := dX 15) (ps := P15) (G 15 (by decide)) hr hgd (T.d 15 (by decide)).fn.kp (T.d 15 (by decide)).bi (T.d 15 (by decide)).mg ?_
              refine kA ?_ ?_
              · exact cV 1
              · refine kA ?_ ?_
                · exact cE_int 
                · exact cA_nil 
            · refine cSs_cons ?_ ?_
              · refine kSet 2 S18.nd ?_
                refine cE_bin (op_add.or (op_add_str.or (op_catA.or op_cat))) (OpS.alt opS_iiI0 (OpS.alt opS_ssS (OpS.alt opS_ttT opS_llL))) ?_ ?_
                · exact cV 2
                · refine kLc (L := [7]) (own := [ ((Str.ofString "_law_scene_here") , 7) ]) rfl S18.nd ?_ (by exact show blkC N18 (defScope s18) _ [ ((Str.ofString "_law_scene_here") , 7) ] = true from by decide +kernel) (by decide) (fun _ _ _ _ _ => ?_) (fun _ _ _ _ _ => ?_) (fun _ _ _ _ _ => ?_)
                  · refine cI_seq ?_
                    refine kIx (hu_of hr) ?_ ?_
                    · exact cV 4
                    · exact cE_int 
                  · exact cGn 7 S18.nd
                  · exact cTs_nil 
                  · refine cE_bin (op_add.or (op_add_str.or (op_catA.or op_cat))) (OpS.alt opS_iiI0 (OpS.alt opS_ssS (OpS.alt opS_ttT opS_llL))) ?_ ?_
                    · refine cE_slA ?_ ?_ ?_
                      · exact cV 4
                      · exact cO_none 
                      · refine cO_some ?_
                        exact cE_int 
                    · refine cE_tup ?_
                      refine kA ?_ ?_
                      · refine kIx (hu_of hr) ?_ ?_
                        · exact cV 7
                        · exact cE_int 
                      · exact cA_nil 
              · refine cSs_cons ?_ ?_
                · refine kSet 9 S18.nd ?_
                  refine kTy call_tuple_of callS_tuple T.b_tuple boot_tuple ?_
                  refine kA ?_ ?_
                  · refine kLc (L := [7]) (own := [ ((Str.ofString "_law_scene_here") , 7) ]) rfl S18.nd ?_ (by exact show blkC N18 (defScope s18) _ [ ((Str.ofString "_law_scene_here") , 7) ] = true from by decide +kernel) (by decide) (fun _ _ _ _ _ => ?_) (fun _ _ _ _ _ => ?_) (fun _ _ _ _ _ => ?_)
                    · refine cI_seq ?_
                      refine kIx (hu_of hr) ?_ ?_
                      · exact cV 4
                      · exact cE_int 
                    · exact cGn 7 S18.nd
                    · exact cTs_nil 
                    · refine cE_bin (op_add.or (op_add_str.or (op_catA.or op_cat))) (OpS.alt opS_iiI0 (OpS.alt opS_ssS (OpS.alt opS_ttT opS_llL))) ?_ ?_
                      · refine cE_bin (op_add.or (op_add_str.or (op_catA.or op_cat))) (OpS.alt opS_iiI0 (OpS.alt opS_ssS (OpS.alt opS_ttT opS_llL))) ?_ ?_
                        · refine cE_slA ?_ ?_ ?_
                          · exact cV 7
                          · exact cO_none 
                          · refine cO_some ?_
                            exact cE_int 
                        · refine cE_tup ?_
                          refine kA ?_ ?_
                          · refine cE_tup ?_
                            exact cA_nil 
                          · exact cA_nil 
                      · refine cE_slA ?_ ?_ ?_
                        · exact cV 7
                        · refine cO_some ?_
                          exact cE_int 
                        · exact cO_none 
                  · exact cA_nil 
                · refine cSs_one ?_
                  refine kSet 2 S18.nd ?_
                  refine cE_bin (op_add.or (op_add_str.or (op_catA.or op_cat))) (OpS.alt opS_iiI0 (OpS.alt opS_ssS (OpS.alt opS_ttT opS_llL))) ?_ ?_
                  · exact cV 2
                  · refine cE_lst ?_
                    refine kA ?_ ?_
                    · refine cE_bin (op_add.or (op_add_str.or (op_catA.or op_cat))) (OpS.alt opS_iiI0 (OpS.alt opS_ssS (OpS.alt opS_ttT opS_llL))) ?_ ?_
                      · refine cE_slA ?_ ?_ ?_
                        · exact cV 4
                        · exact cO_none 
                        · refine cO_some ?_
                          exact cE_int 
                      · refine cE_tup ?_
                        refine kA ?_ ?_
                        · exact cV 9
                        · refine kA ?_ ?_
                          · refine kIx (hu_of hr) ?_ ?_
                            · exact cV 4
                            · exact cE_int 
                          · exact cA_nil 
                    · refine kA ?_ ?_
                      · refine cE_bin (op_add.or (op_add_str.or (op_catA.or op_cat))) (OpS.alt opS_iiI0 (OpS.alt opS_ssS (OpS.alt opS_ttT opS_llL))) ?_ ?_
                        · refine cE_slA ?_ ?_ ?_
                          · exact cV 4
                          · exact cO_none 
                          · refine cO_some ?_
                            exact cE_int 
                        · refine cE_tup ?_
                          refine kA ?_ ?_
                          · refine cE_bin (op_add.or (op_add_str.or (op_catA.or op_cat))) (OpS.alt opS_iiI0 (OpS.alt opS_ssS (OpS.alt opS_ttT opS_llL))) ?_ ?_
                            · refine cE_slA ?_ ?_ ?_
                              · refine kIx (hu_of hr) ?_ ?_
                                · exact cV 4
                                · exact cE_int 
                              · exact cO_none 
                              · refine cO_some ?_
                                exact cE_int 
                            · refine cE_slA ?_ ?_ ?_
                              · exact cV 9
                              · refine cO_some ?_
                                exact cE_int 
                              · exact cO_none 
                          · refine kA ?_ ?_
                            · refine kIx (hu_of hr) ?_ ?_
                              · exact cV 4
                              · exact cE_int 
                            · exact cA_nil 
                      · exact cA_nil 
        · refine cSs_cons ?_ ?_
          · refine kFor (L := [4]) PassesOwn.never rfl ?_ ?_ ?_
            · refine cI_seq ?_
              exact cV 2
            · exact cGn 4 S18.nd
            · refine cSs_cons ?_ ?_
              · refine kAsgC (L := ([10] ++ ([11] ++ []))) ?_ ?_ rfl
                · refine cE_tup ?_
                  refine kA ?_ ?_
                  · refine kB (callR_repr hgd hr.units) callS_repr T.b_repr boot_repr ?_
                    refine kA ?_ ?_
                    · exact cV 4
                    · exact cA_nil 
                  · refine kA ?_ ?_
                    · refine kCall (x := dX 16) (ps := P16) (G 16 (by decide)) hr hgd (T.d 16 (by decide)).fn.kp (T.d 16 (by decide)).bi (T.d 16 (by decide)).mg ?_
                      refine kA ?_ ?_
                      · exact cV 4
                      · exact cA_nil 
                    · exact cA_nil 
                · refine kGt rfl ?_
                  refine kGc ?_ ?_
                  · exact cGn 10 S18.nd
                  · refine kGc ?_ ?_
                    · exact cGn 11 S18.nd
                    · exact cGs_nil 
              · refine cSs_cons ?_ ?_
                · refine kSet 12 S18.nd ?_
                  refine kTy call_tuple_of callS_tuple T.b_tuple boot_tuple ?_
                  refine kA ?_ ?_
                  · refine kLc (L := [7]) (own := [ ((Str.ofString "_law_scene_here") , 7) ]) rfl S18.nd ?_ (by exact show blkC N18 (defScope s18) _ [ ((Str.ofString "_law_scene_here") , 7) ] = true from by decide +kernel) (by decide) (fun _ _ _ _ _ => ?_) (fun _ _ _ _ _ => ?_) (fun _ _ _ _ _ => ?_)
                    · refine cI_seq ?_
                      refine kIx (hu_of hr) ?_ ?_
                      · exact cV 4
                      · exact cE_int 
                    · exact cGn 7 S18.nd
                    · refine cTs_one ?_
                      refine kNotInT (hu_of hr) ?_ ?_
                      · refine kIx (hu_of hr) ?_ ?_
                        · exact cV 7
                        · exact cE_int 
                      · exact cV 11
                    · refine kIx (hu_of hr) ?_ ?_
                      · exact cV 7
                      · exact cE_int 
                  · exact cA_nil 
                · refine cSs_one ?_
                  refine cS_if ?_ ?_ ?_
                  · refine cT_w ?_
                    refine cW_or ?_ ?_
                    · refine kCmpT (op_ne.or (op_neD hr.units)) (OpS.alt opS_sNe opS_deepNe) ?_ ?_
                      · refine kB (callR_repr hgd hr.units) callS_repr T.b_repr boot_repr ?_
                        refine kA ?_ ?_
                        · refine kCall (x := dX 1) (ps := P1) (G 1 (by decide)) hr hgd (T.d 1 (by decide)).fn.kp (T.d 1 (by decide)).bi (T.d 1 (by decide)).mg ?_
                          refine kA ?_ ?_
                          · exact cV 4
                          · exact cA_nil 
                        · exact cA_nil 
                      · refine kB (callR_repr hgd hr.units) callS_repr T.b_repr boot_repr ?_
                        refine kA ?_ ?_
                        · exact cV 12
                        · exact cA_nil 
                    · refine cW_or1 ?_
                      refine kCmpT (op_ne.or (op_neD hr.units)) (OpS.alt opS_sNe opS_deepNe) ?_ ?_
                      · refine kB (callR_repr hgd hr.units) callS_repr T.b_repr boot_repr ?_
                        refine kA ?_ ?_
                        · exact cV 4
                        · exact cA_nil 
                      · exact cV 10
                  · refine cSs_one ?_
                    refine cS_ret ?_
                    exact cE_bl 
                  · exact cSs_nil 
          · refine cSs_one ?_
            refine cS_ret ?_
            exact cE_bl 
theorem all_ok (T : Txt K mg f fd) : ∀ (k i : Nat), i < 19 → FnG P w K mg base k (f i) (fd i) (dP i) (spM K mg (dN i) (lv k i))
  | 0, _, _ => fnG_none
  | k + 1, i, hi => by
    have G := all_ok T k
    match i, hi with
    | 0, _ => exact ok0 T G
    | 1, _ => exact ok1 T G
    | 2, _ => exact ok2 T G
    | 3, _ => exact ok3 T G
    | 4, _ => exact ok4 T G
    | 5, _ => exact ok5 T G
    | 6, _ => exact ok6 T G
    | 7, _ => exact ok7 T G
    | 8, _ => exact ok8 T G
    | 9, _ => exact ok9 T G
    | 10, _ => exact ok10 T G
    | 11, _ => exact ok11 T G
    | 12, _ => exact ok12 T G
    | 13, _ => exact ok13 T G
    | 14, _ => exact ok14 T G
    | 15, _ => exact ok15 T G
    | 16, _ => exact ok16 T G
    | 17, _ => exact ok17 T G
    | 18, _ => exact ok18 T G
    | n + 19, h => exact absurd h (by omega)
end
end K11
end

section
set_option Elab.async false
set_option linter.all false
set_option maxRecDepth 100000
set_option maxHeartbeats 4000000
namespace K11
open PySem PySem.Spec PyProof.Rows L2 PL
theorem pyInts : ∀ ns : List Int, pyDs (ns.map D.int) = some (ns.map PyData.int)
  | [] => rfl
  | n :: ns => by simp [pyDs, pyD, pyInts ns]
theorem sh0 : SeqAt.shaped (.list []) = true := by rfl
def mixR (cell n many : Int) : Int := (((cell % 2147483629 + 7919 * n + 1) ^ 5 % 2147483647 + 104729 * n) ^ 5 % 2147483587) / 64 % many
theorem draw1 {x0 x1 : Ob} {a b n : Int} {rest : Sto} (C : Nat → MF) (many : Int) (hm : 0 < many) (hm2 : many < 1000) (hb : 0 < b) :
    m4 C [.ref 2, .int many] (x0 :: x1 :: .lst [.ref 1, .int a, .int b, .int n] :: rest) = some (.int (b % many), x0 :: x1 :: .lst [.ref 1, .int a, .int (b / many), .int (n + 1)] :: rest) := by
  have h3 : many < 1073741824 := by omega
  simp [m4, mBody, startE, mSeq, mAsg, mBin, mVar, mC, ixA, ixSeq, seqD, seqAt, L2.atI, ixN, gSubM, setSeq, mIfS, asB, dGt, dAdd, dMod, dDiv, hb, gN, mRet, iiI, iiB, PL.alt, hm, cDivB, h3]
theorem natAbs_lt {x : Int} {m : Nat} (h0 : 0 ≤ x) (h : x < m) : x.natAbs < m := by omega
theorem draw0 {x0 : Ob} {b n : Int} {rest : Sto} (a : Nat) (C : Nat → MF) (many : Int) (hm : 0 < many) (hm2 : many < 1000) (hb : ¬ 0 < b) (h0 : 0 ≤ n) (hn : n < 1000000000000) :
    m4 C [.ref 2, .int many] (x0 :: .lst [] :: .lst [.ref 1, .int a, .int b, .int n] :: rest) = some (.int (mixR 5 (n + 1) many), x0 :: .lst [] :: .lst [.ref 1, .int (a + 1), .int b, .int (n + 1)] :: (rest ++ [.lst []])) := by
  have h3 : many < 1073741824 := by omega
  have e1 : (5 + 7919 * (n + 1) + 1).natAbs < 18446744073709551616 := natAbs_lt (by omega) (by omega)
  have e2 : ((5 + 7919 * (n + 1) + 1) ^ 5 % 2147483647 + 104729 * (n + 1)).natAbs < 18446744073709551616 := by
    have := Int.emod_nonneg ((5 + 7919 * (n + 1) + 1) ^ 5) (show (2147483647 : Int) ≠ 0 by decide)
    have := Int.emod_lt_of_pos ((5 + 7919 * (n + 1) + 1) ^ 5) (show (0 : Int) < 2147483647 by decide)
    exact natAbs_lt (by omega) (by omega)
  simp [m4, mBody, startE, mSeq, mAsg, mBin, mVar, mC, ixA, ixSeq, seqD, seqAt, L2.atI, ixN, gSubM, setSeq, mIfS, asB, dGt, dAdd, dMod, dDiv, hb, gN, mRet, iiI, iiB, PL.alt, hm, cDivB, h3, mLst, mNil, newL, dNe, sEq, deepB, pyT, pyDs, pyD, mNext, mAndT, dGe, dPow, dMul, cMulB, cPowB, dLe, mBlt, mCons, gLen, sh0, PyData.eqv, PyData.eqvAll, e1, e2, mixR]
  trace_state
theorem sh_ints (ns : List Int) : SeqAt.shaped (.list (ns.map PyData.int)) = true := by
  have h1 : ∀ ns : List Int, PyData.canLayAll0 (ns.map PyData.int) = true := fun ns => by
    induction ns with
    | nil => rfl
    | cons n ns ih => simp [PyData.canLayAll0, PyData.canLay0, ih]
  have h2 : ∀ ns : List Int, PyData.depthAll (ns.map PyData.int) = 0 := fun ns => by
    induction ns with
    | nil => rfl
    | cons n ns ih => simp [PyData.depthAll, PyData.depth, ih]
  simp [SeqAt.shaped, PyData.canLay0, h1, PyData.depth, h2]
theorem eqv_ints {ns : List Int} (h : ns ≠ []) : PyData.eqv (.list (ns.map PyData.int)) (.list []) = false := by
  cases ns with
  | nil => exact absurd rfl h
  | cons n ns => simp [PyData.eqv, PyData.eqvAll]
theorem at0 {α : Type} {x : α} {xs : List α} : L2.atI (x :: xs) 0 = some x := by simp [L2.atI, ixN]
theorem at1 {α : Type} {x y : α} {xs : List α} : L2.atI (x :: y :: xs) 1 = some y := by
  have : (1 : Int) < xs.length + 1 + 1 := by omega
  simp [L2.atI, ixN, this]
theorem at2 {α : Type} {x y z : α} {xs : List α} : L2.atI (x :: y :: z :: xs) 2 = some z := by
  have : (2 : Int) < xs.length + 1 + 1 + 1 := by omega
  simp [L2.atI, ixN, this]
theorem at3 {α : Type} {x y z u : α} {xs : List α} : L2.atI (x :: y :: z :: u :: xs) 3 = some u := by
  have : (3 : Int) < xs.length + 1 + 1 + 1 + 1 := by omega
  simp [L2.atI, ixN, this]
theorem ix4_1 : ixN 4 1 = some 1 := by rfl
theorem ix4_2 : ixN 4 2 = some 2 := by rfl
theorem ix4_3 : ixN 4 3 = some 3 := by rfl
theorem at_mod {ns : List Int} {a : Nat} {x : Int} (h : ns[a % ns.length]? = some x) : L2.atI (ns.map D.int) ((a : Int) % (ns.length : Int)) = some (.int x) := by
  have hl := (List.getElem?_eq_some_iff.mp h).1
  have e : ((a : Int) % (ns.length : Int)) = ((a % ns.length : Nat) : Int) := (Int.natCast_emod a ns.length).symm
  rw [e]
  have hh : (ns.map D.int)[a % ns.length]? = some (.int x) := by rw [List.getElem?_map, h]; rfl
  exact L2.atI_nat hh
theorem drawC {x0 : Ob} {b n x : Int} {rest : Sto} {ns : List Int} {a : Nat} (hx : ns[a % ns.length]? = some x) (C : Nat → MF) (many : Int) (hm : 0 < many) (hm2 : many < 1000) (hb : ¬ 0 < b) (h0 : 0 ≤ n) (hn : n < 1000000000000) :
    m4 C [.ref 2, .int many] (x0 :: .lst (ns.map D.int) :: .lst [.ref 1, .int a, .int b, .int n] :: rest) =
      if 1000000000000000000 ≤ x ∧ (a : Int) + 1 ≤ ns.length then some (.int (x % many), x0 :: .lst (ns.map D.int) :: .lst [.ref 1, .int (a + 1), .int (x / many), .int (n + 1)] :: (rest ++ [.lst []]))
      else some (.int (mixR x (n + 1) many), x0 :: .lst (ns.map D.int) :: .lst [.ref 1, .int (a + 1), .int b, .int (n + 1)] :: (rest ++ [.lst []])) := by
  have h3 : many < 1073741824 := by omega
  have hl := (List.getElem?_eq_some_iff.mp hx).1
  have hne : ns ≠ [] := fun e => by subst e; simp at hl
  have hp : 0 < ns.length := List.length_pos_iff.mpr hne
  have q1 := Int.emod_nonneg x (show (2147483629 : Int) ≠ 0 by decide)
  have q2 := Int.emod_lt_of_pos x (show (0 : Int) < 2147483629 by decide)
  have e1 : (x % 2147483629 + 7919 * (n + 1) + 1).natAbs < 18446744073709551616 := natAbs_lt (by omega) (by omega)
  have e2 : ((x % 2147483629 + 7919 * (n + 1) + 1) ^ 5 % 2147483647 + 104729 * (n + 1)).natAbs < 18446744073709551616 := by
    have := Int.emod_nonneg ((x % 2147483629 + 7919 * (n + 1) + 1) ^ 5) (show (2147483647 : Int) ≠ 0 by decide)
    have := Int.emod_lt_of_pos ((x % 2147483629 + 7919 * (n + 1) + 1) ^ 5) (show (0 : Int) < 2147483647 by decide)
    exact natAbs_lt (by omega) (by omega)
  have hat := at_mod hx
  by_cases g1 : 1000000000000000000 ≤ x
  · by_cases g2 : (a : Int) + 1 ≤ ns.length
    · simp [m4, mBody, startE, mSeq, mAsg, mBin, mVar, mC, ixA, ixSeq, seqD, seqAt, at0, at1, at2, at3, ix4_1, ix4_2, ix4_3, hat, gSubM, setSeq, mIfS, asB, dGt, dAdd, dMod, dDiv, hb, gN, mRet, iiI, iiB, PL.alt, hm, cDivB, h3, mLst, mNil, newL, dNe, sEq, deepB, pyT, pyInts, pyDs, pyD, mNext, mAndT, dGe, dPow, dMul, cMulB, cPowB, dLe, mBlt, mCons, gLen, sh0, sh_ints, eqv_ints hne, e1, e2, mixR, g1, g2, hp]
    · simp [m4, mBody, startE, mSeq, mAsg, mBin, mVar, mC, ixA, ixSeq, seqD, seqAt, at0, at1, at2, at3, ix4_1, ix4_2, ix4_3, hat, gSubM, setSeq, mIfS, asB, dGt, dAdd, dMod, dDiv, hb, gN, mRet, iiI, iiB, PL.alt, hm, cDivB, h3, mLst, mNil, newL, dNe, sEq, deepB, pyT, pyInts, pyDs, pyD, mNext, mAndT, dGe, dPow, dMul, cMulB, cPowB, dLe, mBlt, mCons, gLen, sh0, sh_ints, eqv_ints hne, e1, e2, mixR, g1, g2, hp]
  · simp [m4, mBody, startE, mSeq, mAsg, mBin, mVar, mC, ixA, ixSeq, seqD, seqAt, at0, at1, at2, at3, ix4_1, ix4_2, ix4_3, hat, gSubM, setSeq, mIfS, asB, dGt, dAdd, dMod, dDiv, hb, gN, mRet, iiI, iiB, PL.alt, hm, cDivB, h3, mLst, mNil, newL, dNe, sEq, deepB, pyT, pyInts, pyDs, pyD, mNext, mAndT, dGe, dPow, dMul, cMulB, cPowB, dLe, mBlt, mCons, gLen, sh0, sh_ints, eqv_ints hne, e1, e2, mixR, g1, hp]
end K11
end

section
set_option Elab.async false
set_option linter.all false
set_option maxRecDepth 100000
set_option maxHeartbeats 4000000
namespace K11
open PySem PySem.Spec PyProof.Rows L2 PL
def FeedAt (ns : List Int) (k : Nat) (S : Sto) : Prop := ∃ (x0 : Ob) (a : Nat) (b : Int) (n : Nat) (rest : Sto), S = x0 :: .lst (ns.map D.int) :: .lst [.ref 1, .int a, .int b, .int n] :: rest ∧ n ≤ k
/-- S' is S and more; what may be another one: the feed, what X names -/
structure Go (X : List Nat) (S S' : Sto) : Prop where
  len : S.length ≤ S'.length
  keep : ∀ (i : Nat) (o : Ob), i ≠ 2 → i ∉ X → S[i]? = some o → S'[i]? = some o
theorem Go.refl {X : List Nat} {S : Sto} : Go X S S := ⟨Nat.le_refl _, fun _ _ _ _ h => h⟩
theorem Go.trans {X : List Nat} {S S1 S2 : Sto} (a : Go X S S1) (b : Go X S1 S2) : Go X S S2 := ⟨Nat.le_trans a.len b.len, fun i o h1 h2 h => b.keep i o h1 h2 (a.keep i o h1 h2 h)⟩
theorem Go.more {X Y : List Nat} {S S' : Sto} (a : Go X S S') (h : ∀ i ∈ X, i ∈ Y) : Go Y S S' := ⟨a.len, fun i o h1 h2 e => a.keep i o h1 (fun z => h2 (h i z)) e⟩
theorem Go.new {X : List Nat} {S T : Sto} : Go X S (S ++ T) := ⟨by rw [List.length_append]; omega, fun i o _ _ h => by rw [List.getElem?_append_left (List.getElem?_eq_some_iff.mp h).1]; exact h⟩
theorem FeedAt.new {ns : List Int} {k : Nat} {S T : Sto} (F : FeedAt ns k S) : FeedAt ns k (S ++ T) := by
  obtain ⟨x0, a, b, n, rest, rfl, h⟩ := F
  exact ⟨x0, a, b, n, rest ++ T, rfl, h⟩
theorem FeedAt.mono {ns : List Int} {k l : Nat} {S : Sto} (F : FeedAt ns k S) (h : k ≤ l) : FeedAt ns l S := by
  obtain ⟨x0, a, b, n, rest, e, hn⟩ := F
  exact ⟨x0, a, b, n, rest, e, Nat.le_trans hn h⟩
theorem mix_bd (c n many : Int) (hm : 0 < many) : 0 ≤ mixR c n many ∧ mixR c n many < many := ⟨Int.emod_nonneg _ (by omega), Int.emod_lt_of_pos _ hm⟩
theorem go_feed {X : List Nat} {x0 x1 f f' : Ob} {rest J : Sto} : Go X (x0 :: x1 :: f :: rest) (x0 :: x1 :: f' :: (rest ++ J)) := by
  refine ⟨by simp, fun i o h1 _ h => ?_⟩
  match i, h1, h with
  | 0, _, h => exact h
  | 1, _, h => exact h
  | 2, h1, _ => exact absurd rfl h1
  | i + 3, _, h =>
    have h' : rest[i]? = some o := h
    show (rest ++ J)[i]? = some o
    rw [List.getElem?_append_left (List.getElem?_eq_some_iff.mp h').1]
    exact h'
theorem draw_ok {ns : List Int} {k : Nat} {S : Sto} (F : FeedAt ns k S) (hk : k < 1000000000) (C : Nat → MF) (many : Int) (hm : 0 < many) (hm2 : many < 1000) :
    ∃ (r : Int) (S' : Sto), m4 C [.ref 2, .int many] S = some (.int r, S') ∧ 0 ≤ r ∧ r < many ∧ FeedAt ns (k + 1) S' ∧ Go [] S S' := by
  obtain ⟨x0, a, b, n, rest, rfl, hn⟩ := F
  have c1 : ((n : Int) + 1) = ((n + 1 : Nat) : Int) := by omega
  have c2 : ((a : Int) + 1) = ((a + 1 : Nat) : Int) := by omega
  by_cases hb : 0 < b
  · refine ⟨_, _, draw1 C many hm hm2 hb, Int.emod_nonneg _ (by omega), Int.emod_lt_of_pos _ hm, ⟨x0, a, b / many, n + 1, rest, by rw [c1], by omega⟩, ?_⟩
    have := go_feed (X := []) (x0 := x0) (x1 := .lst (ns.map D.int)) (f := .lst [.ref 1, .int a, .int b, .int n]) (f' := .lst [.ref 1, .int a, .int (b / many), .int ((n : Int) + 1)]) (rest := rest) (J := [])
    rwa [List.append_nil] at this
  · cases ns with
    | nil =>
      refine ⟨_, _, draw0 a C many hm hm2 hb (by omega) (by omega), (mix_bd _ _ _ hm).1, (mix_bd _ _ _ hm).2, ⟨x0, a + 1, b, n + 1, rest ++ [.lst []], by rw [c1, c2]; rfl, by omega⟩, go_feed⟩
    | cons n0 ns =>
      have hl : a % (n0 :: ns).length < (n0 :: ns).length := Nat.mod_lt _ (by simp)
      have e := drawC (x0 := x0) (rest := rest) (b := b) (n := n) (List.getElem?_eq_getElem hl) C many hm hm2 hb (by omega) (by omega)
      split at e
      · refine ⟨_, _, e, Int.emod_nonneg _ (by omega), Int.emod_lt_of_pos _ hm, ⟨x0, a + 1, _, n + 1, rest ++ [.lst []], by rw [c1, c2], by omega⟩, go_feed⟩
      · refine ⟨_, _, e, (mix_bd _ _ _ hm).1, (mix_bd _ _ _ hm).2, ⟨x0, a + 1, b, n + 1, rest ++ [.lst []], by rw [c1, c2], by omega⟩, go_feed⟩
end K11
end

section
set_option Elab.async false
set_option linter.all false
set_option maxRecDepth 100000
set_option maxHeartbeats 4000000
namespace K11
open PySem PySem.Spec PyProof.Rows L2 PL
/-- it yields something that Q holds of -/
def Yd {α : Type} (o : Option α) (Q : α → Prop) : Prop := ∃ a, o = some a ∧ Q a
theorem yd_bind {α β : Type} {o : Option α} {f : α → Option β} {Q : β → Prop} : Yd (o.bind f) Q ↔ Yd o fun a => Yd (f a) Q := by
  unfold Yd
  constructor
  · rintro ⟨b, e, q⟩
    obtain ⟨a, e1, e2⟩ := Option.bind_eq_some_iff.mp e
    exact ⟨a, e1, b, e2, q⟩
  · rintro ⟨a, e1, b, e2, q⟩
    exact ⟨b, Option.bind_eq_some_iff.mpr ⟨a, e1, e2⟩, q⟩
theorem yd_some {α : Type} {a : α} {Q : α → Prop} : Yd (some a) Q ↔ Q a := ⟨fun ⟨b, e, q⟩ => (by cases e; exact q), fun q => ⟨a, rfl, q⟩⟩
theorem yd_map {α β : Type} {o : Option α} {f : α → β} {Q : β → Prop} : Yd (o.map f) Q ↔ Yd o fun a => Q (f a) := by
  cases o with
  | none => exact ⟨fun ⟨b, e, _⟩ => (by cases e), fun ⟨b, e, _⟩ => (by cases e)⟩
  | some a => exact ⟨fun ⟨b, e, q⟩ => (by cases e; exact ⟨a, rfl, q⟩), fun ⟨b, e, q⟩ => (by cases e; exact ⟨_, rfl, q⟩)⟩
theorem Yd.mono {α : Type} {o : Option α} {P Q : α → Prop} (h : Yd o P) (g : ∀ a, P a → Q a) : Yd o Q := let ⟨a, e, p⟩ := h; ⟨a, e, g a p⟩
theorem seqD_go {X : List Nat} {S S' : Sto} {d : D} {xs : List D} (G : Go X S S') (h : seqD S d = some xs) (h2 : d ≠ .ref 2) (hX : ∀ n ∈ X, d ≠ .ref n) : seqD S' d = some xs := by
  cases d with
  | ref n =>
    have hn : n ≠ 2 := fun e => h2 (by rw [e])
    have hx : n ∉ X := fun e => hX n e rfl
    have h' : seqAt n S = some xs := h
    show seqAt n S' = some xs
    unfold seqAt at h' ⊢
    cases e : S[n]? with
    | none => rw [e] at h'; cases h'
    | some o => rw [e] at h'; rw [G.keep n o hn hx e]; exact h'
  | _ => exact h
theorem ix_at {S : Sto} {d : D} {xs : List D} {r : Int} (h : seqD S d = some xs) (h0 : 0 ≤ r) (hr : r < xs.length) : Yd (ixA d (.int r) S) fun p => p.1 ∈ xs ∧ p.2 = S := by
  have hl : r.toNat < xs.length := by omega
  have hat : L2.atI xs r = some xs[r.toNat] := by
    obtain ⟨i, rfl⟩ : ∃ i : Nat, r = (i : Int) := ⟨r.toNat, by omega⟩
    exact L2.atI_nat (List.getElem?_eq_getElem hl)
  refine ⟨(xs[r.toNat], S), ?_, List.getElem_mem hl, rfl⟩
  unfold ixA
  have : ixSeq d (.int r) S = some (xs[r.toNat], S) := by
    cases d <;> simp only [ixSeq, h, hat, Option.bind_some, Option.map_some] <;> simp [seqD] at h
  rw [this]
  rfl
theorem pick_ok {ns : List Int} {k : Nat} {S : Sto} {d : D} {xs : List D} (F : FeedAt ns k S) (hk : k < 1000000000) (j : Nat) (h : seqD S d = some xs) (h2 : d ≠ .ref 2) (hp : 0 < xs.length) (hl : xs.length < 1000) :
    Yd (lv (j + 2) 5 [.ref 2, d] S) fun p => p.1 ∈ xs ∧ FeedAt ns (k + 1) p.2 ∧ Go [] S p.2 := by
  obtain ⟨r, S', e, r0, r1, F', G⟩ := draw_ok F hk (lv j) (xs.length : Int) (by omega) (by omega)
  have e' : lv (j + 1) 4 [.ref 2, .int xs.length] S = some (.int r, S') := e
  have hlen : gLen [d] S = some (.int xs.length, S) := by
    cases d <;> simp [gLen, h] <;> simp [seqD] at h
  have hi := (ix_at (seqD_go G h h2 (by simp)) r0 r1).mono (fun p hp => (⟨hp.1, by rw [hp.2]; exact F', by rw [hp.2]; exact G⟩ : p.1 ∈ xs ∧ FeedAt ns (k + 1) p.2 ∧ Go [] S p.2))
  show Yd (m5 (lv (j + 1)) [.ref 2, d] S) _
  simp [m5, mBody, startE, mRet, mBin, mVar, mCall, mCons, mNil, mBlt, yd_bind, yd_some, hlen, e']
  exact hi
end K11
end

section
set_option Elab.async false
set_option linter.all false
set_option maxRecDepth 100000
set_option maxHeartbeats 4000000
namespace K11
open PySem PySem.Spec PyProof.Rows L2 PL
theorem len_app (a b : Str) : (a ++ b).length = a.length + b.length := by
  show (a.cps ++ b.cps).size = a.cps.size + b.cps.size
  simp
/-- data of at most W signs, nested at most m deep -/
structure Ok (W m : Nat) (d : D) (p : PyData) : Prop where
  py : pyD d = some p
  sh : p.showable = true
  nd : p.hasDict = false
  dp : p.depth ≤ m
  ln : p.shown.length ≤ W
def wts (ts : List Str) : Nat := (ts.map fun t => t.length + 2).sum
structure OkL (W m : Nat) (ds : List D) (ps : List PyData) : Prop where
  py : pyDs ds = some ps
  sh : PyData.showableAll ps = true
  nd : PyData.hasDictAll ps = false
  dp : PyData.depthAll ps ≤ m
  ln : wts (PyData.shownAll ps) ≤ W
theorem OkL.nil {m : Nat} : OkL 0 m [] [] := ⟨rfl, rfl, rfl, Nat.zero_le _, Nat.le_refl _⟩
theorem OkL.cons {V W m : Nat} {d : D} {ds : List D} {p : PyData} {ps : List PyData} (h : Ok V m d p) (t : OkL W m ds ps) : OkL (V + 2 + W) m (d :: ds) (p :: ps) := by
  refine ⟨by simp [pyDs, h.py, t.py], by simp [PyData.showableAll, h.sh, t.sh], by simp [PyData.hasDictAll, h.nd, t.nd], ?_, ?_⟩
  · rw [PyData.depthAll.eq_2]
    exact Nat.max_le.mpr ⟨h.dp, t.dp⟩
  · have h1 := h.ln
    have h2 := t.ln
    have e : wts (PyData.shownAll (p :: ps)) = p.shown.length + 2 + wts (PyData.shownAll ps) := by
      rw [PyData.shownAll.eq_2]
      simp [wts]
    omega
theorem OkL.mono {V W m n : Nat} {ds : List D} {ps : List PyData} (h : OkL V m ds ps) (a : V ≤ W) (b : m ≤ n) : OkL W n ds ps := ⟨h.py, h.sh, h.nd, Nat.le_trans h.dp b, Nat.le_trans h.ln a⟩
theorem Ok.mono {V W m n : Nat} {d : D} {p : PyData} (h : Ok V m d p) (a : V ≤ W) (b : m ≤ n) : Ok W n d p := ⟨h.py, h.sh, h.nd, Nat.le_trans h.dp b, Nat.le_trans h.ln a⟩
theorem join_len : ∀ ts : List Str, ((Str.ofString ", ").join ts).length ≤ wts ts
  | [] => by rw [Str.join.eq_1]; decide
  | [x] => by rw [Str.join.eq_2]; simp [wts]
  | x :: y :: r => by
    have ih := join_len (y :: r)
    have hc : (Str.ofString ", ").length = 2 := by decide
    have e : wts (x :: y :: r) = x.length + 2 + wts (y :: r) := by simp [wts]
    rw [Str.join.eq_3 _ _ _ (by simp), len_app, len_app]
    omega
theorem Ok.tup {W m : Nat} {ds : List D} {ps : List PyData} (h : OkL W m ds ps) : Ok (W + 3) (m + 1) (.tup ds) (.tuple ps) := by
  refine ⟨by simp [pyD, h.py], by rw [PyData.showable.eq_6]; exact h.sh, by rw [PyData.hasDict.eq_6]; exact h.nd, by rw [PyData.depth.eq_2]; have := h.dp; omega, ?_⟩
  rw [PyData.shown.eq_6, tupleText.eq_1, len_app, len_app]
  have h1 := join_len (PyData.shownAll ps)
  have h2 := h.ln
  have h3 : (Str.ofString "(").length = 1 := by decide
  have h4 : (Str.ofString (if ((PyData.shownAll ps).length == 1) = true then ",)" else ")")).length ≤ 2 := by
    split <;> decide
  omega
theorem Ok.repr {W m : Nat} {ds : List D} {p : PyData} (h : Ok W m (.tup ds) p) (hW : W ≤ sizeLine) (hm : m ≤ 40) (S : Sto) : gRepr [.tup ds] S = some (.str p.shown, S) := by
  have hr : reprOk p = true := by
    unfold reprOk
    have h1 := h.dp
    have h2 := h.ln
    simp [h.sh, h.nd]
    exact ⟨by omega, by omega⟩
  simp [gRepr, h.py, hr]
/-- small ints, texts -/
def okB (W : Nat) (p : PyData) : Bool := p.showable && !p.hasDict && decide (p.depth ≤ 0) && decide (p.shown.length ≤ W)
theorem Ok.of {W : Nat} {d : D} {p : PyData} (h : pyD d = some p) (b : okB W p = true) : Ok W 0 d p := by
  unfold okB at b
  simp only [Bool.and_eq_true, Bool.not_eq_true', decide_eq_true_eq] at b
  exact ⟨h, b.1.1.1, b.1.1.2, b.1.2, b.2⟩
theorem small : ∀ n : Fin 10, okB 8 (.int (n.val : Int)) = true := by decide +kernel
theorem Ok.dig {r : Int} (h0 : 0 ≤ r) (h1 : r < 10) : Ok 8 0 (.int r) (.int r) := by
  obtain ⟨n, rfl⟩ : ∃ n : Nat, r = (n : Int) := ⟨r.toNat, by omega⟩
  exact Ok.of rfl (small ⟨n, by omega⟩)
end K11
end

section
set_option Elab.async false
set_option linter.all false
set_option maxRecDepth 100000
set_option maxHeartbeats 4000000
namespace K11
open PySem PySem.Spec PyProof.Rows L2 PL
/-- where the pool's objects stand, what they hold -/
structure Px where
  p : Nat
  sc : Nat
  nu : Nat
  pl : Nat
  fi : Nat
  q : Nat
  sN : List Str
  nN : List Str
  pN : List Str
  fN : List Str
def poolD (e : Px) : List (Key × D) := [(.inr (Str.ofString "scene"), .ref e.sc), (.inr (Str.ofString "number"), .ref e.nu), (.inr (Str.ofString "place"), .ref e.pl), (.inr (Str.ofString "figure"), .ref e.fi), (.inr (Str.ofString "left"), .ref e.q)]
structure Pool (e : Px) (S : Sto) : Prop where
  p : S[e.p]? = some (.dK (poolD e))
  sc : S[e.sc]? = some (.lst (e.sN.map D.str))
  nu : S[e.nu]? = some (.lst (e.nN.map D.str))
  pl : S[e.pl]? = some (.lst (e.pN.map D.str))
  fi : S[e.fi]? = some (.lst (e.fN.map D.str))
  q : ∃ l : Int, S[e.q]? = some (.lst [.int l])
  n2 : e.p ≠ 2 ∧ e.sc ≠ 2 ∧ e.nu ≠ 2 ∧ e.pl ≠ 2 ∧ e.fi ≠ 2 ∧ 2 < e.q
  nq : e.p ≠ e.q ∧ e.sc ≠ e.q ∧ e.nu ≠ e.q ∧ e.pl ≠ e.q ∧ e.fi ≠ e.q
theorem Pool.go0 {e : Px} {S S' : Sto} (P : Pool e S) (G : Go [] S S') : Pool e S' := by
  obtain ⟨l, hq⟩ := P.q
  have h := P.n2
  exact ⟨G.keep _ _ h.1 (by simp) P.p, G.keep _ _ h.2.1 (by simp) P.sc, G.keep _ _ h.2.2.1 (by simp) P.nu, G.keep _ _ h.2.2.2.1 (by simp) P.pl, G.keep _ _ h.2.2.2.2.1 (by simp) P.fi, ⟨l, G.keep _ _ (by omega) (by simp) hq⟩, P.n2, P.nq⟩
theorem ixA_key {S : Sto} {n : Nat} {kvs : List (Key × D)} {k : Str} {d : D} (h : S[n]? = some (.dK kvs)) (hv : valD kvs (.inr k) = some d) : ixA (.ref n) (.str k) S = some (d, S) := by
  simp [ixA, ixSeq, ixD, dictAt, h, keyD, hv]
theorem pool_left {e : Px} {S : Sto} (P : Pool e S) : ixA (.ref e.p) (.str (Str.ofString "left")) S = some (.ref e.q, S) := ixA_key P.p (by rfl)
theorem pool_sc {e : Px} {S : Sto} (P : Pool e S) : ixA (.ref e.p) (.str (Str.ofString "scene")) S = some (.ref e.sc, S) := ixA_key P.p (by rfl)
theorem pool_nu {e : Px} {S : Sto} (P : Pool e S) : ixA (.ref e.p) (.str (Str.ofString "number")) S = some (.ref e.nu, S) := ixA_key P.p (by rfl)
theorem pool_pl {e : Px} {S : Sto} (P : Pool e S) : ixA (.ref e.p) (.str (Str.ofString "place")) S = some (.ref e.pl, S) := ixA_key P.p (by rfl)
theorem pool_fi {e : Px} {S : Sto} (P : Pool e S) : ixA (.ref e.p) (.str (Str.ofString "figure")) S = some (.ref e.fi, S) := ixA_key P.p (by rfl)
theorem ixA_lst {S : Sto} {n : Nat} {x : D} {xs : List D} (h : S[n]? = some (.lst (x :: xs))) : ixA (.ref n) (.int 0) S = some (x, S) := by
  simp [ixA, ixSeq, seqD, seqAt, h, at0]
theorem FeedAt.put {ns : List Int} {k n : Nat} {S : Sto} {o : Ob} (F : FeedAt ns k S) (h : 2 < n) : FeedAt ns k (S.set n o) := by
  obtain ⟨x0, a, b, m, rest, rfl, hm⟩ := F
  match n, h with
  | n + 3, _ => exact ⟨x0, a, b, m, rest.set n o, rfl, hm⟩
theorem spent_ok {ns : List Int} {k : Nat} {S : Sto} {e : Px} (F : FeedAt ns k S) (P : Pool e S) (j : Nat) :
    ∃ (b : Bool) (S' : Sto), lv (j + 1) 6 [.ref e.p] S = some (.bl b, S') ∧ FeedAt ns k S' ∧ Pool e S' ∧ Go [e.q] S S' := by
  obtain ⟨l, hq⟩ := P.q
  have h1 := P.nq
  have h2 := P.n2
  have hs : ∀ i o, i ≠ e.q → S[i]? = some o → (S.set e.q (.lst [.int (l - 1)]))[i]? = some o := fun i o hi h => by rw [List.getElem?_set_ne (fun z => hi z.symm)]; exact h
  have hlen : e.q < S.length := (List.getElem?_eq_some_iff.mp hq).1
  have hq' : (S.set e.q (.lst [.int (l - 1)]))[e.q]? = some (.lst [.int (l - 1)]) := List.getElem?_set_self hlen
  have P' : Pool e (S.set e.q (.lst [.int (l - 1)])) := ⟨hs _ _ h1.1 P.p, hs _ _ h1.2.1 P.sc, hs _ _ h1.2.2.1 P.nu, hs _ _ h1.2.2.2.1 P.pl, hs _ _ h1.2.2.2.2 P.fi, ⟨_, hq'⟩, P.n2, P.nq⟩
  refine ⟨decide (l - 1 < 0), S.set e.q (.lst [.int (l - 1)]), ?_, F.put h2.2.2.2.2.2, P', ⟨by simp, fun i o h3 h4 h => hs i o (by simpa using h4) h⟩⟩
  have a1 := pool_left P
  have a2 := pool_left P'
  have a3 := ixA_lst hq
  have a4 := ixA_lst hq'
  have i1 : ixN 1 0 = some 0 := by rfl
  show m6 (lv j) [.ref e.p] S = _
  simp [m6, mBody, startE, mSeq, mAsg, mBin, mVar, mC, gSubM, mRet, a1, a2, a3, a4, dSub, iiI, setSeq, hq, i1, dLt, PL.alt, iiB]
end K11
end

section
set_option Elab.async false
set_option linter.all false
set_option maxRecDepth 100000
set_option maxHeartbeats 8000000
namespace K11
open PySem PySem.Spec PyProof.Rows L2 PL
/-- all names are short -/
def Px.Good (e : Px) : Prop := ∀ x : Str, x ∈ e.sN ∨ x ∈ e.nN ∨ x ∈ e.pN ∨ x ∈ e.fN → okB 12 (.str x) = true ∧ PyData.strOk x = true
/-- the state between draws -/
structure Iv (ns : List Int) (e : Px) (k : Nat) (S : Sto) : Prop where
  fd : FeedAt ns k S
  po : Pool e S
  gd : e.Good
  ls : e.sN.length < 1000 ∧ e.nN.length < 1000 ∧ e.pN.length < 1000 ∧ e.fN.length < 1000
/-- data of W signs, m deep; the state behind, c draws later -/
def Gv (ns : List Int) (e : Px) (k c W m : Nat) (S : Sto) (r : D × Sto) : Prop := (∃ p, Ok W m r.1 p) ∧ Iv ns e (k + c) r.2 ∧ Go [e.q] S r.2
theorem Iv.draw {ns : List Int} {e : Px} {k : Nat} {S : Sto} (I : Iv ns e k S) (hk : k < 1000000000) (j : Nat) (many : Int) (hm : 0 < many) (hm2 : many < 1000) :
    ∃ (r : Int) (S' : Sto), lv (j + 1) 4 [.ref 2, .int many] S = some (.int r, S') ∧ 0 ≤ r ∧ r < many ∧ Iv ns e (k + 1) S' ∧ Go [e.q] S S' := by
  obtain ⟨r, S', e1, r0, r1, F', G⟩ := draw_ok I.fd hk (lv j) many hm hm2
  exact ⟨r, S', e1, r0, r1, ⟨F', I.po.go0 G, I.gd, I.ls⟩, G.more (by simp)⟩
theorem Iv.spent {ns : List Int} {e : Px} {k : Nat} {S : Sto} (I : Iv ns e k S) (j : Nat) :
    ∃ (b : Bool) (S' : Sto), lv (j + 1) 6 [.ref e.p] S = some (.bl b, S') ∧ Iv ns e k S' ∧ Go [e.q] S S' := by
  obtain ⟨b, S', e1, F', P', G⟩ := spent_ok I.fd I.po j
  exact ⟨b, S', e1, ⟨F', P', I.gd, I.ls⟩, G⟩
theorem Iv.pick {ns : List Int} {e : Px} {k : Nat} {S : Sto} (I : Iv ns e k S) (hk : k < 1000000000) (j n : Nat) (xs : List Str) (h : S[n]? = some (.lst (xs.map D.str))) (hn : n ≠ 2) (hp : xs ≠ []) (hl : xs.length < 1000) :
    ∃ (x : Str) (S' : Sto), lv (j + 2) 5 [.ref 2, .ref n] S = some (.str x, S') ∧ x ∈ xs ∧ Iv ns e (k + 1) S' ∧ Go [e.q] S S' := by
  have hq : seqD S (.ref n) = some (xs.map D.str) := by
    show seqAt n S = _
    simp [seqAt, h]
  obtain ⟨⟨d, S'⟩, e1, m, F', G⟩ := pick_ok I.fd hk j hq (by intro z; cases z; exact hn rfl) (by rw [List.length_map]; exact List.length_pos_iff.mpr hp) (by rw [List.length_map]; exact hl)
  obtain ⟨x, hx, rfl⟩ := List.mem_map.mp m
  exact ⟨x, S', e1, hx, ⟨F', I.po.go0 G, I.gd, I.ls⟩, G.more (by simp)⟩
theorem Iv.new {ns : List Int} {e : Px} {k : Nat} {S T : Sto} (I : Iv ns e k S) : Iv ns e k (S ++ T) := ⟨I.fd.new, I.po.go0 Go.new, I.gd, I.ls⟩
theorem Iv.mono {ns : List Int} {e : Px} {k l : Nat} {S : Sto} (I : Iv ns e k S) (h : k ≤ l) : Iv ns e l S := ⟨I.fd.mono h, I.po, I.gd, I.ls⟩
theorem Ok.name {e : Px} {x : Str} (g : e.Good) (h : x ∈ e.sN ∨ x ∈ e.nN ∨ x ∈ e.pN ∨ x ∈ e.fN) : Ok 12 0 (.str x) (.str x) := Ok.of rfl (g x h).1
theorem Ok.two {V W m n : Nat} {x y : D} {p q : PyData} (a : Ok V m x p) (b : Ok W n y q) : Ok (V + W + 7) (max m n + 1) (.tup [x, y]) (.tuple [p, q]) :=
  (Ok.tup ((a.mono (Nat.le_refl _) (Nat.le_max_left m n)).mono (Nat.le_refl _) (Nat.le_refl _) |> fun a => OkL.cons a (OkL.cons (b.mono (Nat.le_refl _) (Nat.le_max_right m n)) OkL.nil))).mono (by omega) (Nat.le_refl _)
/-- an empty display beside a list of texts -/
theorem neNil {S : Sto} {n : Nat} {xs : List Str} (h : S[n]? = some (.lst (xs.map D.str))) (hok : ∀ x ∈ xs, PyData.strOk x = true) : dNe (.ref n) (.ref S.length) (S ++ [.lst []]) = some (.bl (!xs.isEmpty), S ++ [.lst []]) := by
  have hp : pyDs (xs.map D.str) = some (xs.map PyData.str) := by
    clear h hok
    induction xs with
    | nil => rfl
    | cons x xs ih => simp [pyDs, pyD, ih]
  have h' : (S ++ [Ob.lst []])[n]? = some (.lst (xs.map D.str)) := by rw [List.getElem?_append_left (List.getElem?_eq_some_iff.mp h).1]; exact h
  have hs : SeqAt.shaped (.list (xs.map PyData.str)) = true := by
    have h1 : PyData.canLayAll0 (xs.map PyData.str) = true := by
      clear h h' hp
      induction xs with
      | nil => rfl
      | cons x xs ih => simp [PyData.canLayAll0, PyData.canLay0, hok x (by simp), ih fun y hy => hok y (by simp [hy])]
    have h2 : PyData.depthAll (xs.map PyData.str) = 0 := by
      clear h h' hp h1 hok
      induction xs with
      | nil => rfl
      | cons x xs ih => simp [PyData.depthAll, PyData.depth, ih]
    simp [SeqAt.shaped, PyData.canLay0, h1, PyData.depth, h2]
  have he : PyData.eqv (.list (xs.map PyData.str)) (.list []) = xs.isEmpty := by
    cases xs <;> simp [PyData.eqv, PyData.eqvAll]
  simp [dNe, PL.alt, sEq, deepB, pyT, seqAt, h', hp, pyDs, hs, sh0, he]
theorem Go.lt {X : List Nat} {S S' : Sto} (G : Go X S S') {n : Nat} {o : Ob} (h : S[n]? = some o) : n < S'.length := Nat.lt_of_lt_of_le (List.getElem?_eq_some_iff.mp h).1 G.len
theorem Iv.qlt {ns : List Int} {e : Px} {k : Nat} {S : Sto} (I : Iv ns e k S) : e.q < S.length := let ⟨_, h⟩ := I.po.q; (List.getElem?_eq_some_iff.mp h).1
/-- a display, then a draw of its length, then the item -/
theorem Iv.disp {ns : List Int} {e : Px} {k : Nat} {S : Sto} (I : Iv ns e k S) (hk : k < 1000000000) (j : Nat) (xs : List D) (n : Int) (hn : n = xs.length) (hp : 0 < xs.length) (hl : xs.length < 1000) :
    ∃ (r : Int) (d : D) (S' : Sto), lv (j + 1) 4 [.ref 2, .int n] (S ++ [.lst xs]) = some (.int r, S') ∧ ixA (.ref S.length) (.int r) S' = some (d, S') ∧ d ∈ xs ∧ Iv ns e (k + 1) S' ∧ Go [e.q] S S' := by
  subst hn
  obtain ⟨r, S', e1, r0, r1, I1, G1⟩ := (I.new (T := [.lst xs])).draw hk j xs.length (by omega) (by omega)
  have h2 := I.po.n2
  have hq := I.qlt
  have hs : S'[S.length]? = some (.lst xs) := G1.keep _ _ (by omega) (by simp; omega) (by simp)
  have hsq : seqD S' (.ref S.length) = some xs := by
    show seqAt _ S' = _
    simp [seqAt, hs]
  obtain ⟨⟨d, S2⟩, e2, m, rfl⟩ := ix_at hsq r0 r1
  exact ⟨r, d, _, e1, e2, m, I1, Go.new.trans G1⟩
theorem sum_step {ns : List Int} {e : Px} (j d : Nat) (ih : ∀ d', d = d' + 1 → ∀ (k : Nat) (S : Sto), Iv ns e k S → k + 4 ^ (d' + 1) < 1000000000 → Yd (lv (j + d' + 3) 7 [.ref 2, .int d', .ref e.p] S) (Gv ns e k (4 ^ (d' + 1)) (50 * 3 ^ d') (d' + 1) S))
    (k : Nat) (S : Sto) (I : Iv ns e k S) (hk : k + 4 ^ (d + 1) < 1000000000) : Yd (lv (j + d + 3) 7 [.ref 2, .int d, .ref e.p] S) (Gv ns e k (4 ^ (d + 1)) (50 * 3 ^ d) (d + 1) S) := by
  have p1 : 4 ≤ 4 ^ (d + 1) := by
    rw [Nat.pow_succ]
    have := Nat.one_le_two_pow (n := d)
    have : 1 ≤ 4 ^ d := Nat.one_le_pow _ _ (by decide)
    omega
  have p2 : 50 ≤ 50 * 3 ^ d := by
    have : 1 ≤ 3 ^ d := Nat.one_le_pow _ _ (by decide)
    omega
  have sz2 : 2 ≤ sizeLine := by decide
  have sz3 : 3 ≤ sizeLine := by decide
  have sz0 : 0 ≤ sizeLine := by decide
  have sz6 : 6 ≤ sizeLine := by decide
  obtain ⟨r, S1, e1, r0, r1, I1, G1⟩ := I.draw (by omega) (j + d + 1) 7 (by omega) (by omega)
  obtain ⟨b, S2, e2, I2, G2⟩ := I1.spent (j + d + 1)
  have G12 := G1.trans G2
  show Yd (m7 (lv (j + d + 2)) _ S) _
  cases b with
  | true =>
    refine ⟨(.tup [.str (Str.ofString "num"), .int r], S2), ?_, ⟨_, (Ok.two (Ok.of (W := 10) rfl (by decide +kernel)) (Ok.dig r0 (by omega))).mono (by omega) (by omega)⟩, I2.mono (by omega), G12⟩
    simp [m7, mBody, startE, mSeq, mAsg, mVar, mC, mCall, mCons, mNil, gN, mIfS, mTru, dTru, mRet, mTup, e1, e2, sz2]
  | false =>
    by_cases c1 : r < 2 ∧ 0 < d
    · obtain ⟨d', rfl⟩ : ∃ d', d = d' + 1 := ⟨d - 1, by omega⟩
      have q1 : 4 ≤ 4 ^ (d' + 1) := by
        rw [Nat.pow_succ]
        have : 1 ≤ 4 ^ d' := Nat.one_le_pow _ _ (by decide)
        omega
      have q2 : 4 ^ (d' + 1 + 1) = 4 ^ (d' + 1) * 4 := Nat.pow_succ ..
      have q3 : 3 ^ (d' + 1) = 3 ^ d' * 3 := Nat.pow_succ ..
      have q4 : 1 ≤ 3 ^ d' := Nat.one_le_pow _ _ (by decide)
      have hsq : seqD (S2 ++ [.lst [.str (Str.ofString "plus"), .str (Str.ofString "minus")]]) (.ref S2.length) = some [.str (Str.ofString "plus"), .str (Str.ofString "minus")] := by
        show seqAt _ _ = _
        simp [seqAt]
      obtain ⟨⟨w, S3⟩, ew, mw, e3⟩ := ix_at hsq r0 (by simp; omega)
      dsimp only at e3
      subst e3
      have I3 := I2.new (T := [.lst [.str (Str.ofString "plus"), .str (Str.ofString "minus")]])
      have G3 : Go [e.q] S2 (S2 ++ [.lst [.str (Str.ofString "plus"), .str (Str.ofString "minus")]]) := Go.new
      obtain ⟨⟨x, S4⟩, ex, ⟨px, okx⟩, I4, G4⟩ := ih d' rfl (k + 1) _ I3 (by omega)
      obtain ⟨⟨y, S5⟩, ey, ⟨py, oky⟩, I5, G5⟩ := ih d' rfl (k + 1 + 4 ^ (d' + 1)) _ I4 (by omega)
      have hw : ∃ p, Ok 10 0 w p := by
        simp only [List.mem_cons, List.not_mem_nil, or_false] at mw
        rcases mw with rfl | rfl <;> exact ⟨_, Ok.of rfl (by decide +kernel)⟩
      obtain ⟨pw, hw⟩ := hw
      dsimp only at okx oky I4 G4 I5 G5
      have ht := Ok.tup (OkL.cons (hw.mono (Nat.le_refl _) (Nat.zero_le (d' + 1))) (OkL.cons okx (OkL.cons oky OkL.nil)))
      refine ⟨(.tup [w, x, y], S5), ?_, ⟨_, ht.mono (by omega) (by omega)⟩, I5.mono (by omega), ((G12.trans G3).trans G4).trans G5⟩
      have hd : ((d' + 1 : Nat) : Int) - 1 = (d' : Int) := by omega
      have hd' : (d' : Int) + 1 - 1 = (d' : Int) := by omega
      have el : j + (d' + 1) + 2 = j + d' + 3 := by omega
      have e1' : lv (j + d' + 3) 4 [.ref 2, .int 7] S = some (.int r, S1) := by rw [← el]; exact e1
      have e2' : lv (j + d' + 3) 6 [.ref e.p] S1 = some (.bl false, S2) := by rw [← el]; exact e2
      have c2 : (0 : Int) < (d' : Int) + 1 := by omega
      simp [m7, mBody, startE, mSeq, mAsg, mBin, mVar, mC, mCall, mCons, mNil, gN, mIfS, mTru, dTru, mRet, mTup, el, e1', e2', sz2, mAndT, asB, dLt, dGt, dSub, PL.alt, iiI, iiB, c1.1, c2, mLst, newL, ew, hd, hd', ex, ey, mNext, sz3]
    · have c4 : r < 2 → ¬ 0 < d := fun h1 h2 => c1 ⟨h1, h2⟩
      have hn := I2.po.n2
      -- the last row, from a state T
      have last : ∀ T : Sto, Iv ns e (k + 1) T → Go [e.q] S T → ∃ (r' : Int) (w : D) (S' : Sto), lv (j + d + 2) 4 [.ref 2, .int 6] (T ++ [.lst [.int 0, .int 1, .int 2, .int 9, .int (-3), .int 10]]) = some (.int r', S') ∧ ixA (.ref T.length) (.int r') S' = some (w, S') ∧
          Gv ns e k (4 ^ (d + 1)) (50 * 3 ^ d) (d + 1) S (.tup [.str (Str.ofString "num"), w], S') := by
        intro T IT GT
        obtain ⟨r', w, S', f1, f2, m, I', G'⟩ := IT.disp (by omega) (j + d + 1) [.int 0, .int 1, .int 2, .int 9, .int (-3), .int 10] 6 rfl (by decide) (by decide)
        refine ⟨r', w, S', f1, f2, ?_, I'.mono (by omega), GT.trans G'⟩
        have hw : ∃ p, Ok 8 0 w p := by
          simp only [List.mem_cons, List.not_mem_nil, or_false] at m
          rcases m with rfl | rfl | rfl | rfl | rfl | rfl <;> exact ⟨_, Ok.of rfl (by decide +kernel)⟩
        obtain ⟨p, hw⟩ := hw
        exact ⟨_, (Ok.two (Ok.of (W := 10) rfl (by decide +kernel)) hw).mono (by omega) (by omega)⟩
      by_cases a1 : r < 4
      · have I3 := I2.new (T := [.lst []])
        have hne := neNil I2.po.nu (fun x hx => (I2.gd x (.inr (.inl hx))).2)
        have a3 : r ≠ 4 := by omega
        by_cases a2 : e.nN = []
        · obtain ⟨r', w, S', f1, f2, g⟩ := last _ I3 (G12.trans Go.new)
          refine ⟨_, ?_, g⟩
          rw [a2] at hne
          simp only [List.append_assoc, List.cons_append, List.nil_append, List.length_append, List.length_cons, List.length_nil, Nat.zero_add] at f1 f2
          by_cases c3 : r < 2
          · simp [m7, mBody, startE, mSeq, mAsg, mBin, mVar, mC, mCall, mCons, mNil, gN, mIfS, mTru, dTru, mRet, mTup, e1, e2, sz2, mAndT, asB, dLt, dGt, dEq, sEq, PL.alt, iiI, iiB, mLst, newL, mNext, mNeg, sz0, sz6, c3, c4 c3, a1, a3, pool_nu I2.po, hne, f1, f2]
          · simp [m7, mBody, startE, mSeq, mAsg, mBin, mVar, mC, mCall, mCons, mNil, gN, mIfS, mTru, dTru, mRet, mTup, e1, e2, sz2, mAndT, asB, dLt, dGt, dEq, sEq, PL.alt, iiI, iiB, mLst, newL, mNext, mNeg, sz0, sz6, c3, a1, a3, pool_nu I2.po, hne, f1, f2]
        · obtain ⟨x, S4, f1, hx, I4, G4⟩ := I3.pick (by omega) (j + d) e.nu e.nN I3.po.nu hn.2.2.1 a2 I3.ls.2.1
          refine ⟨(.tup [.str (Str.ofString "of"), .str x], S4), ?_, ⟨_, (Ok.two (Ok.of (W := 10) rfl (by decide +kernel)) (Ok.name I4.gd (.inr (.inl hx)))).mono (by omega) (by omega)⟩, I4.mono (by omega), (G12.trans Go.new).trans G4⟩
          have hb : (!e.nN.isEmpty) = true := by simpa using a2
          rw [hb] at hne
          have hp2 := pool_nu I3.po
          by_cases c3 : r < 2
          · simp [m7, mBody, startE, mSeq, mAsg, mBin, mVar, mC, mCall, mCons, mNil, gN, mIfS, mTru, dTru, mRet, mTup, e1, e2, sz2, mAndT, asB, dLt, dGt, dEq, sEq, PL.alt, iiI, iiB, mLst, newL, mNext, mNeg, sz0, sz6, c3, c4 c3, a1, a3, pool_nu I2.po, hne, f1, hp2]
          · simp [m7, mBody, startE, mSeq, mAsg, mBin, mVar, mC, mCall, mCons, mNil, gN, mIfS, mTru, dTru, mRet, mTup, e1, e2, sz2, mAndT, asB, dLt, dGt, dEq, sEq, PL.alt, iiI, iiB, mLst, newL, mNext, mNeg, sz0, sz6, c3, a1, a3, pool_nu I2.po, hne, f1, hp2]
      · have c3 : ¬ r < 2 := by omega
        by_cases b1 : r = 4
        · have I3 := I2.new (T := [.lst []])
          have hne := neNil I2.po.sc (fun x hx => (I2.gd x (.inl hx)).2)
          by_cases b2 : e.sN = []
          · obtain ⟨r', w, S', f1, f2, g⟩ := last _ I3 (G12.trans Go.new)
            refine ⟨_, ?_, g⟩
            rw [b2] at hne
            simp only [List.append_assoc, List.cons_append, List.nil_append, List.length_append, List.length_cons, List.length_nil, Nat.zero_add] at f1 f2
            simp [m7, mBody, startE, mSeq, mAsg, mBin, mVar, mC, mCall, mCons, mNil, gN, mIfS, mTru, dTru, mRet, mTup, e1, e2, sz2, mAndT, asB, dLt, dGt, dEq, sEq, PL.alt, iiI, iiB, mLst, newL, mNext, mNeg, sz0, sz6, c3, a1, b1, pool_sc I2.po, hne, f1, f2]
          · obtain ⟨x, S4, f1, hx, I4, G4⟩ := I3.pick (by omega) (j + d) e.sc e.sN I3.po.sc hn.2.1 b2 I3.ls.1
            refine ⟨(.tup [.str (Str.ofString "seen"), .str x], S4), ?_, ⟨_, (Ok.two (Ok.of (W := 10) rfl (by decide +kernel)) (Ok.name I4.gd (.inl hx))).mono (by omega) (by omega)⟩, I4.mono (by omega), (G12.trans Go.new).trans G4⟩
            have hb : (!e.sN.isEmpty) = true := by simpa using b2
            rw [hb] at hne
            have hp2 := pool_sc I3.po
            simp [m7, mBody, startE, mSeq, mAsg, mBin, mVar, mC, mCall, mCons, mNil, gN, mIfS, mTru, dTru, mRet, mTup, e1, e2, sz2, mAndT, asB, dLt, dGt, dEq, sEq, PL.alt, iiI, iiB, mLst, newL, mNext, mNeg, sz0, sz6, c3, a1, b1, pool_sc I2.po, hne, f1, hp2]
        · obtain ⟨r', w, S', f1, f2, g⟩ := last _ I2 G12
          refine ⟨_, ?_, g⟩
          simp [m7, mBody, startE, mSeq, mAsg, mBin, mVar, mC, mCall, mCons, mNil, gN, mIfS, mTru, dTru, mRet, mTup, e1, e2, sz2, mAndT, asB, dLt, dGt, dEq, sEq, PL.alt, iiI, iiB, mLst, newL, mNext, mNeg, sz0, sz6, c3, a1, b1, f1, f2]
theorem sum_ok {ns : List Int} {e : Px} (j : Nat) : ∀ (d k : Nat) (S : Sto), Iv ns e k S → k + 4 ^ (d + 1) < 1000000000 → Yd (lv (j + d + 3) 7 [.ref 2, .int d, .ref e.p] S) (Gv ns e k (4 ^ (d + 1)) (50 * 3 ^ d) (d + 1) S) := by
  intro d
  induction d with
  | zero => exact fun k S I hk => sum_step j 0 (fun d' h => by omega) k S I hk
  | succ d ih => exact fun k S I hk => sum_step j (d + 1) (fun d' h => by cases h; exact ih) k S I hk
end K11
end

section
set_option Elab.async false
set_option linter.all false
set_option maxRecDepth 100000
set_option maxHeartbeats 8000000
namespace K11
open PySem PySem.Spec PyProof.Rows L2 PL
theorem pyDs_app : ∀ (xs ys : List D), pyDs (xs ++ ys) = (pyDs xs).bind fun a => (pyDs ys).map (a ++ ·)
  | [], ys => by
    show pyDs ys = (some []).bind _
    cases h : pyDs ys <;> simp
  | x :: xs, ys => by
    have c : ∀ zs : List D, pyDs (x :: zs) = (pyD x).bind fun a => (pyDs zs).map (a :: ·) := fun zs => by rw [pyDs]
    show pyDs (x :: (xs ++ ys)) = (pyDs (x :: xs)).bind _
    rw [c, c, pyDs_app xs ys]
    generalize pyDs ys = b
    cases pyD x <;> simp
    cases pyDs xs <;> simp
    cases b <;> simp
theorem shAll_app : ∀ (xs ys : List PyData), PyData.showableAll (xs ++ ys) = (PyData.showableAll xs && PyData.showableAll ys)
  | [], ys => by simp [PyData.showableAll]
  | x :: xs, ys => by simp [PyData.showableAll, shAll_app xs ys, Bool.and_assoc]
theorem hdAll_app : ∀ (xs ys : List PyData), PyData.hasDictAll (xs ++ ys) = (PyData.hasDictAll xs || PyData.hasDictAll ys)
  | [], ys => by simp [PyData.hasDictAll]
  | x :: xs, ys => by simp [PyData.hasDictAll, hdAll_app xs ys, Bool.or_assoc]
theorem dpAll_app : ∀ (xs ys : List PyData), PyData.depthAll (xs ++ ys) = max (PyData.depthAll xs) (PyData.depthAll ys)
  | [], ys => by simp [PyData.depthAll]
  | x :: xs, ys => by simp [PyData.depthAll, dpAll_app xs ys, Nat.max_assoc]
theorem snAll_app : ∀ (xs ys : List PyData), PyData.shownAll (xs ++ ys) = PyData.shownAll xs ++ PyData.shownAll ys
  | [], ys => by simp [PyData.shownAll]
  | x :: xs, ys => by simp [PyData.shownAll, snAll_app xs ys]
theorem OkL.app {V W m : Nat} {xs ys : List D} {ps qs : List PyData} (a : OkL V m xs ps) (b : OkL W m ys qs) : OkL (V + W) m (xs ++ ys) (ps ++ qs) := by
  refine ⟨by rw [pyDs_app, a.py, b.py]; rfl, by rw [shAll_app, a.sh, b.sh]; rfl, by rw [hdAll_app, a.nd, b.nd]; rfl, by rw [dpAll_app]; exact Nat.max_le.mpr ⟨a.dp, b.dp⟩, ?_⟩
  have h1 := a.ln
  have h2 := b.ln
  have e : wts (PyData.shownAll (ps ++ qs)) = wts (PyData.shownAll ps) + wts (PyData.shownAll qs) := by
    rw [snAll_app]
    simp [wts]
  omega
/-- the list that is being made stands apart -/
structure Apart (e : Px) (n : Nat) : Prop where
  n2 : 2 < n
  q : n ≠ e.q
  p : n ≠ e.p
  sc : n ≠ e.sc
  nu : n ≠ e.nu
  pl : n ≠ e.pl
  fi : n ≠ e.fi
theorem Iv.put {ns : List Int} {e : Px} {k n : Nat} {S : Sto} {o : Ob} (I : Iv ns e k S) (h : Apart e n) : Iv ns e k (S.set n o) := by
  have hs : ∀ i u, n ≠ i → S[i]? = some u → (S.set n o)[i]? = some u := fun i u hi hu => by rw [List.getElem?_set_ne hi]; exact hu
  obtain ⟨l, hq⟩ := I.po.q
  exact ⟨I.fd.put h.n2, ⟨hs _ _ h.p I.po.p, hs _ _ h.sc I.po.sc, hs _ _ h.nu I.po.nu, hs _ _ h.pl I.po.pl, hs _ _ h.fi I.po.fi, ⟨l, hs _ _ h.q hq⟩, I.po.n2, I.po.nq⟩, I.gd, I.ls⟩
theorem Iv.apart {ns : List Int} {e : Px} {k : Nat} {S : Sto} (I : Iv ns e k S) : Apart e S.length := by
  have lt : ∀ {i : Nat} {o : Ob}, S[i]? = some o → S.length ≠ i := fun h => by
    have := (List.getElem?_eq_some_iff.mp h).1
    omega
  have h2 := I.po.n2
  have hq := I.qlt
  exact ⟨by omega, by omega, lt I.po.p, lt I.po.sc, lt I.po.nu, lt I.po.pl, lt I.po.fi⟩
theorem Go.drop {q n : Nat} {S S' : Sto} (G : Go [q, n] S S') (h : S.length ≤ n) : Go [q] S S' := ⟨G.len, fun i o h1 h2 e => by
  have hi := (List.getElem?_eq_some_iff.mp e).1
  exact G.keep i o h1 (by simp at h2 ⊢; omega) e⟩
theorem Go.set {q n : Nat} {S : Sto} {o : Ob} : Go [q, n] S (S.set n o) := ⟨by simp, fun i u h1 h2 e => by
  simp at h2
  rw [List.getElem?_set_ne (fun z => h2.2 z.symm)]
  exact e⟩
theorem comp_ok {ns : List Int} {e : Px} {el : ME} {env : PL.Env} {c W m n v mm K : Nat} (ha : Apart e n)
    (hel : ∀ (i : Int) (k : Nat) (T : Sto), Iv ns e k T → k + c ≤ K → Yd (el (env.set v (some (.int i))) T) (Gv ns e k c W m T)) :
    ∀ (t i k V : Nat) (T : Sto) (acc : List D) (ps : List PyData), t + i = mm → Iv ns e k T → k + c * t ≤ K → T[n]? = some (.lst acc) → OkL V m acc ps → acc.length + t < 1000 →
      Yd (mLcL (nxR 0 mm) (gN v) mYes el n (t + 1) i env T) fun T' => ∃ ds qs, T'[n]? = some (.lst ds) ∧ OkL (V + t * (W + 2)) m ds qs ∧ Iv ns e (k + c * t) T' ∧ Go [e.q, n] T T' := by
  intro t
  induction t with
  | zero =>
    intro i k V T acc ps hi I hk hT ok hl
    refine ⟨T, ?_, acc, ps, hT, by simpa using ok, by simpa using I, Go.refl⟩
    have : ¬ i < mm := by omega
    simp [mLcL, nxR, this]
  | succ t ih =>
    intro i k V T acc ps hi I hk hT ok hl
    have hc : c * (t + 1) = c * t + c := Nat.mul_succ c t
    obtain ⟨⟨d, T1⟩, e1, ⟨p, okd⟩, I1, G1⟩ := hel (0 + i) k T I (by omega)
    dsimp only at okd I1 G1
    have hT1 : T1[n]? = some (.lst acc) := G1.keep _ _ (by have := ha.n2; omega) (by simpa using ha.q) hT
    have hn1 : n < T1.length := (List.getElem?_eq_some_iff.mp hT1).1
    have I2 := I1.put (o := .lst (acc ++ [d])) ha
    have ok2 := ok.app (OkL.cons okd OkL.nil)
    obtain ⟨T', e2, ds, qs, r1, r2, r3, r4⟩ := ih (i + 1) (k + c) _ _ (acc ++ [d]) _ (by omega) I2 (by omega) (List.getElem?_set_self hn1) ok2 (by simp; omega)
    refine ⟨T', ?_, ds, qs, r1, r2.mono (by rw [Nat.succ_mul]; omega) (Nat.le_refl _), r3.mono (by omega), ((G1.more (by simp)).trans Go.set).trans r4⟩
    have h1 : i < mm := by omega
    have h2 : acc.length < sizeLine := by
      have : 1000 ≤ sizeLine := by decide
      omega
    have e1' : el (env.set v (some (.int i))) T = some (d, T1) := by simpa using e1
    unfold mLcL
    simp [nxR, h1, gN, mYes, e1', hT1, h2, e2]
end K11
end

section
set_option Elab.async false
set_option linter.all false
set_option maxRecDepth 100000
set_option maxHeartbeats 8000000
namespace K11
open PySem PySem.Spec PyProof.Rows L2 PL
theorem r1s (mm : Nat) (hm : mm < 500) (S : Sto) : r1Of [.int (mm : Int)] S = some ((mm + 1, nxR 0 mm), S) := by
  have a1 : -(2 ^ 62) ≤ (mm : Int) := Int.le_trans (by decide : -(2 ^ 62) ≤ (0 : Int)) (Int.natCast_nonneg _)
  have a2 : (mm : Int) < 2 ^ 62 := Int.lt_of_lt_of_le (by omega : (mm : Int) < 500) (by decide : (500 : Int) ≤ 2 ^ 62)
  simp only [r1Of]
  rw [if_pos ⟨a1, a2⟩, Int.toNat_natCast]
theorem lcR_ok {ns : List Int} {e : Px} {a : MA} {el : ME} {env : PL.Env} {S S1 : Sto} {k c W m v mm : Nat} (h : a env S = some ([.int (mm : Int)], S1)) (hm : mm < 500) (I : Iv ns e k S1)
    (hel : ∀ (i : Int) (k' : Nat) (T : Sto), Iv ns e k' T → k' + c ≤ k + c * mm → Yd (el ((wipeE env [v]).set v (some (.int i))) T) (Gv ns e k' c W m T)) :
    ∃ S' ds qs, mLc (mR1 a) (gN v) mYes el [v] env S = some (.ref S1.length, S') ∧ S'[S1.length]? = some (.lst ds) ∧ OkL (mm * (W + 2)) m ds qs ∧ Iv ns e (k + c * mm) S' ∧ Go [e.q] S1 S' := by
  obtain ⟨S', e1, ds, qs, r1, r2, r3, r4⟩ := comp_ok (mm := mm) I.apart hel mm 0 k 0 (S1 ++ [.lst []]) [] [] (by omega) I.new (Nat.le_refl _) (by simp) (OkL.nil) (by simp; omega)
  refine ⟨S', ds, qs, ?_, r1, by simpa using r2, r3, (Go.new.trans r4).drop (Nat.le_refl _)⟩
  have e2 := r1s mm hm S1
  have e3 : mR1 a env S = some ((mm + 1, nxR 0 mm), S1) := by
    unfold mR1
    rw [h, Option.bind_some]
    dsimp only
    rw [e2]
  unfold mLc
  rw [e3, Option.bind_some]
  dsimp only
  rw [e1, Option.bind_some]
theorem seq_tup {S : Sto} {n : Nat} {ds : List D} (h : S[n]? = some (.lst ds)) : gTuple [.ref n] S = some (.tup ds, S) := by
  simp [gTuple, seqAt, h]
theorem test_step {ns : List Int} {e : Px} (j d : Nat) (ih : ∀ d', d = d' + 1 → ∀ (k : Nat) (S : Sto), Iv ns e k S → k + 40 * 4 ^ d' < 1000000000 → Yd (lv (j + d' + 5) 8 [.ref 2, .int d', .ref e.p] S) (Gv ns e k (40 * 4 ^ d') (400 * 3 ^ d') (3 + 2 * d') S))
    (k : Nat) (S : Sto) (I : Iv ns e k S) (hk : k + 40 * 4 ^ d < 1000000000) : Yd (lv (j + d + 5) 8 [.ref 2, .int d, .ref e.p] S) (Gv ns e k (40 * 4 ^ d) (400 * 3 ^ d) (3 + 2 * d) S) := by
  have p1 : 1 ≤ 4 ^ d := Nat.one_le_pow _ _ (by decide)
  have p2 : 1 ≤ 3 ^ d := Nat.one_le_pow _ _ (by decide)
  have sz2 : 2 ≤ sizeLine := by decide
  have sz3 : 3 ≤ sizeLine := by decide
  have sz4 : 4 ≤ sizeLine := by decide
  have sz0 : 0 ≤ sizeLine := by decide
  obtain ⟨r, S1, e1, r0, r1, I1, G1⟩ := I.draw (by omega) (j + d + 3) 9 (by omega) (by omega)
  obtain ⟨b, S2, e2, I2, G2⟩ := I1.spent (j + d + 3)
  have G12 := G1.trans G2
  have hall : ∃ p, Ok 20 2 (.tup [.str (Str.ofString "all"), .tup []]) p := ⟨_, (Ok.two (Ok.of (W := 10) rfl (by decide +kernel)) (Ok.tup (OkL.nil (m := 0)))).mono (by decide) (by decide)⟩
  obtain ⟨pa, hall⟩ := hall
  show Yd (m8 (lv (j + d + 4)) _ S) _
  cases b with
  | true =>
    refine ⟨(.tup [.str (Str.ofString "all"), .tup []], S2), ?_, ⟨pa, hall.mono (by omega) (by omega)⟩, I2.mono (by omega), G12⟩
    simp [m8, mBody, startE, mSeq, mAsg, mVar, mC, mCall, mCons, mNil, gN, mIfS, mTru, dTru, mRet, mTup, e1, e2, sz2]
  | false =>
    by_cases c1 : r < 3 ∧ 0 < d
    · obtain ⟨d', rfl⟩ : ∃ d', d = d' + 1 := ⟨d - 1, by omega⟩
      have q2 : 4 ^ (d' + 1) = 4 ^ d' * 4 := Nat.pow_succ ..
      have q3 : 3 ^ (d' + 1) = 3 ^ d' * 3 := Nat.pow_succ ..
      have q4 : 1 ≤ 3 ^ d' := Nat.one_le_pow _ _ (by decide)
      have q5 : 1 ≤ 4 ^ d' := Nat.one_le_pow _ _ (by decide)
      obtain ⟨r2, S3, e3, s0, s1, I3, G3⟩ := I2.draw (by omega) (j + d' + 4) 3 (by omega) (by omega)
      obtain ⟨mm, rfl⟩ : ∃ mm : Nat, r2 = (mm : Int) := ⟨r2.toNat, by omega⟩
      have el : j + (d' + 1) + 4 = j + d' + 5 := by omega
      have e1' : lv (j + d' + 5) 4 [.ref 2, .int 9] S = some (.int r, S1) := by rw [← el]; exact e1
      have e2' : lv (j + d' + 5) 6 [.ref e.p] S1 = some (.bl false, S2) := by rw [← el]; exact e2
      have e3' : lv (j + d' + 5) 4 [.ref 2, .int 3] S2 = some (.int (mm : Int), S3) := e3
      have hd' : (d' : Int) + 1 - 1 = (d' : Int) := by omega
      have hmm : mm ≤ 2 := by omega
      have hcm : 40 * 4 ^ d' * mm ≤ 40 * 4 ^ d' * 2 := Nat.mul_le_mul_left _ hmm
      have hwm : mm * (400 * 3 ^ d' + 2) ≤ 2 * (400 * 3 ^ d' + 2) := Nat.mul_le_mul_right _ hmm
      obtain ⟨S4, ds, qs, f1, f2, f3, I4, G4⟩ := lcR_ok (ns := ns) (e := e) (a := mCons (mCall 2 (lv (j + d' + 5) 4) (mCons (mVar 0) (mCons (mC (.int 3)) mNil))) mNil)
        (el := mCall 3 (lv (j + d' + 5) 8) (mCons (mVar 0) (mCons (mBin dSub (mVar 1) (mC (.int 1))) (mCons (mVar 2) mNil)))) (env := [some (.ref 2), some (.int ((d' : Int) + 1)), some (.ref e.p), some (.int r), none, none])
        (S := S2) (S1 := S3) (k := k + 1 + 1) (c := 40 * 4 ^ d') (W := 400 * 3 ^ d') (m := 3 + 2 * d') (v := 5) (mm := mm) (by simp [mCons, mCall, mVar, mC, mNil, e3']) (by omega) I3 (fun i k' T IT hT => by
          have := ih d' rfl k' T IT (by omega)
          obtain ⟨x, ex, gx⟩ := this
          refine ⟨x, ?_, gx⟩
          simp [mCall, mCons, mVar, mC, mNil, mBin, dSub, iiI, wipeE, hd', ex])
      obtain ⟨⟨x, S5⟩, ex, ⟨px, okx⟩, I5, G5⟩ := ih d' rfl _ _ I4 (by omega)
      dsimp only at okx I5 G5
      have hx : ∃ p, Ok (400 * 3 ^ (d' + 1)) (3 + 2 * (d' + 1)) (.tup [.str (Str.ofString "not"), x]) p := ⟨_, (Ok.two (Ok.of (W := 10) rfl (by decide +kernel)) okx).mono (by omega) (by omega)⟩
      have ht := Ok.tup f3
      have hy : ∃ p, Ok (400 * 3 ^ (d' + 1)) (3 + 2 * (d' + 1)) (.tup [.str (Str.ofString "all"), .tup ds]) p := ⟨_, (Ok.two (Ok.of (W := 10) rfl (by decide +kernel)) ht).mono (by omega) (by omega)⟩
      have hz : ∃ p, Ok (400 * 3 ^ (d' + 1)) (3 + 2 * (d' + 1)) (.tup [.str (Str.ofString "any"), .tup ds]) p := ⟨_, (Ok.two (Ok.of (W := 10) rfl (by decide +kernel)) ht).mono (by omega) (by omega)⟩
      have hsq : seqD (S5 ++ [.lst [.tup [.str (Str.ofString "not"), x], .tup [.str (Str.ofString "all"), .tup ds], .tup [.str (Str.ofString "any"), .tup ds]]]) (.ref S5.length) = some [.tup [.str (Str.ofString "not"), x], .tup [.str (Str.ofString "all"), .tup ds], .tup [.str (Str.ofString "any"), .tup ds]] := by
        show seqAt _ _ = _
        simp [seqAt]
      obtain ⟨⟨w, S6⟩, ew, mw, e6⟩ := ix_at hsq r0 (by simp; omega)
      dsimp only at e6
      subst e6
      have hw : ∃ p, Ok (400 * 3 ^ (d' + 1)) (3 + 2 * (d' + 1)) w p := by
        simp only [List.mem_cons, List.not_mem_nil, or_false] at mw
        rcases mw with rfl | rfl | rfl
        · exact hx
        · exact hy
        · exact hz
      refine ⟨(w, S5 ++ [.lst [.tup [.str (Str.ofString "not"), x], .tup [.str (Str.ofString "all"), .tup ds], .tup [.str (Str.ofString "any"), .tup ds]]]), ?_, hw, I5.new.mono (by omega), ((((G12.trans G3).trans G4).trans G5).trans Go.new)⟩
      have c2 : (0 : Int) < (d' : Int) + 1 := by omega
      have f4 := seq_tup f2
      simp only [dSub] at f1
      simp [m8, mBody, startE, mSeq, mAsg, mTru, dTru, mIfS, mRet, mTup, el, mAndT, asB, dLt, dGt, PL.alt, iiI, iiB, c1.1, c2, mLst, newL, ew, hd', ex, mNext, sz2, sz3, mBlt, f1, f4, e1', e2', gN, mBin, mCons, mNil, mVar, mC, mCall, dSub]
    · have c4 : r < 3 → ¬ 0 < d := fun h1 h2 => c1 ⟨h1, h2⟩
      have hn := I2.po.n2
      have isq : ∀ T : Sto, Iv ns e (k + 1) T → Go [e.q] S T → ∃ (x : D) (T1 : Sto) (r' : Int) (w : D) (T2 : Sto) (y : D) (T3 : Sto), lv (j + d + 4) 7 [.ref 2, .int 1, .ref e.p] T = some (x, T1) ∧
          lv (j + d + 4) 4 [.ref 2, .int 3] (T1 ++ [.lst [.str (Str.ofString "<"), .str (Str.ofString "="), .str (Str.ofString ">")]]) = some (.int r', T2) ∧ ixA (.ref T1.length) (.int r') T2 = some (w, T2) ∧ lv (j + d + 4) 7 [.ref 2, .int 1, .ref e.p] T2 = some (y, T3) ∧
          Gv ns e k (40 * 4 ^ d) (400 * 3 ^ d) (3 + 2 * d) S (.tup [.str (Str.ofString "is"), x, w, y], T3) := by
        intro T IT GT
        obtain ⟨⟨x, T1⟩, f1, ⟨px, okx⟩, J1, H1⟩ := sum_ok (j + d) 1 (k + 1) T IT (by omega)
        dsimp only at okx J1 H1
        obtain ⟨r', w, T2, f2, f3, m, J2, H2⟩ := J1.disp (by omega) (j + d + 3) [.str (Str.ofString "<"), .str (Str.ofString "="), .str (Str.ofString ">")] 3 rfl (by decide) (by decide)
        obtain ⟨⟨y, T3⟩, f4, ⟨py, oky⟩, J3, H3⟩ := sum_ok (j + d) 1 _ T2 J2 (by omega)
        dsimp only at oky J3 H3
        have hw : ∃ p, Ok 8 0 w p := by
          simp only [List.mem_cons, List.not_mem_nil, or_false] at m
          rcases m with rfl | rfl | rfl <;> exact ⟨_, Ok.of rfl (by decide +kernel)⟩
        obtain ⟨p, hw⟩ := hw
        have ht := Ok.tup (OkL.cons ((Ok.of (W := 10) (d := .str (Str.ofString "is")) rfl (by decide +kernel)).mono (Nat.le_refl _) (Nat.zero_le 2)) (OkL.cons okx (OkL.cons (hw.mono (Nat.le_refl _) (Nat.zero_le 2)) (OkL.cons oky OkL.nil))))
        exact ⟨x, T1, r', w, T2, y, T3, f1, f2, f3, f4, ⟨_, ht.mono (by omega) (by omega)⟩, J3.mono (by omega), ((GT.trans H1).trans H2).trans H3⟩
      have hfi := neNil I2.po.fi (fun x hx => (I2.gd x (.inr (.inr (.inr hx)))).2)
      have I3 := I2.new (T := [.lst []])
      by_cases a1 : r = 3
      · subst a1
        by_cases a2 : e.fN = []
        · obtain ⟨x, T1, r', w, T2, y, T3, f1, f2, f3, f4, g⟩ := isq _ I3 (G12.trans Go.new)
          refine ⟨_, ?_, g⟩
          rw [a2] at hfi
          simp [m8, mBody, startE, mSeq, mAsg, mBin, mVar, mC, mCall, mCons, mNil, gN, mIfS, mTru, dTru, mRet, mTup, e1, e2, sz2, sz3, sz4, mAndT, asB, dLt, dGt, dEq, sEq, PL.alt, iiI, iiB, mLst, newL, mNext, sz0, pool_fi I2.po, hfi, f1, f2, f3, f4]
        · have hb : (!e.fN.isEmpty) = true := by simpa using a2
          rw [hb] at hfi
          have hpl := neNil I3.po.pl (fun x hx => (I2.gd x (.inr (.inr (.inl hx)))).2)
          have I4 := I3.new (T := [.lst []])
          simp only [List.length_append, List.length_cons, List.length_nil, Nat.zero_add, List.append_assoc, List.cons_append, List.nil_append] at hpl I4
          have p3 := pool_pl I3.po
          have p4 := pool_fi I4.po
          by_cases a3 : e.pN = []
          · obtain ⟨x, T1, r', w, T2, y, T3, f1, f2, f3, f4, g⟩ := isq _ I4 (G12.trans Go.new)
            refine ⟨_, ?_, g⟩
            rw [a3] at hpl
            simp [m8, mBody, startE, mSeq, mAsg, mBin, mVar, mC, mCall, mCons, mNil, gN, mIfS, mTru, dTru, mRet, mTup, e1, e2, sz2, sz3, sz4, mAndT, asB, dLt, dGt, dEq, sEq, PL.alt, iiI, iiB, mLst, newL, mNext, sz0, pool_fi I2.po, hfi, p3, hpl, f1, f2, f3, f4]
          · have hb2 : (!e.pN.isEmpty) = true := by simpa using a3
            rw [hb2] at hpl
            obtain ⟨x, S5, f1, hx, I5, G5⟩ := I4.pick (by omega) (j + d + 2) e.fi e.fN I4.po.fi hn.2.2.2.2.1 a2 I4.ls.2.2.2
            obtain ⟨y, S6, f2, hy, I6, G6⟩ := I5.pick (by omega) (j + d + 2) e.pl e.pN I5.po.pl hn.2.2.2.1 a3 I5.ls.2.2.1
            have ht := Ok.tup (OkL.cons (Ok.of (W := 10) (d := .str (Str.ofString "at")) rfl (by decide +kernel)) (OkL.cons (Ok.name I2.gd (.inr (.inr (.inr hx)))) (OkL.cons (Ok.name I2.gd (.inr (.inr (.inl hy)))) OkL.nil)))
            refine ⟨(.tup [.str (Str.ofString "at"), .str x, .str y], S6), ?_, ⟨_, ht.mono (by omega) (by omega)⟩, I6.mono (by omega), (((G12.trans Go.new).trans G5).trans G6)⟩
            have p5 := pool_pl I5.po
            simp [m8, mBody, startE, mSeq, mAsg, mBin, mVar, mC, mCall, mCons, mNil, gN, mIfS, mTru, dTru, mRet, mTup, e1, e2, sz2, sz3, sz4, mAndT, asB, dLt, dGt, dEq, sEq, PL.alt, iiI, iiB, mLst, newL, mNext, sz0, pool_fi I2.po, hfi, p3, hpl, p4, f1, p5, f2]
      · by_cases b1 : r = 4
        · subst b1
          by_cases b2 : e.fN = []
          · obtain ⟨x, T1, r', w, T2, y, T3, f1, f2, f3, f4, g⟩ := isq _ I3 (G12.trans Go.new)
            refine ⟨_, ?_, g⟩
            rw [b2] at hfi
            simp [m8, mBody, startE, mSeq, mAsg, mBin, mVar, mC, mCall, mCons, mNil, gN, mIfS, mTru, dTru, mRet, mTup, e1, e2, sz2, sz3, sz4, mAndT, asB, dLt, dGt, dEq, sEq, PL.alt, iiI, iiB, mLst, newL, mNext, sz0, pool_fi I2.po, hfi, f1, f2, f3, f4]
          · have hb : (!e.fN.isEmpty) = true := by simpa using b2
            rw [hb] at hfi
            obtain ⟨x, S5, f1, hx, I5, G5⟩ := I3.pick (by omega) (j + d + 2) e.fi e.fN I3.po.fi hn.2.2.2.2.1 b2 I3.ls.2.2.2
            obtain ⟨y, S6, f2, hy, I6, G6⟩ := I5.pick (by omega) (j + d + 2) e.fi e.fN I5.po.fi hn.2.2.2.2.1 b2 I5.ls.2.2.2
            have ht := Ok.tup (OkL.cons (Ok.of (W := 10) (d := .str (Str.ofString "with")) rfl (by decide +kernel)) (OkL.cons (Ok.name I2.gd (.inr (.inr (.inr hx)))) (OkL.cons (Ok.name I2.gd (.inr (.inr (.inr hy)))) OkL.nil)))
            refine ⟨(.tup [.str (Str.ofString "with"), .str x, .str y], S6), ?_, ⟨_, ht.mono (by omega) (by omega)⟩, I6.mono (by omega), (((G12.trans Go.new).trans G5).trans G6)⟩
            have p4 := pool_fi I3.po
            have p5 := pool_fi I5.po
            simp [m8, mBody, startE, mSeq, mAsg, mBin, mVar, mC, mCall, mCons, mNil, gN, mIfS, mTru, dTru, mRet, mTup, e1, e2, sz2, sz3, sz4, mAndT, asB, dLt, dGt, dEq, sEq, PL.alt, iiI, iiB, mLst, newL, mNext, sz0, pool_fi I2.po, hfi, p4, f1, p5, f2]
        · by_cases b3 : r < 7
          · obtain ⟨x, T1, r', w, T2, y, T3, f1, f2, f3, f4, g⟩ := isq _ I2 G12
            refine ⟨_, ?_, g⟩
            by_cases c3 : r < 3
            · simp [m8, mBody, startE, mSeq, mAsg, mBin, mVar, mC, mCall, mCons, mNil, gN, mIfS, mTru, dTru, mRet, mTup, e1, e2, sz2, sz3, sz4, mAndT, asB, dLt, dGt, dEq, sEq, PL.alt, iiI, iiB, mLst, newL, mNext, sz0, c3, c4 c3, a1, b1, b3, f1, f2, f3, f4]
            · simp [m8, mBody, startE, mSeq, mAsg, mBin, mVar, mC, mCall, mCons, mNil, gN, mIfS, mTru, dTru, mRet, mTup, e1, e2, sz2, sz3, sz4, mAndT, asB, dLt, dGt, dEq, sEq, PL.alt, iiI, iiB, mLst, newL, mNext, sz0, c3, a1, b1, b3, f1, f2, f3, f4]
          · have c3 : ¬ r < 3 := by omega
            refine ⟨(.tup [.str (Str.ofString "all"), .tup []], S2), ?_, ⟨pa, hall.mono (by omega) (by omega)⟩, I2.mono (by omega), G12⟩
            simp [m8, mBody, startE, mSeq, mAsg, mBin, mVar, mC, mCall, mCons, mNil, gN, mIfS, mTru, dTru, mRet, mTup, e1, e2, sz2, sz3, sz4, mAndT, asB, dLt, dGt, dEq, sEq, PL.alt, iiI, iiB, mLst, newL, mNext, sz0, c3, a1, b1, b3]
theorem test_ok {ns : List Int} {e : Px} (j : Nat) : ∀ (d k : Nat) (S : Sto), Iv ns e k S → k + 40 * 4 ^ d < 1000000000 → Yd (lv (j + d + 5) 8 [.ref 2, .int d, .ref e.p] S) (Gv ns e k (40 * 4 ^ d) (400 * 3 ^ d) (3 + 2 * d) S) := by
  intro d
  induction d with
  | zero => exact fun k S I hk => test_step j 0 (fun d' h => by omega) k S I hk
  | succ d ih => exact fun k S I hk => test_step j (d + 1) (fun d' h => by cases h; exact ih) k S I hk
end K11
end

section
set_option Elab.async false
set_option linter.all false
set_option maxRecDepth 100000
set_option maxHeartbeats 8000000
namespace K11
open PySem PySem.Spec PyProof.Rows L2 PL
theorem sz0 : 0 ≤ sizeLine := by decide
theorem sz1 : 1 ≤ sizeLine := by decide
theorem sz2 : 2 ≤ sizeLine := by decide
theorem sz3 : 3 ≤ sizeLine := by decide
theorem sz4 : 4 ≤ sizeLine := by decide
theorem sz5 : 5 ≤ sizeLine := by decide
theorem sz6 : 6 ≤ sizeLine := by decide
theorem sz8 : 8 ≤ sizeLine := by decide
/-- what a piece's drawing gives, at depth d -/
def PieceAt (ns : List Int) (e : Px) (j d : Nat) : Prop := ∀ (o : Bool) (k : Nat) (S : Sto), Iv ns e k S → k + 100 * 8 ^ d < 1000000000 → Yd (lv (j + 2 * d + 7) 10 [.ref 2, .int d, .ref e.p, .bl o] S) (Gv ns e k (100 * 8 ^ d) (1000 * 8 ^ d) (6 + 2 * d) S)
/-- how many pieces -/
def manyE (C : Nat → MF) : ME := mIf (asB (mBin dGt (mBin ixA (mBin ixA (mVar 2) (mC (.str (Str.ofString "left")))) (mC (.int 0))) (mC (.int 0)))) (mCall 2 (C 4) (mCons (mVar 0) (mCons (mC (.int 3)) (mNil)))) (mC (.int 0))
theorem many_ok {ns : List Int} {e : Px} {n : Nat} {x y : Option D} (k : Nat) (S : Sto) (I : Iv ns e k S) (hk : k + 1 < 1000000000) :
    ∃ (mm : Nat) (S1 : Sto), mm ≤ 2 ∧ Iv ns e (k + 1) S1 ∧ Go [e.q] S S1 ∧ manyE (lv (n + 1)) [some (.ref 2), x, some (.ref e.p), y, none, none] S = some (.int (mm : Int), S1) := by
  obtain ⟨l, hq⟩ := I.po.q
  have a1 := pool_left I.po
  have a2 := ixA_lst hq
  by_cases hl : 0 < l
  · obtain ⟨r, S1, e1, r0, r1, I1, G1⟩ := I.draw (by omega) n 3 (by omega) (by omega)
    obtain ⟨mm, rfl⟩ : ∃ mm : Nat, r = (mm : Int) := ⟨r.toNat, by omega⟩
    refine ⟨mm, S1, by omega, I1, G1, ?_⟩
    generalize lv (n + 1) = C at e1 ⊢
    simp [mBody, startE, mSeq, mAsg, mBin, mVar, mC, mCall, mCons, mNil, gN, mIfS, mIf, mTru, dTru, mRet, mTup, mAndT, mOrT, asB, dLt, dGt, dEq, sEq, PL.alt, iiI, iiB, mLst, newL, mNext, mNeg, mBlt, dSub, sz0, sz1, sz2, sz3, sz4, sz5, sz6, sz8, yd_some, manyE, a1, a2, hl, e1]
  · refine ⟨0, S, by omega, I.mono (by omega), Go.refl, ?_⟩
    generalize lv (n + 1) = C
    simp [mBody, startE, mSeq, mAsg, mBin, mVar, mC, mCall, mCons, mNil, gN, mIfS, mIf, mTru, dTru, mRet, mTup, mAndT, mOrT, asB, dLt, dGt, dEq, sEq, PL.alt, iiI, iiB, mLst, newL, mNext, mNeg, mBlt, dSub, sz0, sz1, sz2, sz3, sz4, sz5, sz6, sz8, yd_some, manyE, a1, a2, hl]
def piecesE (C : Nat → MF) : ME := mLc (mR1 (mCons (mVar 4) (mNil))) (gN 5) (mYes) (mCall 4 (C 10) (mCons (mVar 0) (mCons (mVar 1) (mCons (mVar 2) (mCons (mVar 3) (mNil)))))) [5]
theorem m9_eq (C : Nat → MF) {x0 x1 x2 x3 m : D} {S S1 S4 : Sto} {n : Nat} {ds : List D} (e1 : manyE C [some x0, some x1, some x2, some x3, none, none] S = some (m, S1))
    (f1 : piecesE C [some x0, some x1, some x2, some x3, some m, none] S1 = some (.ref n, S4)) (f4 : gTuple [.ref n] S4 = some (.tup ds, S4)) : m9 C [x0, x1, x2, x3] S = some (.tup ds, S4) := by
  show mBody 6 (mSeq (mAsg (manyE C) (gN 4)) (mRet (mBlt gTuple (mCons (piecesE C) mNil)))) _ _ = _
  simp [mBody, startE, mSeq, mAsg, e1, gN, mRet, mBlt, mCons, mNil, f1, f4]
theorem pieces_of {ns : List Int} {e : Px} {j d : Nat} (hp : PieceAt ns e j d) (o : Bool) (k : Nat) (S : Sto) (I : Iv ns e k S) (hk : k + (1 + 200 * 8 ^ d) < 1000000000) :
    ∃ (ds : List D) (S' : Sto), lv (j + 2 * d + 8) 9 [.ref 2, .int d, .ref e.p, .bl o] S = some (.tup ds, S') ∧ (∃ qs, Ok (2 * (1000 * 8 ^ d + 2) + 3) (7 + 2 * d) (.tup ds) qs) ∧ Iv ns e (k + (1 + 200 * 8 ^ d)) S' ∧ Go [e.q] S S' := by
  have p1 : 1 ≤ 8 ^ d := Nat.one_le_pow _ _ (by decide)
  obtain ⟨mm, S1, hm, I1, G1, e1⟩ := many_ok (n := j + 2 * d + 6) (x := some (.int d)) (y := some (.bl o)) k S I (by omega)
  have hcm : 100 * 8 ^ d * mm ≤ 100 * 8 ^ d * 2 := Nat.mul_le_mul_left _ hm
  have hwm : mm * (1000 * 8 ^ d + 2) ≤ 2 * (1000 * 8 ^ d + 2) := Nat.mul_le_mul_right _ hm
  obtain ⟨S4, ds, qs, f1, f2, f3, I4, G4⟩ := lcR_ok (ns := ns) (e := e) (a := mCons (mVar 4) mNil)
    (el := mCall 4 (lv (j + 2 * d + 7) 10) (mCons (mVar 0) (mCons (mVar 1) (mCons (mVar 2) (mCons (mVar 3) mNil))))) (env := [some (.ref 2), some (.int (d : Int)), some (.ref e.p), some (.bl o), some (.int (mm : Int)), none])
    (S := S1) (S1 := S1) (k := k + 1) (c := 100 * 8 ^ d) (W := 1000 * 8 ^ d) (m := 6 + 2 * d) (v := 5) (mm := mm) (by simp [mCons, mVar, mNil]) (by omega) I1 (fun i k' T IT hT => by
      obtain ⟨x, ex, gx⟩ := hp o k' T IT (by omega)
      refine ⟨x, ?_, gx⟩
      generalize lv (j + 2 * d + 7) = C at ex ⊢
      simp [mCall, mCons, mVar, mNil, wipeE, ex])
  exact ⟨ds, S4, m9_eq (lv (j + 2 * d + 7)) e1 f1 (seq_tup f2), ⟨_, (Ok.tup f3).mono (by omega) (by omega)⟩, I4.mono (by omega), G1.trans G4⟩
theorem Ok.one {V m : Nat} {x : D} {p : PyData} (a : Ok V m x p) : Ok (V + 5) (m + 1) (.tup [x]) (.tuple [p]) := (Ok.tup (OkL.cons a OkL.nil)).mono (by omega) (Nat.le_refl _)
theorem Ok.three {U V W m : Nat} {x y z : D} {p q r : PyData} (a : Ok U m x p) (b : Ok V m y q) (c : Ok W m z r) : Ok (U + V + W + 9) (m + 1) (.tup [x, y, z]) (.tuple [p, q, r]) := (Ok.tup (OkL.cons a (OkL.cons b (OkL.cons c OkL.nil)))).mono (by omega) (Nat.le_refl _)
theorem ok_lits {W : Nat} {d : D} {xs : List Str} (m : d ∈ xs.map D.str) (h : (xs.all fun x => okB W (.str x)) = true) : ∃ p, Ok W 0 d p := by
  obtain ⟨x, hx, rfl⟩ := List.mem_map.mp m
  exact ⟨_, Ok.of rfl (List.all_eq_true.mp h x hx)⟩
theorem ixL (T : Sto) (xs : List D) (i : Int) (h0 : 0 ≤ i) (h1 : i < xs.length) : ∃ w, ixA (.ref T.length) (.int i) (T ++ [.lst xs]) = some (w, T ++ [.lst xs]) ∧ w ∈ xs := by
  have hsq : seqD (T ++ [.lst xs]) (.ref T.length) = some xs := by
    show seqAt _ _ = _
    simp [seqAt]
  obtain ⟨⟨w, S3⟩, ew, mw, e3⟩ := ix_at hsq h0 h1
  dsimp only at e3
  subst e3
  exact ⟨w, ew, mw⟩
theorem piece_step {ns : List Int} {e : Px} (j d : Nat) (ih : ∀ d', d = d' + 1 → PieceAt ns e j d') : PieceAt ns e j d := by
  intro o k S I hk
  have p1 : 1 ≤ 8 ^ d := Nat.one_le_pow _ _ (by decide)
  obtain ⟨r, S1, e1, r0, r1, I1, G1⟩ := I.draw (by omega) (j + 2 * d + 5) 9 (by omega) (by omega)
  obtain ⟨b, S2, e2, I2, G2⟩ := I1.spent (j + 2 * d + 5)
  have G12 := G1.trans G2
  have hn := I2.po.n2
  show Yd (m10 (lv (j + 2 * d + 6)) _ S) _
  cases b with
  | true =>
    simp [mBody, startE, mSeq, mAsg, mBin, mVar, mC, mCall, mCons, mNil, gN, mIfS, mIf, mTru, dTru, mRet, mTup, mAndT, mOrT, asB, dLt, dGt, dEq, sEq, PL.alt, iiI, iiB, mLst, newL, mNext, mNeg, mBlt, dSub, sz0, sz1, sz2, sz3, sz4, sz5, sz6, sz8, yd_some, m10, e1, e2]
    exact ⟨⟨_, (Ok.one (Ok.of (W := 10) (d := .str (Str.ofString "end")) rfl (by decide +kernel))).mono (by omega) (by omega)⟩, I2.mono (by omega), G12⟩
  | false =>
    by_cases c1 : r < 2 ∧ 0 < d
    · obtain ⟨d', rfl⟩ : ∃ d', d = d' + 1 := ⟨d - 1, by omega⟩
      have q1 : 1 ≤ 8 ^ d' := Nat.one_le_pow _ _ (by decide)
      have q2 : 8 ^ (d' + 1) = 8 ^ d' * 8 := Nat.pow_succ ..
      have el : j + 2 * (d' + 1) + 6 = j + 2 * d' + 8 := by omega
      have e1' : lv (j + 2 * d' + 8) 4 [.ref 2, .int 9] S = some (.int r, S1) := by rw [← el]; exact e1
      have e2' : lv (j + 2 * d' + 8) 6 [.ref e.p] S1 = some (.bl false, S2) := by rw [← el]; exact e2
      have hd' : (d' : Int) + 1 - 1 = (d' : Int) := by omega
      have c2 : (0 : Int) < (d' : Int) + 1 := by omega
      obtain ⟨ds, S3, e3, ⟨q3, ok3⟩, I3, G3⟩ := pieces_of (ih d' rfl) o (k + 1) S2 I2 (by omega)
      rw [el]
      by_cases c3 : r = 1 ∧ o = true
      · obtain ⟨rfl, rfl⟩ := c3
        obtain ⟨r', w, S4, f1, f2, m, I4, G4⟩ := I3.disp (by omega) (j + 2 * d' + 7) [.str (Str.ofString "ann"), .str (Str.ofString "zoe")] 2 rfl (by decide) (by decide)
        obtain ⟨pw, okw⟩ := ok_lits (W := 10) (xs := [Str.ofString "ann", Str.ofString "zoe"]) m (by decide +kernel)
        have f1' : lv (j + 2 * d' + 8) 4 [.ref 2, .int 2] (S3 ++ [.lst [.str (Str.ofString "ann"), .str (Str.ofString "zoe")]]) = some (.int r', S4) := f1
        generalize lv (j + 2 * d' + 8) = C at e1' e2' e3 f1' ⊢
        simp [mBody, startE, mSeq, mAsg, mBin, mVar, mC, mCall, mCons, mNil, gN, mIfS, mIf, mTru, dTru, mRet, mTup, mAndT, mOrT, asB, dLt, dGt, dEq, sEq, PL.alt, iiI, iiB, mLst, newL, mNext, mNeg, mBlt, dSub, sz0, sz1, sz2, sz3, sz4, sz5, sz6, sz8, yd_some, m10, e1', e2', c2, hd', e3, f1', f2]
        exact ⟨⟨_, (Ok.three ((Ok.of (W := 10) (d := .str (Str.ofString "only")) rfl (by decide +kernel)).mono (Nat.le_refl _) (Nat.zero_le _)) (okw.mono (Nat.le_refl _) (Nat.zero_le _)) ok3).mono (by omega) (by omega)⟩, I4.mono (by omega), (G12.trans G3).trans G4⟩
      · obtain ⟨⟨t, S4⟩, f1, ⟨pt, okt⟩, I4, G4⟩ := test_ok (j + 2 * d' + 2) 1 _ S3 I3 (by omega)
        dsimp only at okt I4 G4
        obtain ⟨ds5, S5, e5, ⟨q5, ok5⟩, I5, G5⟩ := pieces_of (ih d' rfl) o _ S4 I4 (by omega)
        have c4 : (r = 1 ∧ o = true) = False := by simpa using c3
        have f1' : lv (j + 2 * d' + 8) 8 [.ref 2, .int 1, .ref e.p] S3 = some (t, S4) := f1
        have ht := Ok.tup (OkL.cons ((Ok.of (W := 10) (d := .str (Str.ofString "if")) rfl (by decide +kernel)).mono (Nat.le_refl _) (Nat.zero_le (7 + 2 * d'))) (OkL.cons (okt.mono (Nat.le_refl _) (by omega)) (OkL.cons ok3 (OkL.cons ok5 OkL.nil))))
        generalize lv (j + 2 * d' + 8) = C at e1' e2' e3 f1' e5 ⊢
        by_cases c5 : r = 1
        · have c6 : o = false := by simpa [c5] using c3
          subst c5 c6
          simp [mBody, startE, mSeq, mAsg, mBin, mVar, mC, mCall, mCons, mNil, gN, mIfS, mIf, mTru, dTru, mRet, mTup, mAndT, mOrT, asB, dLt, dGt, dEq, sEq, PL.alt, iiI, iiB, mLst, newL, mNext, mNeg, mBlt, dSub, sz0, sz1, sz2, sz3, sz4, sz5, sz6, sz8, yd_some, m10, e1', e2', c2, hd', e3, f1', e5]
          exact ⟨⟨_, ht.mono (by omega) (by omega)⟩, I5.mono (by omega), ((G12.trans G3).trans G4).trans G5⟩
        · simp [mBody, startE, mSeq, mAsg, mBin, mVar, mC, mCall, mCons, mNil, gN, mIfS, mIf, mTru, dTru, mRet, mTup, mAndT, mOrT, asB, dLt, dGt, dEq, sEq, PL.alt, iiI, iiB, mLst, newL, mNext, mNeg, mBlt, dSub, sz0, sz1, sz2, sz3, sz4, sz5, sz6, sz8, yd_some, m10, e1', e2', c2, hd', e3, f1', e5, c5, c1.1]
          exact ⟨⟨_, ht.mono (by omega) (by omega)⟩, I5.mono (by omega), ((G12.trans G3).trans G4).trans G5⟩
    · have c4 : r < 2 → ¬ 0 < d := fun h1 h2 => c1 ⟨h1, h2⟩
      have el : (if r < 2 then decide ((0 : Int) < (d : Int)) else false) = false := by
        split
        · simpa using c4 (by assumption)
        · rfl
      -- end or glue
      have short : ∀ T : Sto, Iv ns e (k + 1) T → Go [e.q] S T → ∃ w : D, ixA (.ref T.length) (.int (r % 2)) (T ++ [.lst [.tup [.str (Str.ofString "end")], .tup [.str (Str.ofString "glue")]]]) = some (w, T ++ [.lst [.tup [.str (Str.ofString "end")], .tup [.str (Str.ofString "glue")]]]) ∧
          Gv ns e k (100 * 8 ^ d) (1000 * 8 ^ d) (6 + 2 * d) S (w, T ++ [.lst [.tup [.str (Str.ofString "end")], .tup [.str (Str.ofString "glue")]]]) := by
        intro T IT GT
        obtain ⟨w, f1, m⟩ := ixL T [.tup [.str (Str.ofString "end")], .tup [.str (Str.ofString "glue")]] (r % 2) (Int.emod_nonneg _ (by decide)) (Int.emod_lt_of_pos _ (by decide))
        refine ⟨w, f1, ?_, (IT.new.mono (by omega)), GT.trans Go.new⟩
        have hw : ∃ p, Ok 15 1 w p := by
          simp only [List.mem_cons, List.not_mem_nil, or_false] at m
          rcases m with rfl | rfl <;> exact ⟨_, Ok.one (Ok.of rfl (by decide +kernel))⟩
        obtain ⟨p, hw⟩ := hw
        exact ⟨p, hw.mono (by omega) (by omega)⟩
      have hfi := neNil I2.po.fi (fun x hx => (I2.gd x (.inr (.inr (.inr hx)))).2)
      have I3 := I2.new (T := [.lst []])
      have p2 := pool_fi I2.po
      by_cases a2 : r = 2
      · subst a2
        obtain ⟨⟨x, S3⟩, f1, ⟨px, okx⟩, I4, G4⟩ := sum_ok (j + 2 * d + 1) 2 _ S2 I2 (by omega)
        dsimp only at okx I4 G4
        have f1' : lv (j + 2 * d + 6) 7 [.ref 2, .int 2, .ref e.p] S2 = some (x, S3) := f1
        generalize lv (j + 2 * d + 6) = C at e1 e2 f1' ⊢
        simp [mBody, startE, mSeq, mAsg, mBin, mVar, mC, mCall, mCons, mNil, gN, mIfS, mIf, mTru, dTru, mRet, mTup, mAndT, mOrT, asB, dLt, dGt, dEq, sEq, PL.alt, iiI, iiB, mLst, newL, mNext, mNeg, mBlt, dSub, sz0, sz1, sz2, sz3, sz4, sz5, sz6, sz8, yd_some, m10, e1, e2, f1']
        exact ⟨⟨_, (Ok.two (Ok.of (W := 10) (d := .str (Str.ofString "worth")) rfl (by decide +kernel)) okx).mono (by omega) (by omega)⟩, I4.mono (by omega), G12.trans G4⟩
      · by_cases a3 : r = 3
        · subst a3
          by_cases a4 : e.fN = []
          · obtain ⟨w, f1, g⟩ := short _ I3 (G12.trans Go.new)
            rw [a4] at hfi
            generalize lv (j + 2 * d + 6) = C at e1 e2 ⊢
            simp only [List.append_assoc, List.cons_append, List.nil_append, List.length_append, List.length_cons, List.length_nil, Nat.zero_add, Int.reduceMod] at f1 g
            simp [mBody, startE, mSeq, mAsg, mBin, mVar, mC, mCall, mCons, mNil, gN, mIfS, mIf, mTru, dTru, mRet, mTup, mAndT, mOrT, asB, dLt, dGt, dEq, sEq, PL.alt, iiI, iiB, mLst, newL, mNext, mNeg, mBlt, dSub, sz0, sz1, sz2, sz3, sz4, sz5, sz6, sz8, yd_some, m10, e1, e2, p2, hfi, dMod, f1]
            exact g
          · have hb : (!e.fN.isEmpty) = true := by simpa using a4
            rw [hb] at hfi
            obtain ⟨x, S5, f1, hx, I5, G5⟩ := I3.pick (by omega) (j + 2 * d + 4) e.fi e.fN I3.po.fi hn.2.2.2.2.1 a4 I3.ls.2.2.2
            have p3 := pool_fi I3.po
            have f1' : lv (j + 2 * d + 6) 5 [.ref 2, .ref e.fi] (S2 ++ [.lst []]) = some (.str x, S5) := f1
            generalize lv (j + 2 * d + 6) = C at e1 e2 f1' ⊢
            simp [mBody, startE, mSeq, mAsg, mBin, mVar, mC, mCall, mCons, mNil, gN, mIfS, mIf, mTru, dTru, mRet, mTup, mAndT, mOrT, asB, dLt, dGt, dEq, sEq, PL.alt, iiI, iiB, mLst, newL, mNext, mNeg, mBlt, dSub, sz0, sz1, sz2, sz3, sz4, sz5, sz6, sz8, yd_some, m10, e1, e2, p2, hfi, p3, f1']
            exact ⟨⟨_, (Ok.two (Ok.of (W := 10) (d := .str (Str.ofString "place")) rfl (by decide +kernel)) (Ok.name I2.gd (.inr (.inr (.inr hx))))).mono (by omega) (by omega)⟩, I5.mono (by omega), (G12.trans Go.new).trans G5⟩
        · by_cases a6 : r < 6
          · obtain ⟨w, f1, g⟩ := short _ I2 G12
            generalize lv (j + 2 * d + 6) = C at e1 e2 ⊢
            by_cases c3 : r < 2
            · have c8 := c4 c3
              simp [mBody, startE, mSeq, mAsg, mBin, mVar, mC, mCall, mCons, mNil, gN, mIfS, mIf, mTru, dTru, mRet, mTup, mAndT, mOrT, asB, dLt, dGt, dEq, sEq, PL.alt, iiI, iiB, mLst, newL, mNext, mNeg, mBlt, dSub, sz0, sz1, sz2, sz3, sz4, sz5, sz6, sz8, yd_some, m10, e1, e2, dMod, f1, a2, a3, a6, c3, c8]
              exact g
            · simp [mBody, startE, mSeq, mAsg, mBin, mVar, mC, mCall, mCons, mNil, gN, mIfS, mIf, mTru, dTru, mRet, mTup, mAndT, mOrT, asB, dLt, dGt, dEq, sEq, PL.alt, iiI, iiB, mLst, newL, mNext, mNeg, mBlt, dSub, sz0, sz1, sz2, sz3, sz4, sz5, sz6, sz8, yd_some, m10, e1, e2, dMod, f1, a2, a3, a6, c3]
              exact g
          · obtain ⟨r', w, S4, f1, f2, m, I4, G4⟩ := I2.disp (by omega) (j + 2 * d + 5) ([Str.ofString "", Str.ofString " ", Str.ofString "You go.", Str.ofString "a  b ", Str.ofString "done", Str.ofString "else", Str.ofString "text x", Str.ofString "if all 0"].map D.str) 8 rfl (by decide) (by decide)
            obtain ⟨pw, okw⟩ := ok_lits (W := 20) m (by decide +kernel)
            have c3 : ¬ r < 2 := by omega
            have f1' : lv (j + 2 * d + 6) 4 [.ref 2, .int 8] (S2 ++ [.lst ([Str.ofString "", Str.ofString " ", Str.ofString "You go.", Str.ofString "a  b ", Str.ofString "done", Str.ofString "else", Str.ofString "text x", Str.ofString "if all 0"].map D.str)]) = some (.int r', S4) := f1
            simp only [List.map_cons, List.map_nil] at f1'
            generalize lv (j + 2 * d + 6) = C at e1 e2 f1' ⊢
            simp [mBody, startE, mSeq, mAsg, mBin, mVar, mC, mCall, mCons, mNil, gN, mIfS, mIf, mTru, dTru, mRet, mTup, mAndT, mOrT, asB, dLt, dGt, dEq, sEq, PL.alt, iiI, iiB, mLst, newL, mNext, mNeg, mBlt, dSub, sz0, sz1, sz2, sz3, sz4, sz5, sz6, sz8, yd_some, m10, e1, e2, a2, a3, a6, c3, f1', f2]
            exact ⟨⟨_, (Ok.two (Ok.of (W := 10) (d := .str (Str.ofString "text")) rfl (by decide +kernel)) okw).mono (by omega) (by omega)⟩, I4.mono (by omega), G12.trans G4⟩
theorem piece_ok {ns : List Int} {e : Px} (j : Nat) : ∀ d, PieceAt ns e j d := by
  intro d
  induction d with
  | zero => exact piece_step j 0 fun d' h => by omega
  | succ d ih => exact piece_step j (d + 1) fun d' h => by cases h; exact ih
end K11
end

section
set_option Elab.async false
set_option linter.all false
set_option maxRecDepth 100000
set_option maxHeartbeats 8000000
namespace K11
open PySem PySem.Spec PyProof.Rows L2 PL
theorem Ok.non : Ok 8 0 .non .none := Ok.of rfl (by decide +kernel)
theorem Ok.word {W : Nat} {x : Str} (h : okB W (.str x) = true) : Ok W 0 (.str x) (.str x) := Ok.of rfl h
/-- nothing, or a tuple -/
def NonTup (r : D) : Prop := r = .non ∨ ∃ xs, r = .tup xs
def actS3 (C : Nat → MF) : MS := mSeq (mIfS (mAndT (asB (mBin dEq (mVar 2) (mC (.int 4)))) (asB (mBin dNe (mVar 3) (mLst (mNil))))) (mRet (mTup (mCons (mC (.str (Str.ofString "join"))) (mCons (mCall 2 (C 5) (mCons (mVar 0) (mCons (mVar 3) (mNil)))) (mCons (mCall 2 (C 5) (mCons (mVar 0) (mCons (mVar 3) (mNil)))) (mNil)))))) (mNext))
    (mRet (mIf (asB (mBin dNe (mVar 3) (mLst (mNil)))) (mTup (mCons (mC (.str (Str.ofString "leave"))) (mCons (mCall 2 (C 5) (mCons (mVar 0) (mCons (mVar 3) (mNil)))) (mNil)))) (mC .non)))
def actS2 (C : Nat → MF) : MS := mSeq (mIfS (mAndT (asB (mBin dLt (mVar 2) (mC (.int 4)))) (mAndT (asB (mBin dNe (mVar 3) (mLst (mNil)))) (asB (mBin dNe (mVar 4) (mLst (mNil)))))) (mRet (mTup (mCons (mBin ixA (mLst (mCons (mC (.str (Str.ofString "go"))) (mCons (mC (.str (Str.ofString "put"))) (mNil)))) (mBin dMod (mVar 2) (mC (.int 2)))) (mCons (mCall 2 (C 5) (mCons (mVar 0) (mCons (mVar 3) (mNil)))) (mCons (mCall 2 (C 5) (mCons (mVar 0) (mCons (mVar 4) (mNil)))) (mNil)))))) (mNext)) (actS3 C)
def actS1 (C : Nat → MF) : MS := mSeq (mIfS (mAndT (asB (mBin dLt (mVar 2) (mC (.int 2)))) (asB (mBin dNe (mBin ixA (mVar 1) (mC (.str (Str.ofString "number")))) (mLst (mNil))))) (mSeq (mAsg (mCall 2 (C 5) (mCons (mVar 0) (mCons (mBin ixA (mVar 1) (mC (.str (Str.ofString "number")))) (mNil)))) (gN 5))
    (mRet (mBin ixA (mLst (mCons (mTup (mCons (mC (.str (Str.ofString "set"))) (mCons (mVar 5) (mCons (mCall 3 (C 7) (mCons (mVar 0) (mCons (mC (.int 2)) (mCons (mVar 1) (mNil))))) (mNil))))) (mCons (mTup (mCons (mC (.str (Str.ofString "draw"))) (mCons (mVar 5) (mNil)))) (mNil)))) (mVar 2)))) (mNext)) (actS2 C)
theorem m11_eq (C : Nat → MF) {p : Nat} {r : Int} {S S2 S' : Sto} {x y d : D} {E : PL.Env} (e1 : C 4 [.ref 2, .int 6] S = some (.int r, S2)) (p1 : ixA (.ref p) (.str (Str.ofString "figure")) S2 = some (x, S2)) (p2 : ixA (.ref p) (.str (Str.ofString "place")) S2 = some (y, S2))
    (f : actS1 C [some (.ref 2), some (.ref p), some (.int r), some x, some y, none] S2 = some (.rt d, E, S')) : m11 C [.ref 2, .ref p] S = some (d, S') := by
  show mBody 6 (mSeq _ (actS1 C)) _ _ = _
  simp [mBody, startE, mSeq, mPar, mCons, mCall, mVar, mC, mNil, mBin, e1, p1, p2, f]
theorem yd_eq {α : Type} {a b : Option α} (h : a = b) {Q : α → Prop} : Yd a Q ↔ Yd b Q := by rw [h]
theorem act_ok {ns : List Int} {e : Px} (j k : Nat) (S : Sto) (I : Iv ns e k S) (hk : k + 100 < 1000000000) :
    Yd (lv (j + 6) 11 [.ref 2, .ref e.p] S) fun p => NonTup p.1 ∧ Gv ns e k 100 600 4 S p := by
  obtain ⟨r, S2, e1, r0, r1, I2, G12⟩ := I.draw (by omega) (j + 4) 6 (by omega) (by omega)
  have hn := I2.po.n2
  have p1 := pool_fi I2.po
  have p2 := pool_pl I2.po
  have p3 := pool_nu I2.po
  show Yd (m11 (lv (j + 5)) _ S) _
  have hfi : ∀ T, Iv ns e (k + 1) T → dNe (.ref e.fi) (.ref T.length) (T ++ [.lst []]) = some (.bl (!e.fN.isEmpty), T ++ [.lst []]) := fun T IT => neNil IT.po.fi (fun x hx => (I2.gd x (.inr (.inr (.inr hx)))).2)
  have hpl : ∀ T, Iv ns e (k + 1) T → dNe (.ref e.pl) (.ref T.length) (T ++ [.lst []]) = some (.bl (!e.pN.isEmpty), T ++ [.lst []]) := fun T IT => neNil IT.po.pl (fun x hx => (I2.gd x (.inr (.inr (.inl hx)))).2)
  have hnu := neNil I2.po.nu (fun x hx => (I2.gd x (.inr (.inl hx))).2)
  have pk : ∀ (n k' : Nat) (T : Sto) (xs : List Str), Iv ns e k' T → k' < 1000000000 → T[n]? = some (.lst (xs.map D.str)) → n ≠ 2 → xs ≠ [] → xs.length < 1000 → ∃ (x : Str) (S' : Sto), lv (j + 5) 5 [.ref 2, .ref n] T = some (.str x, S') ∧ x ∈ xs ∧ Iv ns e (k' + 1) S' ∧ Go [e.q] T S' := fun n k' T xs IT hk' h1 h2 h3 h4 => IT.pick hk' (j + 3) n xs h1 h2 h3 h4
  have e1' : lv (j + 5) 4 [.ref 2, .int 6] S = some (.int r, S2) := e1
  -- leave, or nothing
  have last : ∀ T, Iv ns e (k + 1) T → Go [e.q] S T → ∃ (d : D) (S' : Sto), mIf (asB (mBin dNe (mVar 3) (mLst (mNil)))) (mTup (mCons (mC (.str (Str.ofString "leave"))) (mCons (mCall 2 (lv (j + 5) 5) (mCons (mVar 0) (mCons (mVar 3) (mNil)))) (mNil)))) (mC .non) [some (.ref 2), some (.ref e.p), some (.int r), some (.ref e.fi), some (.ref e.pl), none] T = some (d, S') ∧ NonTup d ∧ Gv ns e k 100 600 4 S (d, S') := by
    intro T IT GT
    have I3 := IT.new (T := [.lst []])
    by_cases a : e.fN = []
    · have q := hfi T IT
      rw [a] at q
      refine ⟨.non, _, ?_, .inl rfl, ⟨_, Ok.non.mono (by omega) (by omega)⟩, I3.mono (by omega), GT.trans Go.new⟩
      generalize lv (j + 5) = C
      simp [mBody, startE, mSeq, mAsg, mBin, mVar, mC, mCall, mCons, mNil, gN, mIfS, mIf, mTru, dTru, mRet, mTup, mAndT, mOrT, asB, dLt, dGt, dEq, sEq, PL.alt, iiI, iiB, mLst, newL, mNext, mNeg, mBlt, dSub, sz0, sz1, sz2, sz3, sz4, sz5, sz6, sz8, yd_some, q]
    · have q := hfi T IT
      have hb : (!e.fN.isEmpty) = true := by simpa using a
      rw [hb] at q
      obtain ⟨x, S5, f1, hx, I5, G5⟩ := pk e.fi _ _ e.fN I3 (by omega) I3.po.fi hn.2.2.2.2.1 a I3.ls.2.2.2
      refine ⟨.tup [.str (Str.ofString "leave"), .str x], S5, ?_, .inr ⟨_, rfl⟩, ⟨_, (Ok.two (Ok.of (W := 10) rfl (by decide +kernel)) (Ok.name I2.gd (.inr (.inr (.inr hx))))).mono (by omega) (by omega)⟩, I5.mono (by omega), (GT.trans Go.new).trans G5⟩
      generalize lv (j + 5) = C at f1 ⊢
      simp [mBody, startE, mSeq, mAsg, mBin, mVar, mC, mCall, mCons, mNil, gN, mIfS, mIf, mTru, dTru, mRet, mTup, mAndT, mOrT, asB, dLt, dGt, dEq, sEq, PL.alt, iiI, iiB, mLst, newL, mNext, mNeg, mBlt, dSub, sz0, sz1, sz2, sz3, sz4, sz5, sz6, sz8, yd_some, q, f1]
  have st3 : ∀ T, Iv ns e (k + 1) T → Go [e.q] S T → ∃ (d : D) (S' : Sto) (E : PL.Env), actS3 (lv (j + 5)) [some (.ref 2), some (.ref e.p), some (.int r), some (.ref e.fi), some (.ref e.pl), none] T = some (.rt d, E, S') ∧ NonTup d ∧ Gv ns e k 100 600 4 S (d, S') := by
    intro T IT GT
    have I3 := IT.new (T := [.lst []])
    by_cases c : r = 4
    · by_cases a : e.fN = []
      · obtain ⟨d, S', f1, g⟩ := last _ I3 (GT.trans Go.new)
        have q := hfi T IT
        rw [a] at q
        refine ⟨d, S', [some (.ref 2), some (.ref e.p), some (.int r), some (.ref e.fi), some (.ref e.pl), none], ?_, g⟩
        unfold actS3
        generalize mIf (asB (mBin dNe (mVar 3) (mLst (mNil)))) (mTup (mCons (mC (.str (Str.ofString "leave"))) (mCons (mCall 2 (lv (j + 5) 5) (mCons (mVar 0) (mCons (mVar 3) (mNil)))) (mNil)))) (mC .non) = X at f1 ⊢
        generalize lv (j + 5) = C
        subst c
        simp [mBody, startE, mSeq, mAsg, mBin, mVar, mC, mCall, mCons, mNil, gN, mIfS, mIf, mTru, dTru, mRet, mTup, mAndT, mOrT, asB, dLt, dGt, dEq, sEq, PL.alt, iiI, iiB, mLst, newL, mNext, mNeg, mBlt, dSub, sz0, sz1, sz2, sz3, sz4, sz5, sz6, sz8, yd_some, q, f1]
      · have q := hfi T IT
        have hb : (!e.fN.isEmpty) = true := by simpa using a
        rw [hb] at q
        obtain ⟨x, S5, f1, hx, I5, G5⟩ := pk e.fi _ _ e.fN I3 (by omega) I3.po.fi hn.2.2.2.2.1 a I3.ls.2.2.2
        obtain ⟨y, S6, f2, hy, I6, G6⟩ := pk e.fi _ _ e.fN I5 (by omega) I5.po.fi hn.2.2.2.2.1 a I3.ls.2.2.2
        refine ⟨.tup [.str (Str.ofString "join"), .str x, .str y], S6, [some (.ref 2), some (.ref e.p), some (.int r), some (.ref e.fi), some (.ref e.pl), none], ?_, .inr ⟨_, rfl⟩, ⟨_, (Ok.three (Ok.of (W := 10) rfl (by decide +kernel)) (Ok.name I2.gd (.inr (.inr (.inr hx)))) (Ok.name I2.gd (.inr (.inr (.inr hy))))).mono (by omega) (by omega)⟩, I6.mono (by omega), ((GT.trans Go.new).trans G5).trans G6⟩
        generalize lv (j + 5) = C at f1 f2 ⊢
        subst c
        simp [mBody, startE, mSeq, mAsg, mBin, mVar, mC, mCall, mCons, mNil, gN, mIfS, mIf, mTru, dTru, mRet, mTup, mAndT, mOrT, asB, dLt, dGt, dEq, sEq, PL.alt, iiI, iiB, mLst, newL, mNext, mNeg, mBlt, dSub, sz0, sz1, sz2, sz3, sz4, sz5, sz6, sz8, yd_some, actS3, q, f1, f2]
    · obtain ⟨d, S', f1, g⟩ := last _ IT GT
      refine ⟨d, S', [some (.ref 2), some (.ref e.p), some (.int r), some (.ref e.fi), some (.ref e.pl), none], ?_, g⟩
      unfold actS3
      generalize mIf (asB (mBin dNe (mVar 3) (mLst (mNil)))) (mTup (mCons (mC (.str (Str.ofString "leave"))) (mCons (mCall 2 (lv (j + 5) 5) (mCons (mVar 0) (mCons (mVar 3) (mNil)))) (mNil)))) (mC .non) = X at f1 ⊢
      generalize lv (j + 5) = C
      simp [mBody, startE, mSeq, mAsg, mBin, mVar, mC, mCall, mCons, mNil, gN, mIfS, mIf, mTru, dTru, mRet, mTup, mAndT, mOrT, asB, dLt, dGt, dEq, sEq, PL.alt, iiI, iiB, mLst, newL, mNext, mNeg, mBlt, dSub, sz0, sz1, sz2, sz3, sz4, sz5, sz6, sz8, yd_some, c, f1]
  have st2 : ∀ T, Iv ns e (k + 1) T → Go [e.q] S T → ∃ (d : D) (S' : Sto) (E : PL.Env), actS2 (lv (j + 5)) [some (.ref 2), some (.ref e.p), some (.int r), some (.ref e.fi), some (.ref e.pl), none] T = some (.rt d, E, S') ∧ NonTup d ∧ Gv ns e k 100 600 4 S (d, S') := by
    intro T IT GT
    have I3 := IT.new (T := [.lst []])
    by_cases c : r < 4
    · by_cases a : e.fN = []
      · obtain ⟨d, S', E, f1, g⟩ := st3 _ I3 (GT.trans Go.new)
        have q := hfi T IT
        rw [a] at q
        refine ⟨d, S', E, ?_, g⟩
        unfold actS2
        generalize actS3 (lv (j + 5)) = X at f1 ⊢
        generalize lv (j + 5) = C
        simp [mBody, startE, mSeq, mAsg, mBin, mVar, mC, mCall, mCons, mNil, gN, mIfS, mIf, mTru, dTru, mRet, mTup, mAndT, mOrT, asB, dLt, dGt, dEq, sEq, PL.alt, iiI, iiB, mLst, newL, mNext, mNeg, mBlt, dSub, sz0, sz1, sz2, sz3, sz4, sz5, sz6, sz8, yd_some, q, c, f1]
      · have q := hfi T IT
        have hb : (!e.fN.isEmpty) = true := by simpa using a
        rw [hb] at q
        have q2 := hpl _ I3
        have I4 := I3.new (T := [.lst []])
        simp only [List.append_assoc, List.cons_append, List.nil_append, List.length_append, List.length_cons, List.length_nil, Nat.zero_add] at q2 I4
        by_cases a2 : e.pN = []
        · rw [a2] at q2
          obtain ⟨d, S', E, f1, g⟩ := st3 _ I4 (GT.trans Go.new)
          refine ⟨d, S', E, ?_, g⟩
          unfold actS2
          generalize actS3 (lv (j + 5)) = X at f1 ⊢
          generalize lv (j + 5) = C
          simp [mBody, startE, mSeq, mAsg, mBin, mVar, mC, mCall, mCons, mNil, gN, mIfS, mIf, mTru, dTru, mRet, mTup, mAndT, mOrT, asB, dLt, dGt, dEq, sEq, PL.alt, iiI, iiB, mLst, newL, mNext, mNeg, mBlt, dSub, sz0, sz1, sz2, sz3, sz4, sz5, sz6, sz8, yd_some, q, q2, c, f1]
        · have hb2 : (!e.pN.isEmpty) = true := by simpa using a2
          rw [hb2] at q2
          obtain ⟨w, f0, m⟩ := ixL (T ++ [.lst [], .lst []]) ([Str.ofString "go", Str.ofString "put"].map D.str) (r % 2) (Int.emod_nonneg _ (by decide)) (Int.emod_lt_of_pos _ (by decide))
          obtain ⟨pw, okw⟩ := ok_lits (W := 10) m (by decide +kernel)
          have I5 := I4.new (T := [.lst ([Str.ofString "go", Str.ofString "put"].map D.str)])
          obtain ⟨x, S5, f1, hx, I6, G5⟩ := pk e.fi _ _ e.fN I5 (by omega) I5.po.fi hn.2.2.2.2.1 a I3.ls.2.2.2
          obtain ⟨y, S6, f2, hy, I7, G6⟩ := pk e.pl _ _ e.pN I6 (by omega) I6.po.pl hn.2.2.2.1 a2 I3.ls.2.2.1
          refine ⟨.tup [w, .str x, .str y], S6, [some (.ref 2), some (.ref e.p), some (.int r), some (.ref e.fi), some (.ref e.pl), none], ?_, .inr ⟨_, rfl⟩, ⟨_, (Ok.three okw (Ok.name I2.gd (.inr (.inr (.inr hx)))) (Ok.name I2.gd (.inr (.inr (.inl hy))))).mono (by omega) (by omega)⟩, I7.mono (by omega), (((GT.trans Go.new).trans Go.new).trans G5).trans G6⟩
          generalize lv (j + 5) = C at f1 f2 ⊢
          simp only [List.append_assoc, List.cons_append, List.nil_append, List.length_append, List.length_cons, List.length_nil, Nat.zero_add, List.map_cons, List.map_nil] at f0 f1
          simp [mBody, startE, mSeq, mAsg, mBin, mVar, mC, mCall, mCons, mNil, gN, mIfS, mIf, mTru, dTru, mRet, mTup, mAndT, mOrT, asB, dLt, dGt, dEq, sEq, PL.alt, iiI, iiB, mLst, newL, mNext, mNeg, mBlt, dSub, sz0, sz1, sz2, sz3, sz4, sz5, sz6, sz8, yd_some, actS2, q, q2, c, dMod, f0, f1, f2]
    · obtain ⟨d, S', E, f1, g⟩ := st3 _ IT GT
      refine ⟨d, S', E, ?_, g⟩
      unfold actS2
      generalize actS3 (lv (j + 5)) = X at f1 ⊢
      generalize lv (j + 5) = C
      simp [mBody, startE, mSeq, mAsg, mBin, mVar, mC, mCall, mCons, mNil, gN, mIfS, mIf, mTru, dTru, mRet, mTup, mAndT, mOrT, asB, dLt, dGt, dEq, sEq, PL.alt, iiI, iiB, mLst, newL, mNext, mNeg, mBlt, dSub, sz0, sz1, sz2, sz3, sz4, sz5, sz6, sz8, yd_some, c, f1]
  have I3 := I2.new (T := [.lst []])
  have I3 := I2.new (T := [.lst []])
  have st1 : ∃ (d : D) (S' : Sto) (E : PL.Env), actS1 (lv (j + 5)) [some (.ref 2), some (.ref e.p), some (.int r), some (.ref e.fi), some (.ref e.pl), none] S2 = some (.rt d, E, S') ∧ NonTup d ∧ Gv ns e k 100 600 4 S (d, S') := by
    by_cases c : r < 2
    · by_cases a : e.nN = []
      · obtain ⟨d, S', E, f1, g⟩ := st2 _ I3 (G12.trans Go.new)
        rw [a] at hnu
        refine ⟨d, S', E, ?_, g⟩
        unfold actS1
        generalize actS2 (lv (j + 5)) = X at f1 ⊢
        generalize lv (j + 5) = C
        simp [mBody, startE, mSeq, mAsg, mBin, mVar, mC, mCall, mCons, mNil, gN, mIfS, mIf, mTru, dTru, mRet, mTup, mAndT, mOrT, asB, dLt, dGt, dEq, sEq, PL.alt, iiI, iiB, mLst, newL, mNext, mNeg, mBlt, dSub, sz0, sz1, sz2, sz3, sz4, sz5, sz6, sz8, yd_some, p3, hnu, c, f1]
      · have hb : (!e.nN.isEmpty) = true := by simpa using a
        rw [hb] at hnu
        obtain ⟨x, S5, f1, hx, I4, G5⟩ := pk e.nu _ _ e.nN I3 (by omega) I3.po.nu hn.2.2.1 a I3.ls.2.1
        obtain ⟨⟨y, S6⟩, f2, ⟨py, oky⟩, I5, G6⟩ := sum_ok j 2 _ S5 I4 (by omega)
        dsimp only at oky I5 G6
        have f2' : lv (j + 5) 7 [.ref 2, .int 2, .ref e.p] S5 = some (y, S6) := f2
        have p4 := pool_nu I3.po
        obtain ⟨w, f0, m⟩ := ixL S6 [.tup [.str (Str.ofString "set"), .str x, y], .tup [.str (Str.ofString "draw"), .str x]] r r0 (by simp; omega)
        have hw : (∃ xs, w = .tup xs) ∧ ∃ p, Ok 600 4 w p := by
          simp only [List.mem_cons, List.not_mem_nil, or_false] at m
          rcases m with rfl | rfl
          · exact ⟨⟨_, rfl⟩, _, (Ok.three ((Ok.of (W := 10) rfl (by decide +kernel)).mono (Nat.le_refl _) (Nat.zero_le _)) ((Ok.name I2.gd (.inr (.inl hx))).mono (Nat.le_refl _) (Nat.zero_le _)) oky).mono (by omega) (by omega)⟩
          · exact ⟨⟨_, rfl⟩, _, (Ok.two (Ok.of (W := 10) rfl (by decide +kernel)) (Ok.name I2.gd (.inr (.inl hx)))).mono (by omega) (by omega)⟩
        refine ⟨w, _, [some (.ref 2), some (.ref e.p), some (.int r), some (.ref e.fi), some (.ref e.pl), some (.str x)], ?_, .inr hw.1, hw.2, (I5.new (T := [.lst [.tup [.str (Str.ofString "set"), .str x, y], .tup [.str (Str.ofString "draw"), .str x]]])).mono (by omega), (((G12.trans Go.new).trans G5).trans G6).trans Go.new⟩
        unfold actS1
        generalize actS2 (lv (j + 5)) = X
        generalize lv (j + 5) = C at f1 f2' ⊢
        simp [mBody, startE, mSeq, mAsg, mBin, mVar, mC, mCall, mCons, mNil, gN, mIfS, mIf, mTru, dTru, mRet, mTup, mAndT, mOrT, asB, dLt, dGt, dEq, sEq, PL.alt, iiI, iiB, mLst, newL, mNext, mNeg, mBlt, dSub, sz0, sz1, sz2, sz3, sz4, sz5, sz6, sz8, yd_some, p3, hnu, c, p4, f1, f2', f0]
    · obtain ⟨d, S', E, f1, g⟩ := st2 _ I2 G12
      refine ⟨d, S', E, ?_, g⟩
      unfold actS1
      generalize actS2 (lv (j + 5)) = X at f1 ⊢
      generalize lv (j + 5) = C
      simp [mBody, startE, mSeq, mAsg, mBin, mVar, mC, mCall, mCons, mNil, gN, mIfS, mIf, mTru, dTru, mRet, mTup, mAndT, mOrT, asB, dLt, dGt, dEq, sEq, PL.alt, iiI, iiB, mLst, newL, mNext, mNeg, mBlt, dSub, sz0, sz1, sz2, sz3, sz4, sz5, sz6, sz8, yd_some, c, f1]
  obtain ⟨d, S', E, f1, nt, g⟩ := st1
  exact ⟨(d, S'), m11_eq (lv (j + 5)) e1' p1 p2 f1, nt, g⟩
def YsIn (N ys : List Str) : Prop := (∀ y ∈ ys, y ∈ N) ∧ ys.length ≤ 2
theorem next_ok {ns : List Int} {e : Px} (j k : Nat) (S : Sto) (I : Iv ns e k S) (hs : e.sN ≠ []) (hk : k + 3 < 1000000000) :
    ∃ (w : D) (ys : List Str) (S' : Sto), lv (j + 3) 12 [.ref 2, .ref e.p] S = some (.tup (w :: ys.map D.str), S') ∧ YsIn e.sN ys ∧ Gv ns e k 3 60 1 S (.tup (w :: ys.map D.str), S') := by
  obtain ⟨r, S2, e1, r0, r1, I2, G12⟩ := I.draw (by omega) (j + 1) 5 (by omega) (by omega)
  have hn := I2.po.n2
  show ∃ (w : D) (ys : List Str) (S' : Sto), m12 (lv (j + 2)) _ S = _ ∧ _
  have e1' : lv (j + 2) 4 [.ref 2, .int 5] S = some (.int r, S2) := e1
  have p1 := pool_sc I2.po
  obtain ⟨x, S5, f1, hx, I5, G5⟩ := I2.pick (by omega) j e.sc e.sN I2.po.sc hn.2.1 hs I2.ls.1
  obtain ⟨y, S6, f2, hy, I6, G6⟩ := I5.pick (by omega) j e.sc e.sN I5.po.sc hn.2.1 hs I2.ls.1
  have p2 := pool_sc I5.po
  generalize lv (j + 2) = C at e1' f1 f2 ⊢
  by_cases c1 : r = 0
  · refine ⟨.str (Str.ofString "back"), [], S2, ?_, ⟨by simp, by simp⟩, ⟨_, (Ok.one (Ok.of (W := 10) rfl (by decide +kernel))).mono (by omega) (by omega)⟩, I2.mono (by omega), G12⟩
    simp [mBody, startE, mSeq, mAsg, mBin, mVar, mC, mCall, mCons, mNil, gN, mIfS, mIf, mTru, dTru, mRet, mTup, mAndT, mOrT, asB, dLt, dGt, dEq, sEq, PL.alt, iiI, iiB, mLst, newL, mNext, mNeg, mBlt, dSub, sz0, sz1, sz2, sz3, sz4, sz5, sz6, sz8, yd_some, m12, e1', c1]
  · by_cases c2 : r = 1
    · subst c2
      refine ⟨.str (Str.ofString "into"), [x, y], S6, ?_, ⟨by simp [hx, hy], by simp⟩, ⟨_, (Ok.three (Ok.of (W := 10) rfl (by decide +kernel)) (Ok.name I2.gd (.inl hx)) (Ok.name I2.gd (.inl hy))).mono (by omega) (by omega)⟩, I6.mono (by omega), (G12.trans G5).trans G6⟩
      simp [mBody, startE, mSeq, mAsg, mBin, mVar, mC, mCall, mCons, mNil, gN, mIfS, mIf, mTru, dTru, mRet, mTup, mAndT, mOrT, asB, dLt, dGt, dEq, sEq, PL.alt, iiI, iiB, mLst, newL, mNext, mNeg, mBlt, dSub, sz0, sz1, sz2, sz3, sz4, sz5, sz6, sz8, yd_some, m12, e1', p1, f1, p2, f2]
    · refine ⟨.str (Str.ofString "to"), [x], S5, ?_, ⟨by simp [hx], by simp⟩, ⟨_, (Ok.two (Ok.of (W := 10) rfl (by decide +kernel)) (Ok.name I2.gd (.inl hx))).mono (by omega) (by omega)⟩, I5.mono (by omega), G12.trans G5⟩
      simp [mBody, startE, mSeq, mAsg, mBin, mVar, mC, mCall, mCons, mNil, gN, mIfS, mIf, mTru, dTru, mRet, mTup, mAndT, mOrT, asB, dLt, dGt, dEq, sEq, PL.alt, iiI, iiB, mLst, newL, mNext, mNeg, mBlt, dSub, sz0, sz1, sz2, sz3, sz4, sz5, sz6, sz8, yd_some, m12, e1', c1, c2, p1, f1]
end K11
end

section
set_option Elab.async false
set_option linter.all false
set_option maxRecDepth 100000
set_option maxHeartbeats 8000000
namespace K11
open PySem PySem.Spec PyProof.Rows L2 PL
/-- a comprehension that turns nothing but its own list -/
theorem mLcL_pure {nx : Nxt} {t : MT} {el : ME} {v : Nat} {S0 : Sto} {xs : List D} {f : D → Bool} {g : D → D} {env : PL.Env}
    (hnx : ∀ i acc, nx i (S0 ++ [.lst acc]) = some xs[i]?)
    (ht : ∀ x ∈ xs, ∀ acc, t (env.set v (some x)) (S0 ++ [.lst acc]) = some (f x, S0 ++ [.lst acc]))
    (he : ∀ x ∈ xs, f x = true → ∀ acc, el (env.set v (some x)) (S0 ++ [.lst acc]) = some (g x, S0 ++ [.lst acc])) :
    ∀ (k i : Nat) (acc : List D), i + k = xs.length → acc.length + k ≤ sizeLine →
      mLcL nx (gN v) t el S0.length (k + 1) i env (S0 ++ [.lst acc]) = some (S0 ++ [.lst (acc ++ ((xs.drop i).filter f).map g)]) := by
  intro k
  induction k with
  | zero =>
    intro i acc hi _
    have h : xs[i]? = none := List.getElem?_eq_none (by omega)
    have h2 : xs.drop i = [] := List.drop_eq_nil_of_le (by omega)
    simp [mLcL, hnx, h, h2]
  | succ k ih =>
    intro i acc hi hl
    have hlt : i < xs.length := by omega
    have h : xs[i]? = some xs[i] := List.getElem?_eq_getElem hlt
    have hd : xs.drop i = xs[i] :: xs.drop (i + 1) := List.drop_eq_getElem_cons hlt
    have hm : xs[i] ∈ xs := List.getElem_mem hlt
    unfold mLcL
    rw [hnx, h, hd]
    simp only [Option.bind_some, gN, ht _ hm]
    by_cases c : f xs[i] = true
    · have hn : (S0 ++ [Ob.lst acc])[S0.length]? = some (.lst acc) := by simp
      have hs : (S0 ++ [Ob.lst acc]).set S0.length (.lst (acc ++ [g xs[i]])) = S0 ++ [.lst (acc ++ [g xs[i]])] := by simp
      have h3 : acc.length < sizeLine := by omega
      rw [if_pos c, he _ hm c]
      simp only [Option.bind_some, hn, hs]
      rw [if_pos h3, ih (i + 1) (acc ++ [g xs[i]]) (by omega) (by simp; omega), List.filter_cons_of_pos c, List.map_cons, List.append_assoc, List.singleton_append]
    · rw [if_neg c, ih (i + 1) acc (by omega) (by omega), List.filter_cons_of_neg c]
theorem lc_tup {m : ME} {t : MT} {el : ME} {v : Nat} {S : Sto} {xs : List D} {f : D → Bool} {g : D → D} {env : PL.Env} {vs : List Nat} (h : m env S = some (.tup xs, S)) (hl : xs.length ≤ sizeLine)
    (ht : ∀ x ∈ xs, ∀ acc, t ((wipeE env vs).set v (some x)) (S ++ [.lst acc]) = some (f x, S ++ [.lst acc]))
    (he : ∀ x ∈ xs, f x = true → ∀ acc, el ((wipeE env vs).set v (some x)) (S ++ [.lst acc]) = some (g x, S ++ [.lst acc])) :
    mLc (mItr m) (gN v) t el vs env S = some (.ref S.length, S ++ [.lst ((xs.filter f).map g)]) := by
  have e := mLcL_pure (nx := nxT xs) (S0 := S) (v := v) (fun i acc => rfl) ht he xs.length 0 [] (by omega) (by simpa using hl)
  have e2 : mItr m env S = some ((xs.length + 1, nxT xs), S) := by
    unfold mItr
    rw [h]
    rfl
  unfold mLc
  rw [e2, Option.bind_some]
  dsimp only
  rw [e, Option.bind_some]
  simp
theorem lc_ref {m : ME} {t : MT} {el : ME} {v n : Nat} {S : Sto} {xs : List D} {f : D → Bool} {g : D → D} {env : PL.Env} {vs : List Nat} (h : m env S = some (.ref n, S)) (hn : S[n]? = some (.lst xs)) (hl : xs.length ≤ sizeLine)
    (ht : ∀ x ∈ xs, ∀ acc, t ((wipeE env vs).set v (some x)) (S ++ [.lst acc]) = some (f x, S ++ [.lst acc]))
    (he : ∀ x ∈ xs, f x = true → ∀ acc, el ((wipeE env vs).set v (some x)) (S ++ [.lst acc]) = some (g x, S ++ [.lst acc])) :
    mLc (mItr m) (gN v) t el vs env S = some (.ref S.length, S ++ [.lst ((xs.filter f).map g)]) := by
  have hlt := (List.getElem?_eq_some_iff.mp hn).1
  have e := mLcL_pure (nx := nxL n) (S0 := S) (v := v) (xs := xs) (fun i acc => by
    have : (S ++ [Ob.lst acc])[n]? = some (.lst xs) := by rw [List.getElem?_append_left hlt]; exact hn
    simp [nxL, seqAt, this]) ht he xs.length 0 [] (by omega) (by simpa using hl)
  have e2 : mItr m env S = some ((xs.length + 1, nxL n), S) := by
    unfold mItr
    rw [h]
    simp [itrOf, seqAt, hn]
  unfold mLc
  rw [e2, Option.bind_some]
  dsimp only
  rw [e, Option.bind_some]
  simp
theorem tuple_new (S : Sto) (xs : List D) : gTuple [.ref S.length] (S ++ [.lst xs]) = some (.tup xs, S ++ [.lst xs]) := by
  simp [gTuple, seqAt]
def someD : D → Bool
  | .non => false
  | _ => true
theorem isNot_py {d : D} {p : PyData} (h : pyD d = some p) (S : Sto) : dIsNotO d .non S = some (.bl (someD d), S) := by
  cases d <;> first | rfl | (simp [pyD] at h)
theorem OkL.filter {m : Nat} (f : D → Bool) : ∀ {W : Nat} {ds : List D} {ps : List PyData}, OkL W m ds ps → ∃ qs, OkL W m (ds.filter f) qs
  | W, [], ps, h => ⟨[], h.mono (Nat.le_refl _) (Nat.le_refl _) |> fun h => by
      have := h.py
      simp [pyDs] at this
      subst this
      exact h⟩
  | W, d :: ds, ps, h => by
    have hp := h.py
    have c : pyDs (d :: ds) = (pyD d).bind fun a => (pyDs ds).map (a :: ·) := by rw [pyDs]
    rw [c] at hp
    obtain ⟨p, e1, e2⟩ := Option.bind_eq_some_iff.mp hp
    obtain ⟨qs, e3, e4⟩ := Option.map_eq_some_iff.mp e2
    subst e4
    have h1 := h.sh
    have h2 := h.nd
    have h3 := h.dp
    have h4 := h.ln
    rw [PyData.depthAll.eq_2] at h3
    have h5 : wts (PyData.shownAll (p :: qs)) = p.shown.length + 2 + wts (PyData.shownAll qs) := by
      rw [PyData.shownAll.eq_2]
      simp [wts]
    simp only [PyData.showableAll, PyData.hasDictAll, Bool.and_eq_true, Bool.or_eq_false_iff] at h1 h2
    have hd : Ok p.shown.length m d p := ⟨e1, h1.1, h2.1, Nat.le_trans (Nat.le_max_left ..) h3, Nat.le_refl _⟩
    have ht : OkL (wts (PyData.shownAll qs)) m ds qs := ⟨e3, h1.2, h2.2, Nat.le_trans (Nat.le_max_right ..) h3, Nat.le_refl _⟩
    obtain ⟨rs, hr⟩ := OkL.filter f ht
    by_cases cc : f d = true
    · rw [List.filter_cons_of_pos cc]
      exact ⟨_, (OkL.cons hd hr).mono (by omega) (Nat.le_refl _)⟩
    · rw [List.filter_cons_of_neg cc]
      exact ⟨_, hr.mono (by omega) (Nat.le_refl _)⟩
theorem OkL.all {W m : Nat} : ∀ {ds : List D} {ps : List PyData}, OkL W m ds ps → ∀ d ∈ ds, ∃ p, pyD d = some p := by
  intro ds ps h d hd
  have : ∀ (ds : List D) (ps : List PyData), pyDs ds = some ps → ∀ d ∈ ds, ∃ p, pyD d = some p := by
    intro ds
    induction ds with
    | nil => intro ps _ d hd; cases hd
    | cons x xs ih =>
      intro ps hp d hd
      have c : pyDs (x :: xs) = (pyD x).bind fun a => (pyDs xs).map (a :: ·) := by rw [pyDs]
      rw [c] at hp
      obtain ⟨p, e1, e2⟩ := Option.bind_eq_some_iff.mp hp
      obtain ⟨qs, e3, e4⟩ := Option.map_eq_some_iff.mp e2
      rcases List.mem_cons.mp hd with rfl | hd
      · exact ⟨p, e1⟩
      · exact ih qs e3 d hd
  exact this ds ps h.py d hd
theorem OkL.len {W m : Nat} {ds : List D} {ps : List PyData} (h : OkL W m ds ps) : 2 * ds.length ≤ W := by
  have h1 : ∀ (ds : List D) (ps : List PyData), pyDs ds = some ps → ds.length = ps.length := by
    intro ds
    induction ds with
    | nil => intro ps hp; simp [pyDs] at hp; subst hp; rfl
    | cons x xs ih =>
      intro ps hp
      have c : pyDs (x :: xs) = (pyD x).bind fun a => (pyDs xs).map (a :: ·) := by rw [pyDs]
      rw [c] at hp
      obtain ⟨p, e1, e2⟩ := Option.bind_eq_some_iff.mp hp
      obtain ⟨qs, e3, e4⟩ := Option.map_eq_some_iff.mp e2
      subst e4
      simp [ih qs e3]
  have h2 : ∀ ps : List PyData, 2 * ps.length ≤ wts (PyData.shownAll ps) := by
    intro ps
    induction ps with
    | nil => simp
    | cons p ps ih =>
      rw [PyData.shownAll.eq_2]
      simp only [wts, List.map_cons, List.sum_cons, List.length_cons] at ih ⊢
      omega
  have := h.ln
  have := h2 ps
  rw [h1 ds ps h.py]
  omega
/-- a choice as it stands in a story: what it leads to -/
structure Chc where
  a : D
  b : D
  c : D
  d : D
  f : D
  w : D
  ys : List Str
def Chc.toD (x : Chc) : D := .tup [x.a, x.b, x.c, x.d, x.f, .tup (x.w :: x.ys.map D.str)]
def triesE (C : Nat → MF) : ME := mLc (mR1 (mCons (mCall 2 (C 4) (mCons (mVar 0) (mCons (mC (.int 3)) (mNil)))) (mNil))) (gN 4) (mYes) (mCall 2 (C 11) (mCons (mVar 0) (mCons (mVar 2) (mNil)))) [4]
theorem m13_eq (C : Nat → MF) {x0 nm p : D} {S S1 S2 S3 S4 S5 : Sto} {n1 : Nat} {ds : List D} {lab tst nxt : D} {r : Int} (h1 : triesE C [some x0, some nm, some p, none, none, none, none, none, none] S = some (.ref n1, S1)) (h2 : S1[n1]? = some (.lst ds)) (hl : ds.length ≤ sizeLine) (hp : ∀ d ∈ ds, ∃ q, pyD d = some q)
    (h3 : C 9 [x0, .int 1, p, .bl false] (S1 ++ [.lst (ds.filter someD)]) = some (lab, S2)) (h4 : C 8 [x0, .int 2, p] S2 = some (tst, S3)) (h5 : C 4 [x0, .int 3] S3 = some (.int r, S4)) (h6 : C 12 [x0, p] S4 = some (nxt, S5)) :
    m13 C [x0, nm, p] S = some (.tup [nm, lab, tst, .bl (decide (r = 0)), .tup (ds.filter someD), nxt], S5) := by
  have e2 := lc_ref (m := mVar 3) (t := asB (mBin dIsNotO (mVar 6) (mC .non))) (el := mVar 6) (v := 6) (vs := [6]) (f := someD) (g := id) (env := [some x0, some nm, some p, some (.ref n1), none, none, none, none, none]) (S := S1) (xs := ds) (by simp [mVar]) h2 hl
    (fun x hx acc => by
      obtain ⟨q, hq⟩ := hp x hx
      simp [asB, mBin, mVar, wipeE, mC, isNot_py hq])
    (fun x hx _ acc => by simp [mVar, wipeE])
  rw [List.map_id] at e2
  show mBody 9 (mSeq (mAsg (triesE C) (gN 3)) (mSeq (mAsg (mBlt gTuple (mCons (mLc (mItr (mVar 3)) (gN 6) (asB (mBin dIsNotO (mVar 6) (mC .non))) (mVar 6) [6]) (mNil))) (gN 5)) _)) _ _ = _
  generalize triesE C = X at h1 ⊢
  generalize mLc (mItr (mVar 3)) (gN 6) (asB (mBin dIsNotO (mVar 6) (mC .non))) (mVar 6) [6] = Y at e2 ⊢
  have e3 := tuple_new S1 (ds.filter someD)
  simp only [mBody, startE, mSeq, mAsg, mPar]
  simp [mBody, startE, mSeq, mAsg, mBin, mVar, mC, mCall, mCons, mNil, gN, mIfS, mIf, mTru, dTru, mRet, mTup, mAndT, mOrT, asB, dLt, dGt, dEq, sEq, PL.alt, iiI, iiB, mLst, newL, mNext, mNeg, mBlt, dSub, sz0, sz1, sz2, sz3, sz4, sz5, sz6, sz8, yd_some, h1, e2, e3, h3, h4, h5, h6]
theorem Iv.newGo {q : Nat} {S T : Sto} : Go [q] S (S ++ T) := Go.new
theorem len_filter (f : D → Bool) (ds : List D) : (ds.filter f).length ≤ ds.length := List.length_filter_le ..
theorem choice_ok {ns : List Int} {e : Px} (j k : Nat) (S : Sto) (nm : Str) (hnm : okB 12 (.str nm) = true) (I : Iv ns e k S) (hs : e.sN ≠ []) (hk : k + 3000 < 1000000000) :
    ∃ (c : Chc) (S' : Sto), lv (j + 11) 13 [.ref 2, .str nm, .ref e.p] S = some (c.toD, S') ∧ YsIn e.sN c.ys ∧ Gv ns e k 3000 25000 10 S (c.toD, S') := by
  obtain ⟨r0, S1, e1, r00, r01, I1, G1⟩ := I.draw (by omega) (j + 9) 3 (by omega) (by omega)
  obtain ⟨mm, rfl⟩ : ∃ mm : Nat, r0 = (mm : Int) := ⟨r0.toNat, by omega⟩
  obtain ⟨S2, ds, qs, f1, f2, f3, I2, G2⟩ := lcR_ok (ns := ns) (e := e) (a := mCons (mCall 2 (lv (j + 10) 4) (mCons (mVar 0) (mCons (mC (.int 3)) (mNil)))) (mNil))
    (el := mCall 2 (lv (j + 10) 11) (mCons (mVar 0) (mCons (mVar 2) (mNil)))) (env := [some (.ref 2), some (.str nm), some (.ref e.p), none, none, none, none, none, none])
    (S := S) (S1 := S1) (k := k + 1) (c := 100) (W := 600) (m := 4) (v := 4) (mm := mm) (by
      generalize lv (j + 10) = C at e1 ⊢
      simp [mCons, mCall, mVar, mC, mNil, e1]) (by omega) I1 (fun i k' T IT hT => by
      obtain ⟨x, ex, _, gx⟩ := act_ok (j + 4) k' T IT (by omega)
      have ex' : lv (j + 10) 11 [.ref 2, .ref e.p] T = some x := ex
      refine ⟨x, ?_, gx⟩
      generalize lv (j + 10) = C at ex' ⊢
      simp [mCall, mCons, mVar, mNil, wipeE, ex'])
  have hlen : ds.length ≤ sizeLine := by
    have h1 := f3.len
    have h2 : mm * (600 + 2) ≤ 2 * (600 + 2) := Nat.mul_le_mul_right _ (by omega)
    have h3 : 2000 ≤ sizeLine := by decide
    omega
  obtain ⟨qf, okf⟩ := f3.filter someD
  have I3 := I2.new (T := [.lst (ds.filter someD)])
  obtain ⟨ls, S4, e4, ⟨ql, okl⟩, I4, G4⟩ := pieces_of (piece_ok (ns := ns) (e := e) j 1) false _ _ I3 (by omega)
  obtain ⟨⟨t, S5⟩, e5, ⟨qt, okt⟩, I5, G5⟩ := test_ok (j + 3) 2 _ S4 I4 (by omega)
  dsimp only at okt I5 G5
  obtain ⟨r, S6, e6, r60, r61, I6, G6⟩ := I5.draw (by omega) (j + 9) 3 (by omega) (by omega)
  obtain ⟨w, ys, S7, e7, hy, ⟨qn, okn⟩, I7, G7⟩ := next_ok (j + 7) _ S6 I6 hs (by omega)
  dsimp only at okn I7 G7
  have e5' : lv (j + 10) 8 [.ref 2, .int 2, .ref e.p] S4 = some (t, S5) := e5
  have okb : Ok 8 0 (.bl (decide (r = 0))) (.bool (decide (r = 0))) := by
    cases decide (r = 0)
    · exact Ok.of rfl (by decide +kernel)
    · exact Ok.of rfl (by decide +kernel)
  have z : ∀ {m n : Nat}, m ≤ n → m ≤ n := id
  have ht := Ok.tup (OkL.cons ((Ok.word hnm).mono (Nat.le_refl _) (Nat.zero_le 9)) (OkL.cons (okl.mono (Nat.le_refl _) (by omega)) (OkL.cons (okt.mono (Nat.le_refl _) (by omega)) (OkL.cons (okb.mono (Nat.le_refl _) (Nat.zero_le 9)) (OkL.cons ((Ok.tup okf).mono (Nat.le_refl _) (by omega)) (OkL.cons (okn.mono (Nat.le_refl _) (by omega)) OkL.nil))))))
  refine ⟨⟨.str nm, .tup ls, t, .bl (decide (r = 0)), .tup (ds.filter someD), w, ys⟩, S7, ?_, hy, ⟨_, ht.mono (by omega) (by omega)⟩, I7.mono (by omega), ((((((G1.trans G2).trans Go.new).trans G4).trans G5).trans G6).trans G7)⟩
  show m13 (lv (j + 10)) _ S = _
  exact m13_eq (lv (j + 10)) f1 f2 hlen f3.all e4 e5' e6 e7
end K11
end

section
set_option Elab.async false
set_option linter.all false
set_option maxRecDepth 100000
set_option maxHeartbeats 8000000
namespace K11
open PySem PySem.Spec PyProof.Rows L2 PL
/-- what a comprehension makes of a list: some left out where sk holds -/
inductive Emb (R : D → D → Prop) (sk : Prop) : List D → List D → Prop
  | nil : Emb R sk [] []
  | skip {x : D} {xs ys : List D} : sk → Emb R sk xs ys → Emb R sk (x :: xs) ys
  | take {x y : D} {xs ys : List D} : R x y → Emb R sk xs ys → Emb R sk (x :: xs) (y :: ys)
theorem Emb.mem {R : D → D → Prop} {sk : Prop} {xs ys : List D} (h : Emb R sk xs ys) : ∀ y ∈ ys, ∃ x ∈ xs, R x y := by
  induction h with
  | nil => intro y hy; cases hy
  | skip _ _ ih => intro y hy; obtain ⟨x, hx, r⟩ := ih y hy; exact ⟨x, List.mem_cons_of_mem _ hx, r⟩
  | take r _ ih =>
    intro y hy
    rcases List.mem_cons.mp hy with rfl | hy
    · exact ⟨_, List.mem_cons_self .., r⟩
    · obtain ⟨x, hx, r⟩ := ih y hy
      exact ⟨x, List.mem_cons_of_mem _ hx, r⟩
theorem comp2 {ns : List Int} {e : Px} {nx : Nxt} {g : MG} {t : MT} {el : ME} {env : PL.Env} {E : D → PL.Env} {c W m n K : Nat} {xs : List D} {R : D → D → Prop} {sk : Prop} {Kp : Sto → Prop} (ha : Apart e n)
    (hkp : ∀ T T', Kp T → Go [e.q, n] T T' → Kp T') (hnx : ∀ i T, Kp T → nx i T = some xs[i]?) (hg : ∀ x ∈ xs, ∀ T, g x env T = some (E x, T)) (hs : xs.length ≤ sizeLine)
    (hel : ∀ x ∈ xs, ∀ (k : Nat) (T : Sto), Iv ns e k T → Kp T → k + c ≤ K →
      (sk ∧ ∃ T', t (E x) T = some (false, T') ∧ Iv ns e (k + c) T' ∧ Go [e.q] T T') ∨
      (∃ T1 y T', t (E x) T = some (true, T1) ∧ el (E x) T1 = some (y, T') ∧ R x y ∧ (∃ p, Ok W m y p) ∧ Iv ns e (k + c) T' ∧ Go [e.q] T T')) :
    ∀ (j i k V : Nat) (T : Sto) (acc : List D) (ps : List PyData), i + j = xs.length → Iv ns e k T → Kp T → k + c * j ≤ K → T[n]? = some (.lst acc) → OkL V m acc ps → acc.length ≤ i →
      ∃ T' ys qs, mLcL nx g t el n (j + 1) i env T = some T' ∧ T'[n]? = some (.lst (acc ++ ys)) ∧ Emb R sk (xs.drop i) ys ∧ OkL (V + j * (W + 2)) m (acc ++ ys) qs ∧ Iv ns e (k + c * j) T' ∧ Kp T' ∧ Go [e.q, n] T T' := by
  intro j
  induction j with
  | zero =>
    intro i k V T acc ps hi I kp hk hT ok hl
    have h : xs[i]? = none := List.getElem?_eq_none (by omega)
    have h2 : xs.drop i = [] := List.drop_eq_nil_of_le (by omega)
    refine ⟨T, [], ps, ?_, by simpa using hT, by rw [h2]; exact .nil, by simpa using ok, by simpa using I, kp, Go.refl⟩
    simp [mLcL, hnx i T kp, h]
  | succ j ih =>
    intro i k V T acc ps hi I kp hk hT ok hl
    have hc : c * (j + 1) = c * j + c := Nat.mul_succ c j
    have hw : (j + 1) * (W + 2) = j * (W + 2) + (W + 2) := Nat.succ_mul j (W + 2)
    have hlt : i < xs.length := by omega
    have h : xs[i]? = some xs[i] := List.getElem?_eq_getElem hlt
    have hd : xs.drop i = xs[i] :: xs.drop (i + 1) := List.drop_eq_getElem_cons hlt
    have hm : xs[i] ∈ xs := List.getElem_mem hlt
    have keep : ∀ {T1 : Sto}, Go [e.q] T T1 → T1[n]? = some (.lst acc) := fun G => G.keep _ _ (by have := ha.n2; omega) (by simpa using ha.q) hT
    rw [hd]
    rcases hel _ hm k T I kp (by omega) with ⟨hsk, T1, e1, I1, G1⟩ | ⟨T1, y, T2, e1, e2, r, ⟨p, okp⟩, I2, G2⟩
    · have G1' := G1.more (Y := [e.q, n]) (by simp)
      obtain ⟨T', ys, qs, f1, f2, f3, f4, f5, f6, f7⟩ := ih (i + 1) (k + c) V T1 acc ps (by omega) I1 (hkp _ _ kp G1') (by omega) (keep G1) ok (by omega)
      refine ⟨T', ys, qs, ?_, f2, .skip hsk f3, f4.mono (by omega) (Nat.le_refl _), f5.mono (by omega), f6, G1'.trans f7⟩
      unfold mLcL
      rw [hnx i T kp, h]
      simp only [Option.bind_some, hg _ hm, e1, if_neg (show ¬ (false = true) by simp), f1]
    · have hT2 := keep G2
      have hn2 : n < T2.length := (List.getElem?_eq_some_iff.mp hT2).1
      have I3 := I2.put (o := .lst (acc ++ [y])) ha
      have ok3 := ok.app (OkL.cons okp OkL.nil)
      have G3 : Go [e.q, n] T (T2.set n (.lst (acc ++ [y]))) := (G2.more (by simp)).trans Go.set
      obtain ⟨T', ys, qs, f1, f2, f3, f4, f5, f6, f7⟩ := ih (i + 1) (k + c) _ (T2.set n (.lst (acc ++ [y]))) (acc ++ [y]) _ (by omega) I3 (hkp _ _ kp G3) (by omega) (List.getElem?_set_self hn2) ok3 (by simp; omega)
      rw [List.append_assoc, List.singleton_append] at f2 f4
      refine ⟨T', y :: ys, qs, ?_, f2, .take r f3, f4.mono (by omega) (Nat.le_refl _), f5.mono (by omega), f6, G3.trans f7⟩
      have h2 : acc.length < sizeLine := by omega
      unfold mLcL
      rw [hnx i T kp, h]
      simp only [Option.bind_some, hg _ hm, e1, e2, hT2, if_pos h2, if_true, f1]
/-- over a list that stands apart -/
theorem lc2_ref {ns : List Int} {e : Px} {mm : ME} {g : MG} {t : MT} {el : ME} {vs : List Nat} {env : PL.Env} {E : D → PL.Env} {c W m n k : Nat} {xs : List D} {R : D → D → Prop} {sk : Prop} {S S1 : Sto} (h : mm env S = some (.ref n, S1)) (hn : S1[n]? = some (.lst xs)) (hn2 : n ≠ 2 ∧ n ≠ e.q)
    (hg : ∀ x ∈ xs, ∀ T, g x (wipeE env vs) T = some (E x, T)) (hs : xs.length ≤ sizeLine) (I : Iv ns e k S1)
    (hel : ∀ x ∈ xs, ∀ (k' : Nat) (T : Sto), Iv ns e k' T → k' + c ≤ k + c * xs.length → T[n]? = some (.lst xs) → 
      (sk ∧ ∃ T', t (E x) T = some (false, T') ∧ Iv ns e (k' + c) T' ∧ Go [e.q] T T') ∨
      (∃ T1 y T', t (E x) T = some (true, T1) ∧ el (E x) T1 = some (y, T') ∧ R x y ∧ (∃ p, Ok W m y p) ∧ Iv ns e (k' + c) T' ∧ Go [e.q] T T')) :
    ∃ S' ys qs, mLc (mItr mm) g t el vs env S = some (.ref S1.length, S') ∧ S'[S1.length]? = some (.lst ys) ∧ Emb R sk xs ys ∧ OkL (xs.length * (W + 2)) m ys qs ∧ Iv ns e (k + c * xs.length) S' ∧ Go [e.q] S1 S' := by
  have hlt := (List.getElem?_eq_some_iff.mp hn).1
  obtain ⟨T', ys, qs, f1, f2, f3, f4, f5, f6, f7⟩ := comp2 (nx := nxL n) (Kp := fun T => T[n]? = some (.lst xs)) (g := g) (t := t) (el := el) (env := wipeE env vs) (E := E) (W := W) (R := R) (sk := sk) (m := m) (K := k + c * xs.length) I.apart
    (fun T T' hk G => G.keep _ _ hn2.1 (by simp [hn2.2]; omega) hk) (fun i T hk => by simp [nxL, seqAt, hk]) hg hs (fun x hx k' T IT hk hK => hel x hx k' T IT hK hk) xs.length 0 k 0 (S1 ++ [.lst []]) [] [] (by omega) I.new
    (by rw [List.getElem?_append_left hlt]; exact hn) (Nat.le_refl _) (by simp) OkL.nil (by simp)
  refine ⟨T', ys, qs, ?_, by simpa using f2, by simpa using f3, by simpa using f4, f5, (Go.new.trans f7).drop (Nat.le_refl _)⟩
  have e2 : mItr mm env S = some ((xs.length + 1, nxL n), S1) := by
    unfold mItr
    rw [h]
    simp [itrOf, seqAt, hn]
  unfold mLc
  rw [e2, Option.bind_some]
  dsimp only
  rw [f1, Option.bind_some]
theorem cut_mem {xs : List D} {lo hi : Option Int} : ∀ d ∈ PL.cutD xs lo hi, d ∈ xs := fun d h => List.mem_of_mem_drop (List.mem_of_mem_take h)
theorem cut_len {xs : List D} {lo hi : Option Int} : (PL.cutD xs lo hi).length ≤ xs.length := by
  unfold PL.cutD
  rw [List.length_take, List.length_drop]
  omega
theorem part_ok {m : ME} {env : PL.Env} {S S' : Sto} {r : Int} (h : m env S = some (.int r, S')) (h0 : 0 ≤ r) (h1 : r < 1000) : mPart m env S = some (some r, S') := by
  unfold mPart
  rw [h]
  have a1 : -(2 ^ 63) ≤ r := Int.le_trans (by decide : -(2 ^ 63) ≤ (0 : Int)) h0
  have a2 : r < 2 ^ 63 := Int.lt_of_lt_of_le h1 (by decide : (1000 : Int) ≤ 2 ^ 63)
  simp only [Option.bind_some, if_pos (And.intro a1 a2)]
end K11
end

section
set_option Elab.async false
set_option linter.all false
set_option maxRecDepth 100000
set_option maxHeartbeats 800000
namespace K11
open PySem PySem.Spec PyProof.Rows L2 PL
structure Scn where
  nm : Str
  a : D
  cs : List Chc
  wv : List Str
  en : D
def Scn.toD (s : Scn) : D := .tup [.str s.nm, s.a, .tup (s.cs.map Chc.toD), .tup (s.wv.map D.str), s.en]
/-- all that it leads to is one of these -/
def Scn.In (N : List Str) (s : Scn) : Prop := (∀ c ∈ s.cs, YsIn N c.ys) ∧ (∀ y ∈ s.wv, y ∈ N) ∧ s.cs.length ≤ 3 ∧ s.wv.length ≤ 1000
def IsChc (N : List Str) (_ y : D) : Prop := ∃ c : Chc, y = c.toD ∧ YsIn N c.ys
theorem emb_chc {N : List Str} {sk : Prop} {xs ys : List D} (h : Emb (IsChc N) sk xs ys) : ∃ cs : List Chc, ys = cs.map Chc.toD ∧ ∀ c ∈ cs, YsIn N c.ys := by
  induction h with
  | nil => exact ⟨[], rfl, by simp⟩
  | skip _ _ ih => exact ih
  | take r _ ih =>
    obtain ⟨c, rfl, h1⟩ := r
    obtain ⟨cs, rfl, h2⟩ := ih
    refine ⟨c :: cs, rfl, ?_⟩
    intro d hd
    rcases List.mem_cons.mp hd with rfl | hd
    · exact h1
    · exact h2 d hd
theorem emb_str {sk : Prop} {xs ys : List D} (h : Emb (fun x y => x = y) sk xs ys) : ∀ {zs : List Str}, xs = zs.map D.str → ∃ ws : List Str, ys = ws.map D.str ∧ ∀ w ∈ ws, w ∈ zs := by
  induction h with
  | nil => intro zs _; exact ⟨[], rfl, by simp⟩
  | skip _ _ ih =>
    intro zs hz
    cases zs with
    | nil => cases hz
    | cons z zs =>
      rw [List.map_cons] at hz
      injection hz with h1 h2
      obtain ⟨ws, e, h3⟩ := ih h2
      exact ⟨ws, e, fun w hw => List.mem_cons_of_mem _ (h3 w hw)⟩
  | take r _ ih =>
    intro zs hz
    cases zs with
    | nil => cases hz
    | cons z zs =>
      rw [List.map_cons] at hz
      injection hz with h1 h2
      obtain ⟨ws, e, h3⟩ := ih h2
      refine ⟨z :: ws, by rw [← r, h1, e]; rfl, ?_⟩
      intro w hw
      rcases List.mem_cons.mp hw with rfl | hw
      · exact List.mem_cons_self ..
      · exact List.mem_cons_of_mem _ (h3 w hw)
theorem Emb.len {R : D → D → Prop} {sk : Prop} {xs ys : List D} (h : Emb R sk xs ys) : ys.length ≤ xs.length := by
  induction h with
  | nil => exact Nat.le_refl _
  | skip _ _ ih => exact Nat.le_succ_of_le ih
  | take _ _ ih => exact Nat.succ_le_succ ih
def namesE (C : Nat → MF) : ME := mSl slA (mLst (mCons (mC (.str (Str.ofString "go"))) (mCons (mC (.str (Str.ofString "ask"))) (mCons (mC (.str (Str.ofString "once"))) (mNil))))) (mPart (mCall 2 (C 4) (mCons (mVar 0) (mCons (mC (.int 2)) (mNil))))) (mNo)
def choicesE (C : Nat → MF) : ME := mLc (mItr (mSl slA (mVar 3) (mNo) (mPart (mCall 2 (C 4) (mCons (mVar 0) (mCons (mC (.int 3)) (mNil))))))) (gN 5) (mYes) (mCall 3 (C 13) (mCons (mVar 0) (mCons (mVar 5) (mCons (mVar 2) (mNil))))) [5]
def wovenE (C : Nat → MF) : ME := mLc (mItr (mBin ixA (mVar 2) (mC (.str (Str.ofString "scene"))))) (gN 5) (asB (mBin dEq (mCall 2 (C 4) (mCons (mVar 0) (mCons (mC (.int 5)) (mNil)))) (mC (.int 0)))) (mVar 5) [5]
def endE (C : Nat → MF) : ME := mIf (asB (mBin dEq (mCall 2 (C 4) (mCons (mVar 0) (mCons (mC (.int 6)) (mNil)))) (mC (.int 0)))) (mBin ixA (mLst (mCons (mC (.str (Str.ofString "won"))) (mCons (mC (.str (Str.ofString "lost"))) (mNil)))) (mCall 2 (C 4) (mCons (mVar 0) (mCons (mC (.int 2)) (mNil))))) (mC .non)
theorem m14_eq (C : Nat → MF) {x0 nm p en ps : D} {S S1 S2 S3 S4 S5 : Sto} {n1 n2 n3 : Nat} {cs : List D} {ws : List D} (h1 : namesE C [some x0, some nm, some p, none, none, none, none, none] S = some (.ref n1, S1)) (h2 : choicesE C [some x0, some nm, some p, some (.ref n1), none, none, none, none] S1 = some (.ref n2, S2)) (h2' : S2[n2]? = some (.lst cs))
    (h3 : wovenE C [some x0, some nm, some p, some (.ref n1), some (.tup cs), none, none, none] S2 = some (.ref n3, S3)) (h3' : S3[n3]? = some (.lst ws)) (h4 : endE C [some x0, some nm, some p, some (.ref n1), some (.tup cs), none, some (.ref n3), none] S3 = some (en, S4)) (h4' : S5[n3]? = some (.lst ws))
    (h5 : C 9 [x0, .int 2, p, .bl true] S4 = some (ps, S5)) : m14 C [x0, nm, p] S = some (.tup [nm, ps, .tup cs, .tup ws.reverse, en], S5 ++ [.lst ws.reverse]) := by
  show mBody 8 (mSeq (mAsg (namesE C) (gN 3)) (mSeq (mAsg (mBlt gTuple (mCons (choicesE C) mNil)) (gN 4)) (mSeq (mAsg (wovenE C) (gN 6)) (mSeq (mAsg (endE C) (gN 7)) _)))) _ _ = _
  generalize namesE C = X1 at h1 ⊢
  generalize choicesE C = X2 at h2 ⊢
  generalize wovenE C = X3 at h3 ⊢
  generalize endE C = X4 at h4 ⊢
  have e3 := tuple_new S5 ws.reverse
  have e2 : gTuple [.ref n2] S2 = some (.tup cs, S2) := by simp [gTuple, seqAt, h2']
  have e4 : revOf (.ref n3) S5 = some (.ref S5.length, S5 ++ [.lst ws.reverse]) := by simp [revOf, seqAt, h4', newL]
  simp [mBody, startE, mSeq, mAsg, mBin, mVar, mC, mCall, mCons, mNil, gN, mIfS, mIf, mTru, dTru, mRet, mTup, mAndT, mOrT, asB, dLt, dGt, dEq, sEq, PL.alt, iiI, iiB, mLst, newL, mNext, mNeg, mBlt, dSub, sz0, sz1, sz2, sz3, sz4, sz5, sz6, sz8, yd_some, h1, h2, e2, h3, h4, h5, mRv, e4, e3]
theorem okL_strs : ∀ (ws : List Str), (∀ w ∈ ws, okB 12 (.str w) = true) → OkL (ws.length * 14) 0 (ws.map D.str) (ws.map PyData.str)
  | [], _ => OkL.nil
  | w :: ws, h => (OkL.cons (Ok.word (h w (List.mem_cons_self ..))) (okL_strs ws fun x hx => h x (List.mem_cons_of_mem _ hx))).mono (by simp [Nat.succ_mul]; omega) (Nat.le_refl _)
theorem scene_ok {ns : List Int} {e : Px} (j k : Nat) (S : Sto) (nm : Str) (hnm : okB 12 (.str nm) = true) (I : Iv ns e k S) (hs : e.sN ≠ []) (hk : k + 23000 < 1000000000) :
    ∃ (s : Scn) (S' : Sto), lv (j + 13) 14 [.ref 2, .str nm, .ref e.p] S = some (s.toD, S') ∧ s.nm = nm ∧ s.In e.sN ∧ Gv ns e k 23000 400000 12 S (s.toD, S') := by
  -- the names
  obtain ⟨r1, S1, e1, r10, r11, I1, G1⟩ := (I.new (T := [.lst ([Str.ofString "go", Str.ofString "ask", Str.ofString "once"].map D.str)])).draw (by omega) (j + 11) 2 (by omega) (by omega)
  have hq := I.qlt
  have hn := I.po.n2
  have g1 : S1[S.length]? = some (.lst ([Str.ofString "go", Str.ofString "ask", Str.ofString "once"].map D.str)) := G1.keep _ _ (by omega) (by simp; omega) (by simp)
  have f1 : namesE (lv (j + 12)) [some (.ref 2), some (.str nm), some (.ref e.p), none, none, none, none, none] S = some (.ref S1.length, S1 ++ [.lst (PL.cutD ([Str.ofString "go", Str.ofString "ask", Str.ofString "once"].map D.str) (some r1) none)]) := by
    have e1' : lv (j + 12) 4 [.ref 2, .int 2] (S ++ [.lst ([Str.ofString "go", Str.ofString "ask", Str.ofString "once"].map D.str)]) = some (.int r1, S1) := e1
    generalize lv (j + 12) = C at e1' ⊢
    simp only [List.map_cons, List.map_nil] at e1' g1 ⊢
    have e2 : mPart (mCall 2 (C 4) (mCons (mVar 0) (mCons (mC (.int 2)) (mNil)))) [some (.ref 2), some (.str nm), some (.ref e.p), none, none, none, none, none] (S ++ [.lst [.str (Str.ofString "go"), .str (Str.ofString "ask"), .str (Str.ofString "once")]]) = some (some r1, S1) := part_ok (by simp [mBody, startE, mSeq, mAsg, mBin, mVar, mC, mCall, mCons, mNil, gN, mIfS, mIf, mTru, dTru, mRet, mTup, mAndT, mOrT, asB, dLt, dGt, dEq, sEq, PL.alt, iiI, iiB, mLst, newL, mNext, mNeg, mBlt, dSub, sz0, sz1, sz2, sz3, sz4, sz5, sz6, sz8, yd_some, e1']) r10 (by omega)
    unfold namesE
    generalize mPart (mCall 2 (C 4) (mCons (mVar 0) (mCons (mC (.int 2)) (mNil)))) = Y at e2 ⊢
    simp [mBody, startE, mSeq, mAsg, mBin, mVar, mC, mCall, mCons, mNil, gN, mIfS, mIf, mTru, dTru, mRet, mTup, mAndT, mOrT, asB, dLt, dGt, dEq, sEq, PL.alt, iiI, iiB, mLst, newL, mNext, mNeg, mBlt, dSub, sz0, sz1, sz2, sz3, sz4, sz5, sz6, sz8, yd_some, mSl, mNo, e2, slA, seqAt, g1]
  generalize hL : PL.cutD ([Str.ofString "go", Str.ofString "ask", Str.ofString "once"].map D.str) (some r1) none = L1 at f1
  have hL1 : ∀ d ∈ L1, d ∈ [Str.ofString "go", Str.ofString "ask", Str.ofString "once"].map D.str := by rw [← hL]; exact cut_mem
  have hL2 : L1.length ≤ 3 := by rw [← hL]; exact cut_len
  have I2 := I1.new (T := [.lst L1])
  -- the choices
  obtain ⟨r2, S2, e2, r20, r21, I3, G3⟩ := I2.draw (by omega) (j + 11) 3 (by omega) (by omega)
  have hq1 := I1.qlt
  have g2 : S2[S1.length]? = some (.lst L1) := G3.keep _ _ (by omega) (by simp; omega) (by simp)
  have f2 : mSl slA (mVar 3) (mNo) (mPart (mCall 2 (lv (j + 12) 4) (mCons (mVar 0) (mCons (mC (.int 3)) (mNil))))) [some (.ref 2), some (.str nm), some (.ref e.p), some (.ref S1.length), none, none, none, none] (S1 ++ [.lst L1]) = some (.ref S2.length, S2 ++ [.lst (PL.cutD L1 none (some r2))]) := by
    have e2' : lv (j + 12) 4 [.ref 2, .int 3] (S1 ++ [.lst L1]) = some (.int r2, S2) := e2
    generalize lv (j + 12) = C at e2' ⊢
    have e3 : mPart (mCall 2 (C 4) (mCons (mVar 0) (mCons (mC (.int 3)) (mNil)))) [some (.ref 2), some (.str nm), some (.ref e.p), some (.ref S1.length), none, none, none, none] (S1 ++ [.lst L1]) = some (some r2, S2) := part_ok (by simp [mBody, startE, mSeq, mAsg, mBin, mVar, mC, mCall, mCons, mNil, gN, mIfS, mIf, mTru, dTru, mRet, mTup, mAndT, mOrT, asB, dLt, dGt, dEq, sEq, PL.alt, iiI, iiB, mLst, newL, mNext, mNeg, mBlt, dSub, sz0, sz1, sz2, sz3, sz4, sz5, sz6, sz8, yd_some, e2']) r20 (by omega)
    generalize mPart (mCall 2 (C 4) (mCons (mVar 0) (mCons (mC (.int 3)) (mNil)))) = Y at e3 ⊢
    simp [mBody, startE, mSeq, mAsg, mBin, mVar, mC, mCall, mCons, mNil, gN, mIfS, mIf, mTru, dTru, mRet, mTup, mAndT, mOrT, asB, dLt, dGt, dEq, sEq, PL.alt, iiI, iiB, mLst, newL, mNext, mNeg, mBlt, dSub, sz0, sz1, sz2, sz3, sz4, sz5, sz6, sz8, yd_some, mSl, mNo, e3, slA, seqAt, g2]
  generalize hM : PL.cutD L1 none (some r2) = M at f2
  have hM1 : ∀ d ∈ M, d ∈ [Str.ofString "go", Str.ofString "ask", Str.ofString "once"].map D.str := fun d hd => hL1 d (by rw [← hM] at hd; exact cut_mem d hd)
  have hM2 : M.length ≤ 3 := by rw [← hM]; exact Nat.le_trans cut_len hL2
  have hz : 3 ≤ sizeLine := sz3
  have hMc : 3000 * M.length ≤ 3000 * 3 := Nat.mul_le_mul_left _ hM2
  have hMw : M.length * (25000 + 2) ≤ 3 * (25000 + 2) := Nat.mul_le_mul_right _ hM2
  have ap := I3.apart
  have I4 := I3.new (T := [.lst M])
  obtain ⟨S3, ys, qs, c1, c2, c3, c4, I5, G5⟩ := lc2_ref (xs := M) (sk := False) (R := IsChc e.sN) (W := 25000) (m := 10) (c := 3000) (g := gN 5) (t := mYes) (el := mCall 3 (lv (j + 12) 13) (mCons (mVar 0) (mCons (mVar 5) (mCons (mVar 2) (mNil))))) (vs := [5])
    (E := fun x => [some (.ref 2), some (.str nm), some (.ref e.p), some (.ref S1.length), none, some x, none, none]) f2 (by simp) ⟨by have := ap.n2; omega, ap.q⟩ (fun x hx T => by simp [gN, wipeE]) (by omega) I4 (fun x hx k' T IT hT hK => .inr (by
      obtain ⟨z, hz, rfl⟩ := List.mem_map.mp (hM1 x hx)
      have hzo : okB 12 (.str z) = true := List.all_eq_true.mp (show ([Str.ofString "go", Str.ofString "ask", Str.ofString "once"].all fun x => okB 12 (.str x)) = true by decide +kernel) z hz
      obtain ⟨c, T', d1, d2, d3, d4, d5⟩ := choice_ok (j + 1) k' T z hzo IT hs (by omega)
      have d1' : lv (j + 12) 13 [.ref 2, .str z, .ref e.p] T = some (c.toD, T') := d1
      refine ⟨T, c.toD, T', rfl, ?_, ⟨c, rfl, d2⟩, d3, d4, d5⟩
      generalize lv (j + 12) = C at d1' ⊢
      simp [mBody, startE, mSeq, mAsg, mBin, mVar, mC, mCall, mCons, mNil, gN, mIfS, mIf, mTru, dTru, mRet, mTup, mAndT, mOrT, asB, dLt, dGt, dEq, sEq, PL.alt, iiI, iiB, mLst, newL, mNext, mNeg, mBlt, dSub, sz0, sz1, sz2, sz3, sz4, sz5, sz6, sz8, yd_some, d1']))
  obtain ⟨cs, rfl, hcs⟩ := emb_chc c3
  -- the woven ones
  have hsc := I5.po.sc
  have hls := I5.ls.1
  have p1 := pool_sc I5.po
  have hz2 : 1000 ≤ sizeLine := by decide
  have hn5 := I5.po.n2
  obtain ⟨S4, ws0, qw, w1, w2, w3, w4, I6, G6⟩ := lc2_ref (ns := ns) (e := e) (k := k + 1 + 1 + 3000 * M.length) (mm := mBin ixA (mVar 2) (mC (.str (Str.ofString "scene")))) (env := [some (.ref 2), some (.str nm), some (.ref e.p), some (.ref S1.length), some (.tup (cs.map Chc.toD)), none, none, none]) (S := S3) (S1 := S3) (n := e.sc) (sk := True) (R := fun x y => x = y) (W := 12) (m := 0) (c := 1) (g := gN 5) (t := asB (mBin dEq (mCall 2 (lv (j + 12) 4) (mCons (mVar 0) (mCons (mC (.int 5)) (mNil)))) (mC (.int 0)))) (el := mVar 5) (vs := [5])
    (E := fun x => [some (.ref 2), some (.str nm), some (.ref e.p), some (.ref S1.length), some (.tup (cs.map Chc.toD)), some x, none, none]) (by simp [mBody, startE, mSeq, mAsg, mBin, mVar, mC, mCall, mCons, mNil, gN, mIfS, mIf, mTru, dTru, mRet, mTup, mAndT, mOrT, asB, dLt, dGt, dEq, sEq, PL.alt, iiI, iiB, mLst, newL, mNext, mNeg, mBlt, dSub, sz0, sz1, sz2, sz3, sz4, sz5, sz6, sz8, yd_some, p1]) hsc ⟨hn5.2.1, I5.po.nq.2.1⟩ (fun x hx T => by simp [gN, wipeE]) (by rw [List.length_map]; omega) I5 (fun x hx k' T IT hT hK => by
      obtain ⟨z, hz, rfl⟩ := List.mem_map.mp hx
      rw [List.length_map] at hT
      obtain ⟨r, T', d1, d2, d3, d4, d5⟩ := IT.draw (by omega) (j + 11) 5 (by omega) (by omega)
      have d1' : lv (j + 12) 4 [.ref 2, .int 5] T = some (.int r, T') := d1
      generalize lv (j + 12) = C at d1' ⊢
      by_cases hr : r = 0
      · refine .inr ⟨T', .str z, T', ?_, ?_, rfl, ⟨_, Ok.name IT.gd (.inl hz)⟩, d4, d5⟩
        · simp [mBody, startE, mSeq, mAsg, mBin, mVar, mC, mCall, mCons, mNil, gN, mIfS, mIf, mTru, dTru, mRet, mTup, mAndT, mOrT, asB, dLt, dGt, dEq, sEq, PL.alt, iiI, iiB, mLst, newL, mNext, mNeg, mBlt, dSub, sz0, sz1, sz2, sz3, sz4, sz5, sz6, sz8, yd_some, d1', hr]
        · simp [mBody, startE, mSeq, mAsg, mBin, mVar, mC, mCall, mCons, mNil, gN, mIfS, mIf, mTru, dTru, mRet, mTup, mAndT, mOrT, asB, dLt, dGt, dEq, sEq, PL.alt, iiI, iiB, mLst, newL, mNext, mNeg, mBlt, dSub, sz0, sz1, sz2, sz3, sz4, sz5, sz6, sz8, yd_some]
      · refine .inl ⟨trivial, T', ?_, d4, d5⟩
        simp [mBody, startE, mSeq, mAsg, mBin, mVar, mC, mCall, mCons, mNil, gN, mIfS, mIf, mTru, dTru, mRet, mTup, mAndT, mOrT, asB, dLt, dGt, dEq, sEq, PL.alt, iiI, iiB, mLst, newL, mNext, mNeg, mBlt, dSub, sz0, sz1, sz2, sz3, sz4, sz5, sz6, sz8, yd_some, d1', hr])
  obtain ⟨ws, rfl, hws⟩ := emb_str w3 rfl
  have hlw := w4.len
  rw [List.length_map, List.length_map] at hlw
  rw [List.length_map] at I6
  -- the ending
  have hend : ∃ (en : D) (S5 : Sto), endE (lv (j + 12)) [some (.ref 2), some (.str nm), some (.ref e.p), some (.ref S1.length), some (.tup (cs.map Chc.toD)), none, some (.ref S3.length), none] S4 = some (en, S5) ∧ (∃ p, Ok 10 0 en p) ∧ Iv ns e (k + 1 + 1 + 3000 * M.length + 1 * e.sN.length + 2) S5 ∧ Go [e.q] S4 S5 := by
    obtain ⟨r, T', d1, d2, d3, d4, d5⟩ := I6.draw (by omega) (j + 11) 6 (by omega) (by omega)
    have d1' : lv (j + 12) 4 [.ref 2, .int 6] S4 = some (.int r, T') := d1
    by_cases hr : r = 0
    · obtain ⟨r', w, T2, b1, b2, m, I8, G8⟩ := d4.disp (by omega) (j + 11) ([Str.ofString "won", Str.ofString "lost"].map D.str) 2 rfl (by decide) (by decide)
      have b1' : lv (j + 12) 4 [.ref 2, .int 2] (T' ++ [.lst ([Str.ofString "won", Str.ofString "lost"].map D.str)]) = some (.int r', T2) := b1
      obtain ⟨pw, okw⟩ := ok_lits (W := 10) m (by decide +kernel)
      refine ⟨w, T2, ?_, ⟨_, okw⟩, I8.mono (by omega), d5.trans G8⟩
      generalize lv (j + 12) = C at d1' b1' ⊢
      simp only [List.map_cons, List.map_nil] at b1'
      simp [mBody, startE, mSeq, mAsg, mBin, mVar, mC, mCall, mCons, mNil, gN, mIfS, mIf, mTru, dTru, mRet, mTup, mAndT, mOrT, asB, dLt, dGt, dEq, sEq, PL.alt, iiI, iiB, mLst, newL, mNext, mNeg, mBlt, dSub, sz0, sz1, sz2, sz3, sz4, sz5, sz6, sz8, yd_some, endE, d1', hr, b1', b2]
    · refine ⟨.non, T', ?_, ⟨_, Ok.non.mono (by omega) (by omega)⟩, d4.mono (by omega), d5⟩
      generalize lv (j + 12) = C at d1' ⊢
      simp [mBody, startE, mSeq, mAsg, mBin, mVar, mC, mCall, mCons, mNil, gN, mIfS, mIf, mTru, dTru, mRet, mTup, mAndT, mOrT, asB, dLt, dGt, dEq, sEq, PL.alt, iiI, iiB, mLst, newL, mNext, mNeg, mBlt, dSub, sz0, sz1, sz2, sz3, sz4, sz5, sz6, sz8, yd_some, endE, d1', hr]
  obtain ⟨en, S5, d1, ⟨pe, oke⟩, I7, G7⟩ := hend
  obtain ⟨ps, S6, d2, ⟨pp, okp⟩, I8, G8⟩ := pieces_of (piece_ok (ns := ns) (e := e) j 2) true _ _ I7 (by omega)
  have hq3 := I5.apart
  have w5 : S6[S3.length]? = some (.lst (ws.map D.str)) := (G7.trans G8).keep _ _ (by have := hq3.n2; omega) (by simpa using hq3.q) w2
  have hrev : (ws.map D.str).reverse = ws.reverse.map D.str := by rw [List.map_reverse]
  have okw := okL_strs ws.reverse fun w hw => (I.gd w (.inl (hws w (List.mem_reverse.mp hw)))).1
  rw [List.length_reverse] at okw
  have hwl : ws.length * 14 ≤ 7000 * 14 := Nat.mul_le_mul_right _ (by omega)
  have ht := Ok.tup (OkL.cons ((Ok.word hnm).mono (Nat.le_refl _) (Nat.zero_le 11)) (OkL.cons (okp.mono (Nat.le_refl _) (by omega)) (OkL.cons ((Ok.tup c4).mono (Nat.le_refl _) (by omega)) (OkL.cons ((Ok.tup okw).mono (Nat.le_refl _) (by omega)) (OkL.cons (oke.mono (Nat.le_refl _) (Nat.zero_le 11)) OkL.nil)))))
  have ht2 : ∃ p, Ok 400000 12 (D.tup [.str nm, .tup ps, .tup (cs.map Chc.toD), .tup (ws.reverse.map D.str), en]) p := ⟨_, ht.mono (by omega) (by omega)⟩
  have I9 : Iv ns e (k + 23000) (S6 ++ [.lst (ws.map D.str).reverse]) := I8.new.mono (by omega)
  have GG : Go [e.q] S (S6 ++ [.lst (ws.map D.str).reverse]) := ((((((((Go.new.trans G1).trans Go.new).trans G3).trans Go.new).trans G5).trans G6).trans G7).trans G8).trans Go.new
  have fe := m14_eq (lv (j + 12)) f1 c1 c2 w1 w2 d1 w5 d2
  rw [hrev] at fe I9 GG
  have hin : Scn.In e.sN ⟨nm, .tup ps, cs, ws.reverse, en⟩ := ⟨hcs, fun y hy => hws y (List.mem_reverse.mp hy), by have := c3.len; rw [List.length_map] at this; dsimp only; omega, by have := w3.len; rw [List.length_map, List.length_map] at this; dsimp only; rw [List.length_reverse]; omega⟩
  have fe2 : lv (j + 13) 14 [.ref 2, .str nm, .ref e.p] S = some (Scn.toD ⟨nm, .tup ps, cs, ws.reverse, en⟩, S6 ++ [Ob.lst (ws.reverse.map D.str)]) := fe
  exact ⟨⟨nm, .tup ps, cs, ws.reverse, en⟩, S6 ++ [Ob.lst (ws.reverse.map D.str)], fe2, rfl, hin, ht2, I9, GG⟩
end K11
end

section
set_option Elab.async false
set_option linter.all false
set_option maxRecDepth 100000
set_option maxHeartbeats 800000
namespace K11
open PySem PySem.Spec PyProof.Rows L2 PL
theorem FeedAt.len {ns : List Int} {k : Nat} {S : Sto} (F : FeedAt ns k S) : 2 < S.length := by
  obtain ⟨x0, a, b, n, rest, rfl, h⟩ := F
  simp
theorem FeedAt.draw {ns : List Int} {k : Nat} {S : Sto} (F : FeedAt ns k S) (hk : k < 1000000000) (j : Nat) (many : Int) (hm : 0 < many) (hm2 : many < 1000) :
    ∃ (r : Int) (S' : Sto), lv (j + 1) 4 [.ref 2, .int many] S = some (.int r, S') ∧ 0 ≤ r ∧ r < many ∧ FeedAt ns (k + 1) S' ∧ Go [] S S' := draw_ok F hk (lv j) many hm hm2
theorem sliced {o : ME} {a b : MO} {env : PL.Env} {S S1 S2 : Sto} {lo hi : Option Int} {xs : List D} (ho : o env S = some (.ref S.length, S ++ [.lst xs])) (ha : a env (S ++ [.lst xs]) = some (lo, S1)) (hb : b env S1 = some (hi, S2)) (G : Go [] (S ++ [.lst xs]) S2) (h3 : 2 < S.length) :
    mSl slA o a b env S = some (.ref S2.length, S2 ++ [.lst (PL.cutD xs lo hi)]) := by
  have g : S2[S.length]? = some (.lst xs) := G.keep _ _ (by omega) (by simp) (by simp)
  simp [mBody, startE, mSeq, mAsg, mBin, mVar, mC, mCall, mCons, mNil, gN, mIfS, mIf, mTru, dTru, mRet, mTup, mAndT, mOrT, asB, dLt, dGt, dEq, sEq, PL.alt, iiI, iiB, mLst, newL, mNext, mNeg, mBlt, dSub, sz0, sz1, sz2, sz3, sz4, sz5, sz6, sz8, yd_some, mSl, ho, ha, hb, slA, seqAt, g]
def cutN (N : List Str) (lo hi : Option Int) : List Str := (N.drop (HT.sIx N.length 0 lo)).take (HT.sIx N.length N.length hi - HT.sIx N.length 0 lo)
theorem cut_map (N : List Str) (lo hi : Option Int) : PL.cutD (N.map D.str) lo hi = (cutN N lo hi).map D.str := by
  unfold PL.cutD cutN
  rw [List.length_map, List.map_take, List.map_drop]
theorem cutN_sub (N : List Str) (lo hi : Option Int) : (cutN N lo hi).Sublist N := (List.take_sublist ..).trans (List.drop_sublist ..)
theorem cutN_ne (N : List Str) (r : Int) (h0 : 0 ≤ r) (hN : 1 ≤ N.length) : cutN N none (some (1 + r)) ≠ [] := by
  obtain ⟨i, rfl⟩ : ∃ i : Nat, r = (i : Int) := ⟨r.toNat, by omega⟩
  intro h
  have e : (1 + (i : Int)) = ((1 + i : Nat) : Int) := by omega
  have h2 := congrArg List.length h
  unfold cutN at h2
  rw [e, HT.sIx_none, HT.sIx_nat, List.length_take, List.length_drop, List.length_nil] at h2
  omega
def sixN : List Str := [Str.ofString "barn", Str.ofString "cave", Str.ofString "dusk", Str.ofString "end", Str.ofString "hall", Str.ofString "zzzzzzzz"]
def numN : List Str := [Str.ofString "gold", Str.ofString "hp", Str.ofString "k"]
def plaN : List Str := [Str.ofString "cave", Str.ofString "inn", Str.ofString "yard"]
def figN : List Str := [Str.ofString "ann", Str.ofString "bob", Str.ofString "cat"]
def lstE (N : List Str) : ME := mLst (N.foldr (fun x a => mCons (mC (.str x)) a) mNil)
theorem lst_strs (N : List Str) (env : PL.Env) (S : Sto) : (N.foldr (fun x a => mCons (mC (.str x)) a) mNil) env S = some (N.map D.str, S) := by
  induction N with
  | nil => rfl
  | cons x xs ih => simp [mCons, mC, ih]
theorem lstE_ok (N : List Str) (env : PL.Env) (S : Sto) (h : N.length ≤ sizeLine) : lstE N env S = some (.ref S.length, S ++ [.lst (N.map D.str)]) := by
  unfold lstE mLst
  rw [lst_strs]
  simp [h, newL]
def nmE (C : Nat → MF) : ME := mSl slA (lstE sixN) (mNo) (mPart (mBin dAdd (mC (.int 1)) (mCall 2 (C 4) (mCons (mVar 0) (mCons (mVar 1) (mNil))))))
def twoE (C : Nat → MF) (N : List Str) : ME := mSl slA (lstE N) (mPart (mCall 2 (C 4) (mCons (mVar 0) (mCons (mC (.int 2)) (mNil))))) (mPart (mBin dAdd (mC (.int 1)) (mCall 2 (C 4) (mCons (mVar 0) (mCons (mC (.int 3)) (mNil))))))
def fgE (C : Nat → MF) : ME := mIf (asB (mBin dNe (mVar 4) (mLst (mNil)))) (mSl slA (lstE figN) (mNo) (mPart (mCall 2 (C 4) (mCons (mVar 0) (mCons (mC (.int 4)) (mNil)))))) (mLst (mNil))
/-- a list of names, some of these, made behind S -/
def Nm (ns : List Int) (N : List Str) (k : Nat) (S : Sto) (n : Nat) (M : List Str) (S' : Sto) : Prop := M.Sublist N ∧ S'[n]? = some (.lst (M.map D.str)) ∧ FeedAt ns k S' ∧ Go [] S S' ∧ S.length ≤ n ∧ n < S'.length
theorem nm_ok {ns : List Int} {k j : Nat} {S : Sto} (F : FeedAt ns k S) (hk : k + 10 < 1000000000) (rest : PL.Env) :
    ∃ n M S', nmE (lv (j + 1)) (some (.ref 2) :: some (.int 6) :: rest) S = some (.ref n, S') ∧ Nm ns sixN (k + 1) S n M S' ∧ M ≠ [] := by
  obtain ⟨r, S1, e1, r0, r1, F1, G1⟩ := (F.new (T := [.lst (sixN.map D.str)])).draw (by omega) j 6 (by omega) (by omega)
  have h := F.len
  have hb : mPart (mBin dAdd (mC (.int 1)) (mCall 2 (lv (j + 1) 4) (mCons (mVar 0) (mCons (mVar 1) (mNil))))) (some (.ref 2) :: some (.int 6) :: rest) (S ++ [.lst (sixN.map D.str)]) = some (some (1 + r), S1) := part_ok (by
    generalize lv (j + 1) = C at e1 ⊢
    simp [mBody, startE, mSeq, mAsg, mBin, mVar, mC, mCall, mCons, mNil, gN, mIfS, mIf, mTru, dTru, mRet, mTup, mAndT, mOrT, asB, dLt, dGt, dEq, sEq, PL.alt, iiI, iiB, mLst, newL, mNext, mNeg, mBlt, dSub, sz0, sz1, sz2, sz3, sz4, sz5, sz6, sz8, yd_some, e1, dAdd]) (by omega) (by omega)
  have e := sliced (lstE_ok sixN (some (.ref 2) :: some (.int 6) :: rest) S (by decide)) (a := mNo) (lo := none) rfl hb G1 h
  rw [cut_map] at e
  exact ⟨_, cutN sixN none (some (1 + r)), _, e, ⟨cutN_sub .., by simp, F1.new, (Go.new.trans G1).trans Go.new, by have := G1.len; simp at this; omega, by simp⟩, cutN_ne _ _ r0 (by decide)⟩
theorem two_ok {ns : List Int} {k j : Nat} {S : Sto} (F : FeedAt ns k S) (hk : k + 10 < 1000000000) (N : List Str) (hN : N.length ≤ sizeLine) (rest : PL.Env) :
    ∃ n M S', twoE (lv (j + 1)) N (some (.ref 2) :: rest) S = some (.ref n, S') ∧ Nm ns N (k + 2) S n M S' := by
  obtain ⟨r, S1, e1, r0, r1, F1, G1⟩ := (F.new (T := [.lst (N.map D.str)])).draw (by omega) j 2 (by omega) (by omega)
  obtain ⟨q, S2, e2, q0, q1, F2, G2⟩ := F1.draw (by omega) j 3 (by omega) (by omega)
  have h := F.len
  have ha : mPart (mCall 2 (lv (j + 1) 4) (mCons (mVar 0) (mCons (mC (.int 2)) (mNil)))) (some (.ref 2) :: rest) (S ++ [.lst (N.map D.str)]) = some (some r, S1) := part_ok (by
    generalize lv (j + 1) = C at e1 ⊢
    simp [mBody, startE, mSeq, mAsg, mBin, mVar, mC, mCall, mCons, mNil, gN, mIfS, mIf, mTru, dTru, mRet, mTup, mAndT, mOrT, asB, dLt, dGt, dEq, sEq, PL.alt, iiI, iiB, mLst, newL, mNext, mNeg, mBlt, dSub, sz0, sz1, sz2, sz3, sz4, sz5, sz6, sz8, yd_some, e1]) (by omega) (by omega)
  have hb : mPart (mBin dAdd (mC (.int 1)) (mCall 2 (lv (j + 1) 4) (mCons (mVar 0) (mCons (mC (.int 3)) (mNil))))) (some (.ref 2) :: rest) S1 = some (some (1 + q), S2) := part_ok (by
    generalize lv (j + 1) = C at e2 ⊢
    simp [mBody, startE, mSeq, mAsg, mBin, mVar, mC, mCall, mCons, mNil, gN, mIfS, mIf, mTru, dTru, mRet, mTup, mAndT, mOrT, asB, dLt, dGt, dEq, sEq, PL.alt, iiI, iiB, mLst, newL, mNext, mNeg, mBlt, dSub, sz0, sz1, sz2, sz3, sz4, sz5, sz6, sz8, yd_some, e2, dAdd]) (by omega) (by omega)
  have e := sliced (lstE_ok N (some (.ref 2) :: rest) S hN) ha hb (G1.trans G2) h
  rw [cut_map] at e
  exact ⟨_, cutN N (some r) (some (1 + q)), _, e, cutN_sub .., by simp, F2.new, ((Go.new.trans G1).trans G2).trans Go.new, by have := (G1.trans G2).len; simp at this; omega, by simp⟩
theorem fg_ok {ns : List Int} {k j n : Nat} {S : Sto} {M : List Str} (F : FeedAt ns k S) (hk : k + 10 < 1000000000) (hn : S[n]? = some (.lst (M.map D.str))) (hM : ∀ x ∈ M, PyData.strOk x = true) (x1 x2 x3 : Option D) (rest : PL.Env) :
    ∃ m G S', fgE (lv (j + 1)) (some (.ref 2) :: x1 :: x2 :: x3 :: some (.ref n) :: rest) S = some (.ref m, S') ∧ Nm ns figN (k + 1) S m G S' ∧ (M = [] → G = []) := by
  have hne := neNil hn hM
  have h := F.len
  have F0 := F.new (T := [.lst []])
  by_cases c : M = []
  · subst c
    refine ⟨S.length + 1, [], S ++ [.lst [], .lst []], ?_, ⟨List.nil_sublist _, by simp, F.new.mono (by omega), Go.new, by omega, by simp⟩, fun _ => rfl⟩
    generalize lv (j + 1) = C
    simp [mBody, startE, mSeq, mAsg, mBin, mVar, mC, mCall, mCons, mNil, gN, mIfS, mIf, mTru, dTru, mRet, mTup, mAndT, mOrT, asB, dLt, dGt, dEq, sEq, PL.alt, iiI, iiB, mLst, newL, mNext, mNeg, mBlt, dSub, sz0, sz1, sz2, sz3, sz4, sz5, sz6, sz8, yd_some, fgE, hne]
  · have hb : (!M.isEmpty) = true := by simpa using c
    rw [hb] at hne
    obtain ⟨r, S1, e1, r0, r1, F1, G1⟩ := (F0.new (T := [.lst (figN.map D.str)])).draw (by omega) j 4 (by omega) (by omega)
    have ha : mPart (mCall 2 (lv (j + 1) 4) (mCons (mVar 0) (mCons (mC (.int 4)) (mNil)))) (some (.ref 2) :: x1 :: x2 :: x3 :: some (.ref n) :: rest) (S ++ [.lst []] ++ [.lst (figN.map D.str)]) = some (some r, S1) := part_ok (by
      generalize lv (j + 1) = C at e1 ⊢
      simp only [List.append_assoc, List.cons_append, List.nil_append] at e1 ⊢
      simp [mBody, startE, mSeq, mAsg, mBin, mVar, mC, mCall, mCons, mNil, gN, mIfS, mIf, mTru, dTru, mRet, mTup, mAndT, mOrT, asB, dLt, dGt, dEq, sEq, PL.alt, iiI, iiB, mLst, newL, mNext, mNeg, mBlt, dSub, sz0, sz1, sz2, sz3, sz4, sz5, sz6, sz8, yd_some, e1]) (by omega) (by omega)
    have e := sliced (lstE_ok figN (some (.ref 2) :: x1 :: x2 :: x3 :: some (.ref n) :: rest) (S ++ [.lst []]) (by decide)) (a := mNo) (lo := none) rfl ha G1 F0.len
    rw [cut_map] at e
    refine ⟨S1.length, cutN figN none (some r), S1 ++ [.lst ((cutN figN none (some r)).map D.str)], ?_, ⟨cutN_sub figN none (some r), by simp, F1.new, ((Go.new.trans Go.new).trans G1).trans Go.new, by have := G1.len; simp at this; omega, by simp⟩, fun z => absurd z c⟩
    unfold fgE
    generalize mSl slA (lstE figN) (mNo) (mPart (mCall 2 (lv (j + 1) 4) (mCons (mVar 0) (mCons (mC (.int 4)) (mNil))))) = X at e ⊢
    simp [mBody, startE, mSeq, mAsg, mBin, mVar, mC, mCall, mCons, mNil, gN, mIfS, mIf, mTru, dTru, mRet, mTup, mAndT, mOrT, asB, dLt, dGt, dEq, sEq, PL.alt, iiI, iiB, mLst, newL, mNext, mNeg, mBlt, dSub, sz0, sz1, sz2, sz3, sz4, sz5, sz6, sz8, yd_some, hne, e]
end K11
end

section
set_option Elab.async false
set_option linter.all false
set_option maxRecDepth 100000
set_option maxHeartbeats 800000
namespace K11
open PySem PySem.Spec PyProof.Rows L2 PL
def poE : ME := mDisp [(mC (.str (Str.ofString "scene")), mVar 2), (mC (.str (Str.ofString "number")), mVar 3), (mC (.str (Str.ofString "place")), mVar 4), (mC (.str (Str.ofString "figure")), mVar 5), (mC (.str (Str.ofString "left")), mLst (mCons (mC (.int 60)) (mNil)))]
def okN (x : Str) : Bool := okB 12 (.str x) && PyData.strOk x
theorem six_ok : sixN.all okN = true := by decide +kernel
theorem num_ok : numN.all okN = true := by decide +kernel
theorem pla_ok : plaN.all okN = true := by decide +kernel
theorem fig_ok : figN.all okN = true := by decide +kernel
theorem sub_ok {M N : List Str} (h : M.Sublist N) (a : N.all okN = true) : ∀ x ∈ M, okB 12 (.str x) = true ∧ PyData.strOk x = true := fun x hx => by
  have := List.all_eq_true.mp a x (h.subset hx)
  unfold okN at this
  simpa using this
theorem mergeP (a b c d f : D) : mergeD [] [(.inr (Str.ofString "scene"), a), (.inr (Str.ofString "number"), b), (.inr (Str.ofString "place"), c), (.inr (Str.ofString "figure"), d), (.inr (Str.ofString "left"), f)] = [(.inr (Str.ofString "scene"), a), (.inr (Str.ofString "number"), b), (.inr (Str.ofString "place"), c), (.inr (Str.ofString "figure"), d), (.inr (Str.ofString "left"), f)] := by
  rfl
theorem po_ok {ns : List Int} {k n2 n3 n4 n5 : Nat} {S : Sto} {M2 M3 M4 M5 : List Str} (F : FeedAt ns k S) (x0 x1 : Option D) (rest : PL.Env)
    (h2 : M2.Sublist sixN ∧ S[n2]? = some (.lst (M2.map D.str)) ∧ 2 < n2) (h3 : M3.Sublist numN ∧ S[n3]? = some (.lst (M3.map D.str)) ∧ 2 < n3) (h4 : M4.Sublist plaN ∧ S[n4]? = some (.lst (M4.map D.str)) ∧ 2 < n4) (h5 : M5.Sublist figN ∧ S[n5]? = some (.lst (M5.map D.str)) ∧ 2 < n5) :
    ∃ S', poE (x0 :: x1 :: some (.ref n2) :: some (.ref n3) :: some (.ref n4) :: some (.ref n5) :: rest) S = some (.ref S.length, S') ∧ Iv ns ⟨S.length, n2, n3, n4, n5, S.length + 1, M2, M3, M4, M5⟩ k S' ∧ Go [] S S' := by
  have lt : ∀ {i : Nat} {o : Ob}, S[i]? = some o → i < S.length := fun h => (List.getElem?_eq_some_iff.mp h).1
  have l2 := lt h2.2.1
  have l3 := lt h3.2.1
  have l4 := lt h4.2.1
  have l5 := lt h5.2.1
  have up : ∀ {i : Nat} {o : Ob}, S[i]? = some o → (S ++ [Ob.dK (poolD ⟨S.length, n2, n3, n4, n5, S.length + 1, M2, M3, M4, M5⟩), .lst [.int 60]])[i]? = some o := fun h => by rw [List.getElem?_append_left (lt h)]; exact h
  refine ⟨S ++ [.dK (poolD ⟨S.length, n2, n3, n4, n5, S.length + 1, M2, M3, M4, M5⟩), .lst [.int 60]], ?_, ⟨F.new, ⟨by simp, up h2.2.1, up h3.2.1, up h4.2.1, up h5.2.1, ⟨60, by simp⟩, ⟨by dsimp only; omega, by dsimp only; omega, by dsimp only; omega, by dsimp only; omega, by dsimp only; omega, by dsimp only; omega⟩, ⟨by dsimp only; omega, by dsimp only; omega, by dsimp only; omega, by dsimp only; omega, by dsimp only; omega⟩⟩, ?_, ?_⟩, Go.new⟩
  · simp [poE, mDisp, mPairs, mC, mVar, mLst, mCons, mNil, newL, sz1, keyPs, keyD, mergeP, poolD]
  · intro x hx
    dsimp only at hx
    rcases hx with hx | hx | hx | hx
    · exact sub_ok h2.1 six_ok x hx
    · exact sub_ok h3.1 num_ok x hx
    · exact sub_ok h4.1 pla_ok x hx
    · exact sub_ok h5.1 fig_ok x hx
  · have a2 := h2.1.length_le
    have a3 := h3.1.length_le
    have a4 := h4.1.length_le
    have a5 := h5.1.length_le
    simp [sixN, numN, plaN, figN] at a2 a3 a4 a5
    dsimp only
    omega
theorem lc2_it {ns : List Int} {e : Px} {it : MI} {nx : Nxt} {g : MG} {t : MT} {el : ME} {vs : List Nat} {env : PL.Env} {E : D → PL.Env} {c W m k : Nat} {xs : List D} {R : D → D → Prop} {sk : Prop} {S S1 : Sto} (Kp : Sto → Prop) (hit : it env S = some ((xs.length + 1, nx), S1)) (h0 : Kp (S1 ++ [.lst []]))
    (hkp : ∀ T T', Kp T → Go [e.q, S1.length] T T' → Kp T') (hnx : ∀ i T, Kp T → nx i T = some xs[i]?)
    (hg : ∀ x ∈ xs, ∀ T, g x (wipeE env vs) T = some (E x, T)) (hs : xs.length ≤ sizeLine) (I : Iv ns e k S1)
    (hel : ∀ x ∈ xs, ∀ (k' : Nat) (T : Sto), Iv ns e k' T → k' + c ≤ k + c * xs.length → Kp T →
      (sk ∧ ∃ T', t (E x) T = some (false, T') ∧ Iv ns e (k' + c) T' ∧ Go [e.q] T T') ∨
      (∃ T1 y T', t (E x) T = some (true, T1) ∧ el (E x) T1 = some (y, T') ∧ R x y ∧ (∃ p, Ok W m y p) ∧ Iv ns e (k' + c) T' ∧ Go [e.q] T T')) :
    ∃ S' ys qs, mLc it g t el vs env S = some (.ref S1.length, S') ∧ S'[S1.length]? = some (.lst ys) ∧ Emb R sk xs ys ∧ OkL (xs.length * (W + 2)) m ys qs ∧ Iv ns e (k + c * xs.length) S' ∧ Go [e.q] S1 S' := by
  obtain ⟨T', ys, qs, f1, f2, f3, f4, f5, f6, f7⟩ := comp2 (nx := nx) (Kp := Kp) (g := g) (t := t) (el := el) (env := wipeE env vs) (E := E) (W := W) (R := R) (sk := sk) (m := m) (K := k + c * xs.length) I.apart
    hkp hnx hg hs (fun x hx k' T IT hk hK => hel x hx k' T IT hK hk) xs.length 0 k 0 (S1 ++ [.lst []]) [] [] (by omega) I.new h0 (Nat.le_refl _) (by simp) OkL.nil (by simp)
  refine ⟨T', ys, qs, ?_, by simpa using f2, by simpa using f3, by simpa using f4, f5, (Go.new.trans f7).drop (Nat.le_refl _)⟩
  unfold mLc
  rw [hit, Option.bind_some]
  dsimp only
  rw [f1, Option.bind_some]
end K11
end

section
set_option Elab.async false
set_option linter.all false
set_option maxRecDepth 100000
set_option maxHeartbeats 800000
namespace K11
open PySem PySem.Spec PyProof.Rows L2 PL
structure Small (e : Px) : Prop where
  s : e.sN.length ≤ 6
  n : e.nN.length ≤ 3
  p : e.pN.length ≤ 3
  f : e.fN.length ≤ 3
  pf : e.pN = [] → e.fN = []
  ne : e.sN ≠ []
def ev0 (e : Px) (x7 x8 x9 x10 x11 x12 x13 x14 x15 : Option D) : PL.Env := [some (.ref 2), some (.int 6), some (.ref e.sc), some (.ref e.nu), some (.ref e.pl), some (.ref e.fi), some (.ref e.p), x7, x8, x9, x10, x11, x12, x13, x14, x15]
def rowsE (C : Nat → MF) : ME := mLc (mEn (mCons (mVar 3) (mNil))) (gT 2 (gsC (gN 8) (gsC (gN 9) (gsN)))) (mYes) (mTup (mCons (mVar 9) (mCons (mC (.int 0)) (mCons (mBin dSub (mC (.int 9)) (mVar 8)) (mCons (mCall 2 (C 4) (mCons (mVar 0) (mCons (mC (.int 5)) (mNil)))) (mNil)))))) [8, 9]
def enumD (N : List Str) : List D := N.mapIdx fun i x => .tup [.int i, .str x]
def rowEnv (e : Px) (x7 x10 x11 x12 x13 x14 x15 : Option D) : D → PL.Env
  | .tup [i, s] => ev0 e x7 (some i) (some s) x10 x11 x12 x13 x14 x15
  | _ => []
theorem rows_ok {ns : List Int} {e : Px} {k j : Nat} {S : Sto} (I : Iv ns e k S) (sm : Small e) (hk : k + 10 < 1000000000) (x7 x8 x9 x10 x11 x12 x13 x14 x15 : Option D) :
    ∃ S' ys qs, rowsE (lv (j + 1)) (ev0 e x7 x8 x9 x10 x11 x12 x13 x14 x15) S = some (.ref S.length, S') ∧ S'[S.length]? = some (.lst ys) ∧ OkL 1000 1 ys qs ∧ Iv ns e (k + 3) S' ∧ Go [e.q] S S' := by
  have hl := sm.n
  have hlen : (enumD e.nN).length = e.nN.length := by simp [enumD]
  have hnu := I.po.nu
  have hn := I.po.n2
  have hq := I.po.nq
  have hlt := (List.getElem?_eq_some_iff.mp hnu).1
  obtain ⟨S', ys, qs, f1, f2, f3, f4, f5, f6⟩ := lc2_it (e := e) (ns := ns) (k := k) (c := 1) (W := 50) (m := 1) (xs := enumD e.nN) (R := fun _ _ => True) (sk := False) (S := S) (S1 := S)
    (it := mEn (mCons (mVar 3) (mNil))) (nx := nxE e.nu) (g := gT 2 (gsC (gN 8) (gsC (gN 9) (gsN)))) (t := mYes) (el := mTup (mCons (mVar 9) (mCons (mC (.int 0)) (mCons (mBin dSub (mC (.int 9)) (mVar 8)) (mCons (mCall 2 (lv (j + 1) 4) (mCons (mVar 0) (mCons (mC (.int 5)) (mNil)))) (mNil)))))) (vs := [8, 9])
    (env := ev0 e x7 x8 x9 x10 x11 x12 x13 x14 x15) (E := rowEnv e x7 x10 x11 x12 x13 x14 x15)
    (fun T => T[e.nu]? = some (.lst (e.nN.map D.str))) (by rw [hlen]; simp [mEn, mCons, mVar, mNil, ev0, enOf, seqAt, hnu]) (by rw [List.getElem?_append_left hlt]; exact hnu)
    (fun T T' h G => G.keep _ _ hn.2.2.1 (by simp; exact ⟨hq.2.2.1, by omega⟩) h) (fun i T h => by simp [nxE, seqAt, h, enumD]; rfl) (fun x hx T => by
      simp only [enumD, List.mem_mapIdx] at hx
      obtain ⟨i, hi, rfl⟩ := hx
      simp [gT, gsC, gN, gsN, rowEnv, ev0, wipeE]) (by rw [hlen]; exact Nat.le_trans hl (by decide)) I (fun x hx k' T IT hT h => .inr (by
      simp only [enumD, List.mem_mapIdx] at hx
      obtain ⟨i, hi, rfl⟩ := hx
      rw [hlen] at hT
      obtain ⟨r, T', d1, d2, d3, d4, d5⟩ := IT.draw (by omega) j 5 (by omega) (by omega)
      have h9 : (i : Int) < 10 := by omega
      have hok : Ok 50 1 (.tup [.str e.nN[i], .int 0, .int (9 - (i : Int)), .int r]) _ := (Ok.tup (OkL.cons (Ok.name I.gd (.inr (.inl (List.getElem_mem hi)))) (OkL.cons ((Ok.dig (r := 0) (by omega) (by omega)).mono (by omega : 8 ≤ 8) (Nat.le_refl _)) (OkL.cons (Ok.dig (r := 9 - (i : Int)) (by omega) (by omega)) (OkL.cons (Ok.dig d2 (by omega)) OkL.nil))))).mono (by omega) (by omega)
      refine ⟨T, .tup [.str e.nN[i], .int 0, .int (9 - (i : Int)), .int r], T', rfl, ?_, trivial, ⟨_, hok⟩, d4, d5⟩
      show mTup _ (ev0 e x7 (some (.int i)) (some (.str e.nN[i])) x10 x11 x12 x13 x14 x15) T = _
      dsimp only [ev0]
      generalize lv (j + 1) = C at d1 ⊢
      simp [mBody, startE, mSeq, mAsg, mBin, mVar, mC, mCall, mCons, mNil, gN, mIfS, mIf, mTru, dTru, mRet, mTup, mAndT, mOrT, asB, dLt, dGt, dEq, sEq, PL.alt, iiI, iiB, mLst, newL, mNext, mNeg, mBlt, dSub, sz0, sz1, sz2, sz3, sz4, sz5, sz6, sz8, yd_some, d1]))
  have hw : (enumD e.nN).length * (50 + 2) ≤ 3 * (50 + 2) := Nat.mul_le_mul_right _ (by omega)
  exact ⟨S', ys, qs, f1, f2, f4.mono (by omega) (Nat.le_refl _), f5.mono (by omega), f6⟩
def digitsE (C : Nat → MF) : ME := mLc (mR1 (mCons (mCall 2 (C 4) (mCons (mVar 0) (mCons (mC (.int 4)) (mNil)))) (mNil))) (gN 8) (mYes) (mCall 2 (C 4) (mCons (mVar 0) (mCons (mC (.int 10)) (mNil)))) [8]
theorem digits_ok {ns : List Int} {e : Px} {k j : Nat} {S : Sto} (I : Iv ns e k S) (hk : k + 10 < 1000000000) (x7 x8 x9 x10 x11 x12 x13 x14 x15 : Option D) :
    ∃ n S' ys qs, digitsE (lv (j + 1)) (ev0 e x7 x8 x9 x10 x11 x12 x13 x14 x15) S = some (.ref n, S') ∧ S'[n]? = some (.lst ys) ∧ OkL 1000 1 ys qs ∧ Iv ns e (k + 4) S' ∧ Go [e.q] S S' := by
  obtain ⟨r0, S1, e1, r00, r01, I1, G1⟩ := I.draw (by omega) j 4 (by omega) (by omega)
  obtain ⟨mm, rfl⟩ : ∃ mm : Nat, r0 = (mm : Int) := ⟨r0.toNat, by omega⟩
  obtain ⟨S2, ds, qs, f1, f2, f3, I2, G2⟩ := lcR_ok (ns := ns) (e := e) (a := mCons (mCall 2 (lv (j + 1) 4) (mCons (mVar 0) (mCons (mC (.int 4)) (mNil)))) (mNil))
    (el := mCall 2 (lv (j + 1) 4) (mCons (mVar 0) (mCons (mC (.int 10)) (mNil)))) (env := ev0 e x7 x8 x9 x10 x11 x12 x13 x14 x15)
    (S := S) (S1 := S1) (k := k + 1) (c := 1) (W := 8) (m := 0) (v := 8) (mm := mm) (by
      generalize lv (j + 1) = C at e1 ⊢
      simp [mCons, mCall, mVar, mC, mNil, ev0, e1]) (by omega) I1 (fun i k' T IT hT => by
      obtain ⟨r, T', d1, d2, d3, d4, d5⟩ := IT.draw (by omega) j 10 (by omega) (by omega)
      refine ⟨(.int r, T'), ?_, ⟨_, Ok.dig d2 d3⟩, d4, d5⟩
      generalize lv (j + 1) = C at d1 ⊢
      simp [mCall, mCons, mVar, mC, mNil, wipeE, ev0, d1])
  exact ⟨_, S2, ds, qs, f1, f2, f3.mono (by omega) (by omega), I2.mono (by omega), G1.trans G2⟩
def folkE (C : Nat → MF) : ME := mLc (mItr (mVar 5)) (gN 9) (mYes) (mTup (mCons (mVar 9) (mCons (mCall 2 (C 5) (mCons (mVar 0) (mCons (mVar 4) (mNil)))) (mNil)))) [9]
theorem folk_ok {ns : List Int} {e : Px} {k j : Nat} {S : Sto} (I : Iv ns e k S) (sm : Small e) (hk : k + 10 < 1000000000) (x7 x8 x9 x10 x11 x12 x13 x14 x15 : Option D) :
    ∃ n S' ys qs, folkE (lv (j + 2)) (ev0 e x7 x8 x9 x10 x11 x12 x13 x14 x15) S = some (.ref n, S') ∧ S'[n]? = some (.lst ys) ∧ OkL 1000 1 ys qs ∧ Iv ns e (k + 3) S' ∧ Go [e.q] S S' ∧ n ≠ 2 ∧ n ≠ e.q := by
  have hl := sm.f
  have hn := I.po.n2
  have hq := I.po.nq
  have hs3 := sz3
  obtain ⟨S', ys, qs, f1, f2, f3, f4, f5, f6⟩ := lc2_ref (e := e) (ns := ns) (k := k) (c := 1) (W := 31) (m := 1) (xs := e.fN.map D.str) (n := e.fi) (R := fun _ _ => True) (sk := False) (S := S) (S1 := S)
    (mm := mVar 5) (g := gN 9) (t := mYes) (el := mTup (mCons (mVar 9) (mCons (mCall 2 (lv (j + 2) 5) (mCons (mVar 0) (mCons (mVar 4) (mNil)))) (mNil)))) (vs := [9])
    (env := ev0 e x7 x8 x9 x10 x11 x12 x13 x14 x15) (E := fun x => ev0 e x7 x8 (some x) x10 x11 x12 x13 x14 x15) (by simp [mVar, ev0]) I.po.fi ⟨hn.2.2.2.2.1, hq.2.2.2.2⟩ (fun x hx T => by simp [gN, ev0, wipeE]) (by rw [List.length_map]; omega) I (fun x hx k' T IT hT h => .inr (by
      obtain ⟨z, hz, rfl⟩ := List.mem_map.mp hx
      rw [List.length_map] at hT
      have hpn : e.pN ≠ [] := fun c => by rw [sm.pf c] at hz; cases hz
      obtain ⟨y, T', d1, d2, d3, d4⟩ := IT.pick (by omega) j e.pl e.pN IT.po.pl hn.2.2.2.1 hpn I.ls.2.2.1
      refine ⟨T, .tup [.str z, .str y], T', rfl, ?_, trivial, ⟨_, (Ok.two (Ok.name I.gd (.inr (.inr (.inr hz)))) (Ok.name I.gd (.inr (.inr (.inl d2))))).mono (by omega) (by omega)⟩, d3, d4⟩
      dsimp only [ev0]
      generalize lv (j + 2) = C at d1 ⊢
      simp [mBody, startE, mSeq, mAsg, mBin, mVar, mC, mCall, mCons, mNil, gN, mIfS, mIf, mTru, dTru, mRet, mTup, mAndT, mOrT, asB, dLt, dGt, dEq, sEq, PL.alt, iiI, iiB, mLst, newL, mNext, mNeg, mBlt, dSub, sz0, sz1, sz2, sz3, sz4, sz5, sz6, sz8, yd_some, d1]))
  rw [List.length_map] at f4 f5
  have hw : e.fN.length * (31 + 2) ≤ 3 * (31 + 2) := Nat.mul_le_mul_right _ (by omega)
  have ap := I.apart
  exact ⟨_, S', ys, qs, f1, f2, f4.mono (by omega) (Nat.le_refl _), f5.mono (by omega), f6, by have := ap.n2; omega, ap.q⟩
def scenesE (C : Nat → MF) : ME := mLc (mItr (mVar 2)) (gN 9) (mYes) (mCall 3 (C 14) (mCons (mVar 0) (mCons (mVar 9) (mCons (mVar 6) (mNil))))) [9]
def IsScn (N : List Str) (x y : D) : Prop := ∃ s : Scn, y = s.toD ∧ x = .str s.nm ∧ s.In N
theorem emb_scn {N : List Str} {xs ys : List D} (h : Emb (IsScn N) False xs ys) : ∀ {M : List Str}, xs = M.map D.str → ∃ ss : List Scn, ys = ss.map Scn.toD ∧ ss.map Scn.nm = M ∧ ∀ s ∈ ss, s.In N := by
  induction h with
  | nil =>
    intro M hM
    cases M with
    | nil => exact ⟨[], rfl, rfl, by simp⟩
    | cons _ _ => cases hM
  | skip h _ _ => exact h.elim
  | take r _ ih =>
    intro M hM
    cases M with
    | nil => cases hM
    | cons z M =>
      rw [List.map_cons] at hM
      injection hM with h1 h2
      obtain ⟨s, rfl, h3, h4⟩ := r
      obtain ⟨ss, rfl, h5, h6⟩ := ih h2
      rw [h1] at h3
      injection h3 with h3
      refine ⟨s :: ss, rfl, by rw [List.map_cons, h5, ← h3], ?_⟩
      intro t ht
      rcases List.mem_cons.mp ht with rfl | ht
      · exact h4
      · exact h6 t ht
theorem scenes_ok {ns : List Int} {e : Px} {k j : Nat} {S : Sto} (I : Iv ns e k S) (sm : Small e) (hk : k + 140000 < 1000000000) (x7 x8 x9 x10 x11 x12 x13 x14 x15 : Option D) :
    ∃ n S' qs, ∃ ss : List Scn, scenesE (lv (j + 13)) (ev0 e x7 x8 x9 x10 x11 x12 x13 x14 x15) S = some (.ref n, S') ∧ S'[n]? = some (.lst (ss.map Scn.toD)) ∧ ss.map Scn.nm = e.sN ∧ (∀ s ∈ ss, s.In e.sN) ∧ OkL 2500000 12 (ss.map Scn.toD) qs ∧ Iv ns e (k + 138000) S' ∧ Go [e.q] S S' := by
  have hl := sm.s
  have hn := I.po.n2
  have hq := I.po.nq
  have hs3 := sz6
  obtain ⟨S', ys, qs, f1, f2, f3, f4, f5, f6⟩ := lc2_ref (e := e) (ns := ns) (k := k) (c := 23000) (W := 400000) (m := 12) (xs := e.sN.map D.str) (n := e.sc) (R := IsScn e.sN) (sk := False) (S := S) (S1 := S)
    (mm := mVar 2) (g := gN 9) (t := mYes) (el := mCall 3 (lv (j + 13) 14) (mCons (mVar 0) (mCons (mVar 9) (mCons (mVar 6) (mNil))))) (vs := [9])
    (env := ev0 e x7 x8 x9 x10 x11 x12 x13 x14 x15) (E := fun x => ev0 e x7 x8 (some x) x10 x11 x12 x13 x14 x15) (by simp [mVar, ev0]) I.po.sc ⟨hn.2.1, hq.2.1⟩ (fun x hx T => by simp [gN, ev0, wipeE]) (by rw [List.length_map]; omega) I (fun x hx k' T IT hT h => .inr (by
      obtain ⟨z, hz, rfl⟩ := List.mem_map.mp hx
      rw [List.length_map] at hT
      have hc : 23000 * e.sN.length ≤ 23000 * 6 := Nat.mul_le_mul_left _ hl
      obtain ⟨s, T', d1, d2, d3, d4, d5, d6⟩ := scene_ok j k' T z (I.gd z (.inl hz)).1 IT sm.ne (by omega)
      refine ⟨T, s.toD, T', rfl, ?_, ⟨s, rfl, by rw [d2], d3⟩, d4, d5, d6⟩
      dsimp only [ev0]
      generalize lv (j + 13) = C at d1 ⊢
      simp [mBody, startE, mSeq, mAsg, mBin, mVar, mC, mCall, mCons, mNil, gN, mIfS, mIf, mTru, dTru, mRet, mTup, mAndT, mOrT, asB, dLt, dGt, dEq, sEq, PL.alt, iiI, iiB, mLst, newL, mNext, mNeg, mBlt, dSub, sz0, sz1, sz2, sz3, sz4, sz5, sz6, sz8, yd_some, d1]))
  rw [List.length_map] at f4 f5
  have hw : e.sN.length * (400000 + 2) ≤ 6 * (400000 + 2) := Nat.mul_le_mul_right _ hl
  have hc : 23000 * e.sN.length ≤ 23000 * 6 := Nat.mul_le_mul_left _ hl
  obtain ⟨ss, rfl, h1, h2⟩ := emb_scn f3 rfl
  exact ⟨_, S', qs, ss, f1, f2, h1, h2, f4.mono (by omega) (Nat.le_refl _), f5.mono (by omega), f6⟩
end K11
end

section
set_option Elab.async false
set_option linter.all false
set_option maxRecDepth 100000
set_option maxHeartbeats 800000
namespace K11
open PySem PySem.Spec PyProof.Rows L2 PL
def doorE (C : Nat → MF) : ME := mLc (mItr (mVar 4)) (gN 12) (mAndT (asB (mBin dLt (mVar 11) (mVar 12))) (asB (mBin dEq (mCall 2 (C 4) (mCons (mVar 0) (mCons (mC (.int 2)) (mNil)))) (mC (.int 0))))) (mTup (mCons (mVar 11) (mCons (mVar 12) (mNil)))) [12]
def doorS (C : Nat → MF) : MS := mAsg (mBin dAdd (mVar 10) (doorE C)) (gN 10)
theorem door_ok {ns : List Int} {e : Px} {k j : Nat} {S : Sto} (I : Iv ns e k S) (sm : Small e) (hk : k + 10 < 1000000000) (z : Str) (hz : z ∈ e.pN) (x7 x8 x9 x10 x12 x13 x14 x15 : Option D) :
    ∃ S' ys qs, doorE (lv (j + 1)) (ev0 e x7 x8 x9 x10 (some (.str z)) x12 x13 x14 x15) S = some (.ref S.length, S') ∧ S'[S.length]? = some (.lst ys) ∧ OkL 200 1 ys qs ∧ Iv ns e (k + 3) S' ∧ Go [e.q] S S' := by
  have hl := sm.p
  have hn := I.po.n2
  have hq := I.po.nq
  have hs3 := sz3
  obtain ⟨S', ys, qs, f1, f2, f3, f4, f5, f6⟩ := lc2_ref (e := e) (ns := ns) (k := k) (c := 1) (W := 31) (m := 1) (xs := e.pN.map D.str) (n := e.pl) (R := fun _ _ => True) (sk := True) (S := S) (S1 := S)
    (mm := mVar 4) (g := gN 12) (t := mAndT (asB (mBin dLt (mVar 11) (mVar 12))) (asB (mBin dEq (mCall 2 (lv (j + 1) 4) (mCons (mVar 0) (mCons (mC (.int 2)) (mNil)))) (mC (.int 0))))) (el := mTup (mCons (mVar 11) (mCons (mVar 12) (mNil)))) (vs := [12])
    (env := ev0 e x7 x8 x9 x10 (some (.str z)) x12 x13 x14 x15) (E := fun x => ev0 e x7 x8 x9 x10 (some (.str z)) (some x) x13 x14 x15) (by simp [mVar, ev0]) I.po.pl ⟨hn.2.2.2.1, hq.2.2.2.1⟩ (fun x hx T => by simp [gN, ev0, wipeE]) (by rw [List.length_map]; omega) I (fun x hx k' T IT hT h => by
      obtain ⟨y, hy, rfl⟩ := List.mem_map.mp hx
      rw [List.length_map] at hT
      by_cases hlt : z.cps < y.cps
      · obtain ⟨r, T', d1, d2, d3, d4, d5⟩ := IT.draw (by omega) j 2 (by omega) (by omega)
        have hok : Ok 31 1 (.tup [.str z, .str y]) _ := (Ok.two (Ok.name I.gd (.inr (.inr (.inl hz)))) (Ok.name I.gd (.inr (.inr (.inl hy))))).mono (by omega) (by omega)
        by_cases hr : r = 0
        · refine .inr ⟨T', .tup [.str z, .str y], T', ?_, ?_, trivial, ⟨_, hok⟩, d4, d5⟩
          · dsimp only [ev0]
            generalize lv (j + 1) = C at d1 ⊢
            simp [mBody, startE, mSeq, mAsg, mBin, mVar, mC, mCall, mCons, mNil, gN, mIfS, mIf, mTru, dTru, mRet, mTup, mAndT, mOrT, asB, dLt, dGt, dEq, sEq, PL.alt, iiI, iiB, mLst, newL, mNext, mNeg, mBlt, dSub, sz0, sz1, sz2, sz3, sz4, sz5, sz6, sz8, yd_some, d1, ssB, hlt, hr]
          · dsimp only [ev0]
            simp [mBody, startE, mSeq, mAsg, mBin, mVar, mC, mCall, mCons, mNil, gN, mIfS, mIf, mTru, dTru, mRet, mTup, mAndT, mOrT, asB, dLt, dGt, dEq, sEq, PL.alt, iiI, iiB, mLst, newL, mNext, mNeg, mBlt, dSub, sz0, sz1, sz2, sz3, sz4, sz5, sz6, sz8, yd_some]
        · refine .inl ⟨trivial, T', ?_, d4, d5⟩
          dsimp only [ev0]
          generalize lv (j + 1) = C at d1 ⊢
          simp [mBody, startE, mSeq, mAsg, mBin, mVar, mC, mCall, mCons, mNil, gN, mIfS, mIf, mTru, dTru, mRet, mTup, mAndT, mOrT, asB, dLt, dGt, dEq, sEq, PL.alt, iiI, iiB, mLst, newL, mNext, mNeg, mBlt, dSub, sz0, sz1, sz2, sz3, sz4, sz5, sz6, sz8, yd_some, d1, ssB, hlt, hr]
      · refine .inl ⟨trivial, T, ?_, IT.mono (by omega), Go.refl⟩
        dsimp only [ev0]
        generalize lv (j + 1) = C
        simp [mBody, startE, mSeq, mAsg, mBin, mVar, mC, mCall, mCons, mNil, gN, mIfS, mIf, mTru, dTru, mRet, mTup, mAndT, mOrT, asB, dLt, dGt, dEq, sEq, PL.alt, iiI, iiB, mLst, newL, mNext, mNeg, mBlt, dSub, sz0, sz1, sz2, sz3, sz4, sz5, sz6, sz8, yd_some, ssB, hlt])
  rw [List.length_map] at f4 f5
  have hw : e.pN.length * (31 + 2) ≤ 3 * (31 + 2) := Nat.mul_le_mul_right _ (by omega)
  exact ⟨S', ys, qs, f1, f2, f4.mono (by omega) (Nat.le_refl _), f5.mono (by omega), f6⟩
theorem doors_loop {ns : List Int} {e : Px} {j : Nat} (sm : Small e) (x7 x8 x9 x12 x13 x14 x15 : Option D) : ∀ (t i k V : Nat) (T : Sto) (d : Nat) (ds : List D) (ps : List PyData) (x11 : Option D), i + t = e.pN.length → Iv ns e k T → k + 10 * t + 10 < 1000000000 → T[d]? = some (.lst ds) → d ≠ 2 → d ≠ e.q → OkL V 1 ds ps → V + 200 * t ≤ 10000 →
    ∃ T' d' ds' ps' x11', mForL (nxL e.pl) (gN 11) (doorS (lv (j + 1))) (t + 1) i (ev0 e x7 x8 x9 (some (.ref d)) x11 x12 x13 x14 x15) T = some (.nx, ev0 e x7 x8 x9 (some (.ref d')) x11' x12 x13 x14 x15, T') ∧ T'[d']? = some (.lst ds') ∧ d' ≠ 2 ∧ d' ≠ e.q ∧ OkL (V + 200 * t) 1 ds' ps' ∧ Iv ns e (k + 3 * t) T' ∧ Go [e.q] T T' := by
  intro t
  induction t with
  | zero =>
    intro i k V T d ds ps x11 hi I hk hT h2 h3 ok hV
    have h : (e.pN.map D.str)[i]? = none := List.getElem?_eq_none (by simp; omega)
    refine ⟨T, d, ds, ps, x11, ?_, hT, h2, h3, ok, I, Go.refl⟩
    have hp := I.po.pl
    simp [mForL, nxL, seqAt, hp]
    have : e.pN[i]? = none := List.getElem?_eq_none (by omega)
    simp [this]
  | succ t ih =>
    intro i k V T d ds ps x11 hi I hk hT h2 h3 ok hV
    have hlt : i < e.pN.length := by omega
    have hp := I.po.pl
    obtain ⟨T1, ys, qs, f1, f2, f3, I1, G1⟩ := door_ok (j := j) I sm (by omega) e.pN[i] (List.getElem_mem hlt) x7 x8 x9 (some (.ref d)) x12 x13 x14 x15
    have hT1 : T1[d]? = some (.lst ds) := G1.keep _ _ h2 (by simpa using h3) hT
    have hl1 := ok.len
    have hl2 := f3.len
    have hsz : 10000 ≤ sizeLine := by decide
    have ap := I1.apart
    obtain ⟨T', d', ds', ps', x11', g1, g2, g3, g4, g5, g6, g7⟩ := ih (i + 1) (k + 3) (V + 200) (T1 ++ [.lst (ds ++ ys)]) T1.length (ds ++ ys) _ (some (.str e.pN[i])) (by omega) I1.new (by omega) (by simp) (by have := ap.n2; omega) ap.q (ok.app f3) (by omega)
    refine ⟨T', d', ds', ps', x11', ?_, g2, g3, g4, g5.mono (by omega) (Nat.le_refl _), g6.mono (by omega), (G1.trans Go.new).trans g7⟩
    have hx : nxL e.pl i T = some (some (.str e.pN[i])) := by
      simp [nxL, seqAt, hp, List.getElem?_eq_getElem hlt]
    have hb : doorS (lv (j + 1)) (ev0 e x7 x8 x9 (some (.ref d)) (some (.str e.pN[i])) x12 x13 x14 x15) T = some (.nx, ev0 e x7 x8 x9 (some (.ref T1.length)) (some (.str e.pN[i])) x12 x13 x14 x15, T1 ++ [.lst (ds ++ ys)]) := by
      unfold doorS
      generalize doorE (lv (j + 1)) = X at f1 ⊢
      dsimp only [ev0] at f1 ⊢
      have hsum : ds.length + ys.length ≤ sizeLine := by omega
      simp [mBody, startE, mSeq, mAsg, mBin, mVar, mC, mCall, mCons, mNil, gN, mIfS, mIf, mTru, dTru, mRet, mTup, mAndT, mOrT, asB, dLt, dGt, dEq, sEq, PL.alt, iiI, iiB, mLst, newL, mNext, mNeg, mBlt, dSub, sz0, sz1, sz2, sz3, sz4, sz5, sz6, sz8, yd_some, f1, dAdd, ssS, ttT, llL, hT1, f2, hsum]
    have hg : gN 11 (.str e.pN[i]) (ev0 e x7 x8 x9 (some (.ref d)) x11 x12 x13 x14 x15) T = some (ev0 e x7 x8 x9 (some (.ref d)) (some (.str e.pN[i])) x12 x13 x14 x15, T) := rfl
    unfold mForL
    rw [hx, Option.bind_some]
    dsimp only
    rw [hg, Option.bind_some, hb, Option.bind_some]
    exact g1
end K11
end

section
set_option Elab.async false
set_option linter.all false
set_option maxRecDepth 100000
set_option maxHeartbeats 1600000
namespace K11
open PySem PySem.Spec PyProof.Rows L2 PL
structure Tale where
  a0 : D
  a1 : D
  a2 : D
  a3 : D
  a4 : D
  ss : List Scn
  bg : Str
def Tale.toD (t : Tale) : D := .tup [t.a0, t.a1, t.a2, t.a3, t.a4, .tup (t.ss.map Scn.toD), .str t.bg]
def Tale.names (t : Tale) : List Str := t.ss.map Scn.nm
structure Tale.Whole (t : Tale) : Prop where
  nd : t.names.Nodup
  bg : t.bg ∈ t.names
  cl : ∀ s ∈ t.ss, s.In t.names
  ok : ∀ x ∈ t.names, okN x = true
  few : t.ss.length ≤ 8
def lastE (C : Nat → MF) : ME := mTup (mCons (mBlt gTuple (mCons (mVar 7) (mNil))) (mCons (mBlt gTuple (mCons (mVar 4) (mNil))) (mCons (mBlt gTuple (mCons (mVar 10) (mNil))) (mCons (mBlt gTuple (mCons (mVar 14) (mNil))) (mCons (mVar 13) (mCons (mVar 15) (mCons (mCall 2 (C 5) (mCons (mVar 0) (mCons (mVar 2) (mNil)))) (mNil))))))))
def taleB (C : Nat → MF) : MS := mSeq (mAsg (rowsE C) (gN 7)) (mSeq (mAsg (mLst (mNil)) (gN 10)) (mSeq (mFor (mItr (mVar 4)) (gN 11) (doorS C)) (mSeq (mAsg (mBlt gTuple (mCons (digitsE C) (mNil))) (gN 13)) (mSeq (mAsg (folkE C) (gN 14)) (mSeq (mAsg (mBlt gTuple (mCons (scenesE C) (mNil))) (gN 15)) (mRet (lastE C)))))))
def taleA (C : Nat → MF) : MS := mSeq (mAsg (nmE C) (gN 2)) (mSeq (mAsg (twoE C numN) (gN 3)) (mSeq (mAsg (twoE C plaN) (gN 4)) (mSeq (mAsg (fgE C) (gN 5)) (mSeq (mAsg poE (gN 6)) (taleB C)))))
theorem m15_def (C : Nat → MF) : m15 C = mBody 16 (taleA C) := rfl
theorem taleB_ok {ns : List Int} {e : Px} {k j : Nat} {S : Sto} (I : Iv ns e k S) (sm : Small e) (hnd : e.sN.Nodup) (hk : k + 200000 < 1000000000) :
    ∃ (t : Tale) (S' : Sto) (E : PL.Env), taleB (lv (j + 13)) (ev0 e none none none none none none none none none) S = some (.rt t.toD, E, S') ∧ t.Whole ∧ t.names = e.sN ∧ (∃ p, Ok 3000000 14 t.toD p) ∧ Iv ns e (k + 150000) S' ∧ Go [e.q] S S' := by
  obtain ⟨S1, rs, qr, e1, r1, okr, I1, G1⟩ := rows_ok (j := j + 12) I sm (by omega) none none none none none none none none none
  have I2 := I1.new (T := [.lst []])
  have ap2 := I1.apart
  have hsp := sm.p
  obtain ⟨S3, d', ds, qd, x11, e3, r3, h32, h3q, okd, I3, G3⟩ := doors_loop (j := j + 12) sm (some (.ref S.length)) none none none none none none e.pN.length 0 (k + 3) 0 (S1 ++ [.lst []]) S1.length [] [] none (by omega) I2 (by omega) (by simp) (by have := ap2.n2; omega) ap2.q OkL.nil (by omega)
  obtain ⟨n4, S4, gs, qg, e4, r4, okg, I4, G4⟩ := digits_ok (j := j + 12) I3 (by omega) (some (.ref S.length)) none none (some (.ref d')) x11 none none none none
  obtain ⟨n5, S5, fs, qf, e5, r5, okf, I5, G5, h52, h5q⟩ := folk_ok (j := j + 11) I4 sm (by omega) (some (.ref S.length)) none none (some (.ref d')) x11 none (some (.tup gs)) none none
  obtain ⟨n6, S6, qs, ss, e6, r6, hnm, hin, oks, I6, G6⟩ := scenes_ok (j := j) I5 sm (by omega) (some (.ref S.length)) none none (some (.ref d')) x11 none (some (.tup gs)) (some (.ref n5)) none
  have hn := I6.po.n2
  obtain ⟨bg, S7, e7, hbg, I7, G7⟩ := I6.pick (by omega) (j + 11) e.sc e.sN I6.po.sc hn.2.1 sm.ne I6.ls.1
  have ap := I.apart
  have G16 := (((((Go.new (X := [e.q]) (S := S1) (T := [Ob.lst []])).trans G3).trans G4).trans G5).trans G6)
  have hS : S6[S.length]? = some (.lst rs) := G16.keep _ _ (by have := ap.n2; omega) (by simpa using ap.q) r1
  have hd : S6[d']? = some (.lst ds) := ((G4.trans G5).trans G6).keep _ _ h32 (by simpa using h3q) r3
  have hf : S6[n5]? = some (.lst fs) := G6.keep _ _ h52 (by simpa using h5q) r5
  have hp := I6.po.pl
  have tup : ∀ {n : Nat} {xs : List D} {T : Sto}, T[n]? = some (.lst xs) → gTuple [.ref n] T = some (.tup xs, T) := fun h => by simp [gTuple, seqAt, h]
  have hfor : mFor (mItr (mVar 4)) (gN 11) (doorS (lv (j + 13))) (ev0 e (some (.ref S.length)) none none (some (.ref S1.length)) none none none none none) (S1 ++ [.lst []]) = some (.nx, ev0 e (some (.ref S.length)) none none (some (.ref d')) x11 none none none none, S3) := by
    have hp2 := I2.po.pl
    have hi : mItr (mVar 4) (ev0 e (some (.ref S.length)) none none (some (.ref S1.length)) none none none none none) (S1 ++ [.lst []]) = some ((e.pN.length + 1, nxL e.pl), S1 ++ [.lst []]) := by
      simp [mItr, mVar, ev0, itrOf, seqAt, hp2]
    unfold mFor
    rw [hi, Option.bind_some]
    exact e3
  have hbe := (I.gd bg (.inl hbg)).1
  have okP := okL_strs e.pN fun x hx => (I.gd x (.inr (.inr (.inl hx)))).1
  have okt := Ok.tup (OkL.cons ((Ok.tup okr).mono (Nat.le_refl _) (by omega : 2 ≤ 13)) (OkL.cons ((Ok.tup okP).mono (Nat.le_refl _) (by omega)) (OkL.cons ((Ok.tup okd).mono (Nat.le_refl _) (by omega)) (OkL.cons ((Ok.tup okf).mono (Nat.le_refl _) (by omega)) (OkL.cons ((Ok.tup okg).mono (Nat.le_refl _) (by omega)) (OkL.cons ((Ok.tup oks).mono (Nat.le_refl _) (by omega)) (OkL.cons ((Ok.word hbe).mono (Nat.le_refl _) (by omega)) OkL.nil)))))))
  have okt2 : ∃ p, Ok 3000000 14 (.tup [.tup rs, .tup (e.pN.map D.str), .tup ds, .tup fs, .tup gs, .tup (ss.map Scn.toD), .str bg]) p := ⟨_, okt.mono (by omega) (by omega)⟩
  have I8 : Iv ns e (k + 150000) S7 := I7.mono (by omega)
  have GG : Go [e.q] S S7 := (G1.trans G16).trans G7
  refine ⟨⟨.tup rs, .tup (e.pN.map D.str), .tup ds, .tup fs, .tup gs, ss, bg⟩, S7, ev0 e (some (.ref S.length)) none none (some (.ref d')) x11 none (some (.tup gs)) (some (.ref n5)) (some (.tup (ss.map Scn.toD))), ?_, ⟨by rw [Tale.names, hnm]; exact hnd, by rw [Tale.names, hnm]; exact hbg, by rw [Tale.names, hnm]; exact hin, fun x hx => ?_, ?_⟩, hnm, okt2, I8, GG⟩
  · have e7' : lv (j + 13) 5 [.ref 2, .ref e.sc] S6 = some (.str bg, S7) := e7
    unfold taleB
    generalize rowsE (lv (j + 13)) = X1 at e1 ⊢
    generalize mFor (mItr (mVar 4)) (gN 11) (doorS (lv (j + 13))) = X2 at hfor ⊢
    generalize digitsE (lv (j + 13)) = X3 at e4 ⊢
    generalize folkE (lv (j + 13)) = X4 at e5 ⊢
    generalize scenesE (lv (j + 13)) = X5 at e6 ⊢
    generalize lv (j + 13) = C at e7' ⊢
    dsimp only [ev0] at e1 hfor e4 e5 e6 ⊢
    have t4 := tup r4
    have t6 := tup r6
    have q1 := tup hS
    have q2 := tup hp
    have q3 := tup hd
    have q4 := tup hf
    have sz7 : 7 ≤ sizeLine := by decide
    simp [mBody, startE, mSeq, mAsg, mBin, mVar, mC, mCall, mCons, mNil, gN, mIfS, mIf, mTru, dTru, mRet, mTup, mAndT, mOrT, asB, dLt, dGt, dEq, sEq, PL.alt, iiI, iiB, mLst, newL, mNext, mNeg, mBlt, dSub, sz0, sz1, sz2, sz3, sz4, sz5, sz6, sz8, yd_some, e1, hfor, e4, t4, e5, e6, t6, lastE, q1, q2, q3, q4, e7', sz7, Tale.toD]
  · rw [Tale.names, hnm] at hx
    have := I.gd x (.inl hx)
    simp [okN, this]
  · have : ss.length = e.sN.length := by rw [← hnm, List.length_map]
    have := sm.s
    dsimp only
    omega
end K11
end

section
set_option Elab.async false
set_option linter.all false
set_option maxRecDepth 100000
set_option maxHeartbeats 1600000
namespace K11
open PySem PySem.Spec PyProof.Rows L2 PL
theorem Go.hide {q : Nat} {S S1 S2 : Sto} (a : Go [] S S1) (b : Go [q] S1 S2) (h : S.length ≤ q) : Go [] S S2 := ⟨Nat.le_trans a.len b.len, fun i o h1 h2 e => by
  have hi := (List.getElem?_eq_some_iff.mp e).1
  exact b.keep i o h1 (by simp; omega) (a.keep i o h1 h2 e)⟩
theorem Nm.at {ns : List Int} {N M : List Str} {k n : Nat} {S S' T : Sto} (h : Nm ns N k S n M S') (h3 : 2 < S.length) (G : Go [] S' T) : T[n]? = some (.lst (M.map D.str)) := G.keep _ _ (by have := h.2.2.2.2.1; omega) (by simp) h.2.1
theorem tale_ok {ns : List Int} {k j : Nat} {S : Sto} (F : FeedAt ns k S) (hk : k + 210000 < 1000000000) :
    ∃ (t : Tale) (S' : Sto), lv (j + 14) 15 [.ref 2, .int 6] S = some (t.toD, S') ∧ t.Whole ∧ (∃ p, Ok 3000000 14 t.toD p) ∧ FeedAt ns (k + 160000) S' ∧ Go [] S S' := by
  have h3 := F.len
  obtain ⟨n2, M2, S1, e1, N1, ne1⟩ := nm_ok (j := j + 12) F (by omega) (List.replicate 14 none)
  obtain ⟨n3, M3, S2, e2, N2⟩ := two_ok (j := j + 12) N1.2.2.1 (by omega) numN (by decide) (some (.int 6) :: some (.ref n2) :: List.replicate 13 none)
  obtain ⟨n4, M4, S3, e3, N3⟩ := two_ok (j := j + 12) N2.2.2.1 (by omega) plaN (by decide) (some (.int 6) :: some (.ref n2) :: some (.ref n3) :: List.replicate 12 none)
  obtain ⟨n5, M5, S4, e4, N4, hpf⟩ := fg_ok (j := j + 12) N3.2.2.1 (by omega) N3.2.1 (fun x hx => (sub_ok N3.1 pla_ok x hx).2) (some (.int 6)) (some (.ref n2)) (some (.ref n3)) (List.replicate 11 none)
  have L1 := N1.2.2.2.1.len
  have L2 := N2.2.2.2.1.len
  have L3 := N3.2.2.2.1.len
  have L4 := N4.2.2.2.1.len
  have G34 := N3.2.2.2.1.trans N4.2.2.2.1
  have G24 := N2.2.2.2.1.trans G34
  have G14 := N1.2.2.2.1.trans G24
  have b1 := N1.2.2.2.2.1
  have b2 := N2.2.2.2.2.1
  have b3 := N3.2.2.2.2.1
  have b4 := N4.2.2.2.2.1
  obtain ⟨S5, e5, I, G5⟩ := po_ok N4.2.2.1 (some (.ref 2)) (some (.int 6)) (List.replicate 10 none) ⟨N1.1, N1.at h3 G24, by omega⟩ ⟨N2.1, N2.at (by omega) G34, by omega⟩ ⟨N3.1, N3.at (by omega) N4.2.2.2.1, by omega⟩ ⟨N4.1, N4.at (by omega) Go.refl, by omega⟩
  have a2 := N1.1.length_le
  have a3 := N2.1.length_le
  have a4 := N3.1.length_le
  have a5 := N4.1.length_le
  simp [sixN, numN, plaN, figN] at a2 a3 a4 a5
  obtain ⟨t, S6, E, e6, hw, hn, ok, I6, G6⟩ := taleB_ok (j := j) I ⟨a2, a3, a4, a5, hpf, ne1⟩ (N1.1.nodup (show sixN.Nodup by decide +kernel)) (by omega)
  refine ⟨t, S6, ?_, hw, ok, I6.fd.mono (by omega), (G14.trans G5).hide G6 (by dsimp only; omega)⟩
  show m15 (lv (j + 13)) _ S = _
  rw [m15_def]
  unfold taleA
  have e1' : nmE (lv (j + 13)) (some (.ref 2) :: some (.int 6) :: List.replicate 14 none) S = some (.ref n2, S1) := e1
  have e2' : twoE (lv (j + 13)) numN (some (.ref 2) :: some (.int 6) :: some (.ref n2) :: List.replicate 13 none) S1 = some (.ref n3, S2) := e2
  have e3' : twoE (lv (j + 13)) plaN (some (.ref 2) :: some (.int 6) :: some (.ref n2) :: some (.ref n3) :: List.replicate 12 none) S2 = some (.ref n4, S3) := e3
  have e4' : fgE (lv (j + 13)) (some (.ref 2) :: some (.int 6) :: some (.ref n2) :: some (.ref n3) :: some (.ref n4) :: List.replicate 11 none) S3 = some (.ref n5, S4) := e4
  generalize nmE (lv (j + 13)) = X1 at e1' ⊢
  generalize twoE (lv (j + 13)) numN = X2 at e2' ⊢
  generalize twoE (lv (j + 13)) plaN = X3 at e3' ⊢
  generalize fgE (lv (j + 13)) = X4 at e4' ⊢
  generalize poE = X5 at e5 ⊢
  generalize taleB (lv (j + 13)) = X6 at e6 ⊢
  generalize lv (j + 13) = C
  simp only [List.replicate] at e1' e2' e3' e4' e5
  dsimp only [ev0] at e6
  simp [mBody, startE, mSeq, mAsg, mBin, mVar, mC, mCall, mCons, mNil, gN, mIfS, mIf, mTru, dTru, mRet, mTup, mAndT, mOrT, asB, dLt, dGt, dEq, sEq, PL.alt, iiI, iiB, mLst, newL, mNext, mNeg, mBlt, dSub, sz0, sz1, sz2, sz3, sz4, sz5, sz6, sz8, yd_some, List.replicate, e1', e2', e3', e4', e5, e6]
end K11
end

section
set_option Elab.async false
set_option linter.all false
set_option maxRecDepth 100000
set_option maxHeartbeats 800000
namespace K11
open PySem PySem.Spec PyProof.Rows L2 PL
theorem nodup_le {α : Type} [DecidableEq α] : ∀ {l m : List α}, l.Nodup → (∀ x ∈ l, x ∈ m) → l.length ≤ m.length
  | [], _, _, _ => Nat.zero_le _
  | x :: l, m, hn, hs => by
    have hx : x ∈ m := hs x (List.mem_cons_self ..)
    have h1 := List.nodup_cons.mp hn
    have ih := nodup_le (l := l) (m := m.erase x) h1.2 fun y hy => by
      have hne : y ≠ x := fun c => h1.1 (c ▸ hy)
      exact (List.mem_erase_of_ne hne).mpr (hs y (List.mem_cons_of_mem _ hy))
    rw [List.length_erase_of_mem hx] at ih
    have : 0 < m.length := List.length_pos_of_mem hx
    rw [List.length_cons]
    omega
/-- what a scene leads to by itself -/
def Scn.more (s : Scn) : List Str := s.wv ++ s.cs.flatMap Chc.ys
def Suc (t : Tale) (x y : Str) : Prop := ∃ s ∈ t.ss, s.nm = x ∧ y ∈ s.more
inductive Rch (t : Tale) : Str → Prop
  | bg : Rch t t.bg
  | step {x y : Str} : Rch t x → Suc t x y → Rch t y
/-- K is found, L of it is left -/
structure Wl (t : Tale) (K L : List Str) : Prop where
  nd : K.Nodup
  sub : ∀ x ∈ K, x ∈ t.names
  ll : ∀ x ∈ L, x ∈ K
  rch : ∀ x ∈ K, Rch t x
  cl : ∀ x ∈ K, x ∈ L ∨ ∀ y, Suc t x y → y ∈ K
  bg : t.bg ∈ K
theorem wl0 {t : Tale} (w : t.Whole) : Wl t [t.bg] [t.bg] := ⟨by simp, by simpa using w.bg, by simp, by simpa using Rch.bg, by simp, by simp⟩
theorem wl_end {t : Tale} {K : List Str} (w : Wl t K []) (x : Str) : x ∈ K ↔ Rch t x := by
  refine ⟨w.rch x, fun h => ?_⟩
  induction h with
  | bg => exact w.bg
  | step _ s ih =>
    rcases w.cl _ ih with h | h
    · cases h
    · exact h _ s
theorem suc_in {t : Tale} (w : t.Whole) {x y : Str} (h : Suc t x y) : y ∈ t.names := by
  obtain ⟨s, hs, _, hy⟩ := h
  have hc := w.cl s hs
  rcases List.mem_append.mp hy with h | h
  · exact hc.2.1 y h
  · obtain ⟨c, hcs, hy⟩ := List.mem_flatMap.mp h
    exact (hc.1 c hcs).1 y hy
theorem nm_inj {ss : List Scn} (h : (ss.map Scn.nm).Nodup) {s u : Scn} (hs : s ∈ ss) (hu : u ∈ ss) (e : s.nm = u.nm) : s = u := by
  induction ss with
  | nil => cases hs
  | cons a ss ih =>
    rw [List.map_cons, List.nodup_cons] at h
    rcases List.mem_cons.mp hs with h1 | h1 <;> rcases List.mem_cons.mp hu with h2 | h2
    · rw [h1, h2]
    · exact (h.1 (List.mem_map.mpr ⟨u, h2, by rw [← e, h1]⟩)).elim
    · exact (h.1 (List.mem_map.mpr ⟨s, h1, by rw [e, h2]⟩)).elim
    · exact ih h.2 h1 h2
theorem suc_iff {t : Tale} (w : t.Whole) {s : Scn} (hs : s ∈ t.ss) {y : Str} : Suc t s.nm y ↔ y ∈ s.more := by
  refine ⟨fun ⟨u, hu, e, hy⟩ => ?_, fun h => ⟨s, hs, rfl, h⟩⟩
  rw [nm_inj w.nd hs hu e.symm]
  exact hy
theorem wl_step {t : Tale} (w : t.Whole) {K K' L L' : List Str} {s : Scn} (hs : s ∈ t.ss) (h : Wl t K (L ++ [s.nm])) (nd : K'.Nodup) (hK : ∀ y, y ∈ K' ↔ y ∈ K ∨ y ∈ s.more) (h1 : ∀ y ∈ L', y ∈ K') (h2 : ∀ y ∈ K', y ∉ K → y ∈ L') (h3 : ∀ y ∈ L, y ∈ L') : Wl t K' L' := by
  have hx : s.nm ∈ K := h.ll _ (by simp)
  refine ⟨nd, fun x hx' => ?_, h1, fun x hx' => ?_, fun x hx' => ?_, (hK _).mpr (.inl h.bg)⟩
  · rcases (hK x).mp hx' with a | a
    · exact h.sub x a
    · exact suc_in w ((suc_iff w hs).mpr a)
  · rcases (hK x).mp hx' with a | a
    · exact h.rch x a
    · exact .step (h.rch _ hx) ((suc_iff w hs).mpr a)
  · by_cases a : x ∈ K
    · rcases h.cl x a with b | b
      · rcases List.mem_append.mp b with b | b
        · exact .inl (h3 x b)
        · rw [List.mem_singleton] at b
          subst b
          exact .inr fun y hy => (hK y).mpr (.inr ((suc_iff w hs).mp hy))
      · exact .inr fun y hy => (hK y).mpr (.inl (b y hy))
    · exact .inl (h2 x hx' a)
theorem Wl.few {t : Tale} (w : t.Whole) {K L : List Str} (h : Wl t K L) : K.length ≤ t.names.length := nodup_le h.nd h.sub
theorem names_few {t : Tale} (w : t.Whole) : t.names.length ≤ 8 := by
  rw [Tale.names, List.length_map]
  exact w.few
/-! dicts of names -/
def kd (K : List Str) : List (Key × D) := K.map fun x => ((.inr x : Key), D.bl true)
def add1 (K : List Str) (y : Str) : List Str := if y ∈ K then K else K ++ [y]
def addK (K more : List Str) : List Str := more.foldl add1 K
theorem mem_add1 {K : List Str} {x y : Str} : x ∈ add1 K y ↔ x ∈ K ∨ x = y := by
  unfold add1
  split
  · rename_i h
    exact ⟨.inl, fun a => a.elim id fun e => e ▸ h⟩
  · simp
theorem nodup_add1 {K : List Str} {y : Str} (h : K.Nodup) : (add1 K y).Nodup := by
  unfold add1
  split
  · exact h
  · rename_i c
    rw [List.nodup_append]
    exact ⟨h, by simp, fun a ha b hb e => c (by rw [List.mem_singleton] at hb; rw [← hb, ← e]; exact ha)⟩
theorem mem_addK {x : Str} : ∀ {more K : List Str}, x ∈ addK K more ↔ x ∈ K ∨ x ∈ more
  | [], K => by simp [addK]
  | y :: ys, K => by
    have := mem_addK (x := x) (more := ys) (K := add1 K y)
    unfold addK at this ⊢
    rw [List.foldl_cons, this, mem_add1, List.mem_cons, or_assoc]
theorem nodup_addK : ∀ {more K : List Str}, K.Nodup → (addK K more).Nodup
  | [], K, h => h
  | y :: ys, K, h => nodup_addK (more := ys) (K := add1 K y) (nodup_add1 h)
theorem kd_any (K : List Str) (y : Str) : ((kd K).any fun kv => decide (kv.1 = .inr y)) = decide (y ∈ K) := by
  induction K with
  | nil => rfl
  | cons x xs ih =>
    show (decide ((Sum.inr x : Key) = .inr y) || (kd xs).any fun kv => decide (kv.1 = .inr y)) = _
    rw [ih]
    by_cases h : x = y
    · simp [h]
    · have h' : ¬ y = x := fun e => h e.symm
      simp [h, h']
theorem putD_kd (K : List Str) (y : Str) : putD (kd K) (.inr y) (.bl true) = kd (add1 K y) := by
  unfold putD add1
  rw [kd_any]
  by_cases h : y ∈ K
  · rw [if_pos (by simpa using h), if_pos h]
    unfold kd
    rw [List.map_map]
    apply List.map_congr_left
    intro x hx
    show (if (Sum.inr x : Key) = .inr y then _ else _) = _
    split <;> rfl
  · rw [if_neg (by simpa using h), if_neg h]
    unfold kd
    rw [List.map_append]
    rfl
theorem merge_kd : ∀ (more K : List Str), mergeD (kd K) (kd more) = kd (addK K more)
  | [], K => rfl
  | y :: ys, K => by
    have := merge_kd ys (add1 K y)
    unfold mergeD addK at this ⊢
    show List.foldl _ (putD (kd K) (.inr y) (.bl true)) (kd ys) = kd (List.foldl add1 (add1 K y) ys)
    rw [putD_kd]
    exact this
theorem kd_val (K : List Str) (y : Str) : (valD (kd K) (.inr y)).isSome = decide (y ∈ K) := by
  have h := kd_any K y
  unfold valD
  rw [Option.isSome_map, List.isSome_find?]
  exact h
theorem kd_none (K : List Str) (y : Str) : (valD (kd K) (.inr y)).isNone = !decide (y ∈ K) := by rw [← Option.not_isSome, kd_val]
theorem in_kd {S : Sto} {n : Nat} {K : List Str} (h : S[n]? = some (.dK (kd K))) (y : Str) : inA not (.str y) (.ref n) S = some (.bl (decide (y ∉ K)), S) := by
  have hs : inSeq not (.str y) (.ref n) S = none := by
    simp [inSeq, seqD, seqAt, h]
  have hd : inD not (.str y) (.ref n) S = some (.bl (decide (y ∉ K)), S) := by
    simp [inD, dictAt, h, keyD, kd_none]
  unfold inA
  rw [hs]
  simp [ssB, hd]
end K11
end

section
set_option Elab.async false
set_option linter.all false
set_option maxRecDepth 100000
set_option maxHeartbeats 800000
namespace K11
open PySem PySem.Spec PyProof.Rows L2 PL
/-- all of S stands in S' -/
structure Kp (S S' : Sto) : Prop where
  len : S.length ≤ S'.length
  keep : ∀ (i : Nat) (o : Ob), S[i]? = some o → S'[i]? = some o
theorem Kp.refl {S : Sto} : Kp S S := ⟨Nat.le_refl _, fun _ _ h => h⟩
theorem Kp.trans {A B C : Sto} (a : Kp A B) (b : Kp B C) : Kp A C := ⟨Nat.le_trans a.len b.len, fun i o h => b.keep i o (a.keep i o h)⟩
theorem Kp.new {S T : Sto} : Kp S (S ++ T) := ⟨by rw [List.length_append]; omega, fun i o h => by rw [List.getElem?_append_left (List.getElem?_eq_some_iff.mp h).1]; exact h⟩
theorem Kp.set {S S' : Sto} {n : Nat} {o : Ob} (a : Kp S S') (h : S.length ≤ n) : Kp S (S'.set n o) := ⟨by rw [List.length_set]; exact a.len, fun i u e => by
  have hi := (List.getElem?_eq_some_iff.mp e).1
  rw [List.getElem?_set_ne (by omega)]
  exact a.keep i u e⟩
theorem ix_tup {ds : List D} {d : D} {i : Nat} {S : Sto} (h : ds[i]? = some d) : ixA (.tup ds) (.int i) S = some (d, S) := by
  have h2 := L2.atI_nat h
  simp [ixA, ixSeq, seqD, h2]
theorem list_tup {ds : List D} {S : Sto} : gList [.tup ds] S = some (.ref S.length, S ++ [.lst ds]) := by
  simp [gList, seqD, newL]
theorem cut1 {w : D} {ds : List D} : PL.cutD (w :: ds) (some 1) none = ds := by
  unfold PL.cutD
  have h1 : HT.sIx (w :: ds).length 0 (some 1) = 1 := by
    show HT.sIx _ 0 (some ((1 : Nat) : Int)) = 1
    rw [HT.sIx_nat, List.length_cons]
    omega
  rw [h1, HT.sIx_none, List.length_cons, List.drop_one, List.tail_cons]
  exact List.take_of_length_le (by omega)
theorem cat_ref {S : Sto} {a b : Nat} {xs ys : List D} (h1 : S[a]? = some (.lst xs)) (h2 : S[b]? = some (.lst ys)) (h : xs.length + ys.length ≤ sizeLine) : dAdd (.ref a) (.ref b) S = some (.ref S.length, S ++ [.lst (xs ++ ys)]) := by
  simp [dAdd, PL.alt, iiI, ssS, ttT, llL, h1, h2, h, newL]
def nextB : MS := mAsg (mBin dAdd (mVar 6) (mBlt gList (mCons (mSl slA (mBin ixA (mVar 7) (mC (.int 5))) (mPart (mC (.int 1))) (mNo)) (mNil)))) (gN 6)
theorem chc5 (c : Chc) (S : Sto) : ixA c.toD (.int 5) S = some (.tup (c.w :: c.ys.map D.str), S) := ix_tup (i := 5) rfl
theorem part1 (env : PL.Env) (S : Sto) : mPart (mC (.int 1)) env S = some (some 1, S) := by
  unfold mPart
  simp only [mC, Option.bind_some]
  rw [if_pos (by decide)]
/-- for choice in scene[2] -/
theorem next_loop (x0 x1 x2 x3 x4 x5 : Option D) : ∀ (cs : List Chc) (pre : List Chc) (i : Nat) (n : Nat) (M : List Str) (S : Sto) (x7 : Option D), i = pre.length → S[n]? = some (.lst (M.map D.str)) → M.length + 2 * cs.length ≤ 2000 → (∀ c ∈ cs, c.ys.length ≤ 2) →
    ∃ n' T x7', mForL (nxT ((pre ++ cs).map Chc.toD)) (gN 7) nextB (cs.length + 1) i [x0, x1, x2, x3, x4, x5, some (.ref n), x7] S = some (.nx, [x0, x1, x2, x3, x4, x5, some (.ref n'), x7'], S ++ T) ∧ (S ++ T)[n']? = some (.lst ((M ++ cs.flatMap Chc.ys).map D.str)) := by
  intro cs
  induction cs with
  | nil =>
    intro pre i n M S x7 hi hn _ _
    refine ⟨n, [], x7, ?_, by simpa using hn⟩
    have : ((pre ++ []).map Chc.toD)[i]? = none := List.getElem?_eq_none (by simp [hi])
    unfold mForL
    show (nxT _ i S).bind _ = _
    unfold nxT
    rw [this, Option.bind_some]
    simp
  | cons c cs ih =>
    intro pre i n M S x7 hi hn hl hc
    have hx : ((pre ++ c :: cs).map Chc.toD)[i]? = some c.toD := by
      rw [hi, List.map_append, List.getElem?_append_right (by simp)]
      simp
    have hy := hc c (List.mem_cons_self ..)
    rw [List.length_cons] at hl
    have hn2 : (S ++ [Ob.lst (c.ys.map D.str)])[n]? = some (.lst (M.map D.str)) := by rw [List.getElem?_append_left (List.getElem?_eq_some_iff.mp hn).1]; exact hn
    have hsz : 4000 ≤ sizeLine := by decide
    have hb : nextB [x0, x1, x2, x3, x4, x5, some (.ref n), some c.toD] S = some (.nx, [x0, x1, x2, x3, x4, x5, some (.ref (S.length + 1)), some c.toD], S ++ [.lst (c.ys.map D.str), .lst (M.map D.str ++ c.ys.map D.str)]) := by
      have e1 := chc5 c S
      have e2 := list_tup (ds := c.ys.map D.str) (S := S)
      have e3 := cat_ref (b := S.length) hn2 (ys := c.ys.map D.str) (by simp) (by simp; omega)
      have e4 := part1 [x0, x1, x2, x3, x4, x5, some (.ref n), some c.toD] S
      unfold nextB
      generalize mPart (mC (.int 1)) = Y at e4 ⊢
      simp [mBody, startE, mSeq, mAsg, mBin, mVar, mC, mCall, mCons, mNil, gN, mIfS, mIf, mTru, dTru, mRet, mTup, mAndT, mOrT, asB, dLt, dGt, dEq, sEq, PL.alt, iiI, iiB, mLst, newL, mNext, mNeg, mBlt, dSub, sz0, sz1, sz2, sz3, sz4, sz5, sz6, sz8, yd_some, mSl, mNo, e1, e4, slA, cut1, e2, e3]
    obtain ⟨n', T, x7', f1, f2⟩ := ih (pre ++ [c]) (i + 1) (S.length + 1) (M ++ c.ys) (S ++ [.lst (c.ys.map D.str), .lst (M.map D.str ++ c.ys.map D.str)]) (some c.toD) (by simp [hi]) (by simp) (by simp; omega) (fun d hd => hc d (List.mem_cons_of_mem _ hd))
    refine ⟨n', [.lst (c.ys.map D.str), .lst (M.map D.str ++ c.ys.map D.str)] ++ T, x7', ?_, ?_⟩
    · rw [List.length_cons]
      unfold mForL
      show (nxT _ i S).bind _ = _
      unfold nxT
      rw [hx, Option.bind_some]
      dsimp only
      show ((gN 7 c.toD _ S).bind _) = _
      unfold gN
      rw [Option.bind_some]
      dsimp only [List.set]
      rw [hb, Option.bind_some]
      dsimp only
      rw [List.append_assoc, List.singleton_append, List.append_assoc] at f1
      exact f1
    · rw [← List.append_assoc, f2]
      simp [List.flatMap_cons, List.append_assoc]
end K11
end

section
set_option Elab.async false
set_option linter.all false
set_option maxRecDepth 100000
set_option maxHeartbeats 800000
namespace K11
open PySem PySem.Spec PyProof.Rows L2 PL
def condL : MT := asB (mBin dNe (mVar 2) (mLst (mNil)))
def hereE : ME := mMt "list" gPop (mVar 2) mNil
def sceneE : ME := mBin ixA (mLc (mItr (mBin ixA (mVar 0) (mC (.int 5)))) (gN 5) (asB (mBin dEq (mBin ixA (mVar 5) (mC (.int 0))) (mVar 3))) (mVar 5) [5]) (mC (.int 0))
def moreE : ME := mBlt gList (mCons (mBin ixA (mVar 4) (mC (.int 3))) (mNil))
def nextF : MS := mFor (mItr (mBin ixA (mVar 4) (mC (.int 2)))) (gN 7) nextB
def leftE : ME := mBin dAdd (mVar 2) (mLc (mItr (mOfSet gSortS (mVar 6))) (gN 5) (asB (mBin (inA not) (mVar 5) (mVar 1))) (mVar 5) [5])
def updS : MS := mDrop (mMt "dict" gUpdate (mVar 1) (mCons (mBlt gDict (mCons (mLc (mItr (mVar 6)) (gN 5) (mYes) (mTup (mCons (mVar 5) (mCons (mC (.bl true)) (mNil)))) [5]) (mNil))) (mNil)))
def bodyL : MS := mSeq (mAsg hereE (gN 3)) (mSeq (mAsg sceneE (gN 4)) (mSeq (mAsg moreE (gN 6)) (mSeq nextF (mSeq (mAsg leftE (gN 2)) updS))))
def startS : MS := mAsg (mTup (mCons (mDisp [(mBin ixA (mVar 0) (mC (.int 6)), mC (.bl true))]) (mCons (mLst (mCons (mBin ixA (mVar 0) (mC (.int 6))) (mNil))) (mNil)))) (gT 2 (gsC (gN 1) (gsC (gN 2) (gsN))))
def come_def (C : Nat → MF) : m16 C = mBody 8 (mSeq startS (mSeq (mWh condL bodyL 100000) (mRet (mBlt gSortedD (mCons (mVar 1) (mNil)))))) := rfl
theorem cond_ok {x0 x1 x3 x4 x5 x6 x7 : Option D} {n : Nat} {L : List Str} {S : Sto} (h : S[n]? = some (.lst (L.map D.str))) (hok : ∀ x ∈ L, PyData.strOk x = true) :
    condL [x0, x1, some (.ref n), x3, x4, x5, x6, x7] S = some (!L.isEmpty, S ++ [.lst []]) := by
  have e := neNil h hok
  unfold condL
  simp [asB, mBin, mVar, mLst, mNil, newL, sz0, e]
theorem pop_ok {x0 x1 x3 x4 x5 x6 x7 : Option D} {n : Nat} {L : List Str} {y : Str} {S : Sto} (h : S[n]? = some (.lst ((L ++ [y]).map D.str))) :
    hereE [x0, x1, some (.ref n), x3, x4, x5, x6, x7] S = some (.str y, S.set n (.lst (L.map D.str))) := by
  unfold hereE
  have hd : dIs "list" (.ref n) S = true := by simp [dIs, h]
  have hp : gPop (.ref n) [] S = some (.str y, S.set n (.lst (L.map D.str))) := by
    simp [gPop, h, List.dropLast_concat]
  simp [mMt, mVar, mNil, hd, hp]
def nameIs (y : Str) : D → Bool
  | .tup (.str x :: _) => decide (x = y)
  | _ => false
theorem filter_nm {y : Str} : ∀ {ss : List Scn}, (ss.map Scn.nm).Nodup → ∀ {s : Scn}, s ∈ ss → s.nm = y → (ss.map Scn.toD).filter (nameIs y) = [s.toD]
  | [], _, s, h, _ => by cases h
  | a :: ss, hn, s, h, e => by
    rw [List.map_cons, List.nodup_cons] at hn
    have key : ∀ b : Scn, nameIs y b.toD = decide (b.nm = y) := fun b => rfl
    rw [List.map_cons]
    rcases List.mem_cons.mp h with h1 | h1
    · subst h1
      rw [List.filter_cons_of_pos (by rw [key, e]; simp)]
      have : (ss.map Scn.toD).filter (nameIs y) = [] := by
        rw [List.filter_eq_nil_iff]
        intro d hd
        obtain ⟨b, hb, rfl⟩ := List.mem_map.mp hd
        rw [key]
        intro c
        have c := of_decide_eq_true c
        exact hn.1 (List.mem_map.mpr ⟨b, hb, by rw [c, e]⟩)
      rw [this]
    · rw [List.filter_cons_of_neg (by
        rw [key]
        intro c
        have c := of_decide_eq_true c
        exact hn.1 (List.mem_map.mpr ⟨s, h1, by rw [e, c]⟩))]
      exact filter_nm hn.2 h1 e
theorem tale5 (t : Tale) (S : Sto) : ixA t.toD (.int 5) S = some (.tup (t.ss.map Scn.toD), S) := ix_tup (i := 5) rfl
theorem tale6 (t : Tale) (S : Sto) : ixA t.toD (.int 6) S = some (.str t.bg, S) := ix_tup (i := 6) rfl
theorem scn0 (s : Scn) (S : Sto) : ixA s.toD (.int 0) S = some (.str s.nm, S) := ix_tup (i := 0) rfl
theorem scn2 (s : Scn) (S : Sto) : ixA s.toD (.int 2) S = some (.tup (s.cs.map Chc.toD), S) := ix_tup (i := 2) rfl
theorem scn3 (s : Scn) (S : Sto) : ixA s.toD (.int 3) S = some (.tup (s.wv.map D.str), S) := ix_tup (i := 3) rfl
theorem ix_new (S : Sto) (d : D) : ixA (.ref S.length) (.int 0) (S ++ [.lst [d]]) = some (d, S ++ [.lst [d]]) := by
  have h2 : L2.atI [d] 0 = some d := L2.atI_nat (j := 0) rfl
  simp [ixA, ixSeq, seqD, seqAt, h2]
theorem sceneE_ok {t : Tale} (w : t.Whole) {s : Scn} (hs : s ∈ t.ss) {x1 x2 x4 x5 x6 x7 : Option D} {S : Sto} :
    sceneE [some t.toD, x1, x2, some (.str s.nm), x4, x5, x6, x7] S = some (s.toD, S ++ [.lst [s.toD]]) := by
  have hf := filter_nm w.nd hs rfl
  have e := lc_tup (m := mBin ixA (mVar 0) (mC (.int 5))) (t := asB (mBin dEq (mBin ixA (mVar 5) (mC (.int 0))) (mVar 3))) (el := mVar 5) (v := 5) (vs := [5]) (f := nameIs s.nm) (g := id) (env := [some t.toD, x1, x2, some (.str s.nm), x4, x5, x6, x7]) (S := S) (xs := t.ss.map Scn.toD)
    (by simp [mBin, mVar, mC, tale5]) (by
      have := w.few
      have h8 : 8 ≤ sizeLine := by decide
      rw [List.length_map]; omega)
    (fun x hx acc => by
      obtain ⟨b, hb, rfl⟩ := List.mem_map.mp hx
      have hk : nameIs s.nm b.toD = decide (b.nm = s.nm) := rfl
      rw [hk]
      simp [asB, mBin, mVar, wipeE, mC, scn0, dEq, sEq, PL.alt, iiB, ssB])
    (fun x hx _ acc => by simp [mVar, wipeE])
  rw [hf, List.map_id] at e
  unfold sceneE
  generalize mLc (mItr (mBin ixA (mVar 0) (mC (.int 5)))) (gN 5) (asB (mBin dEq (mBin ixA (mVar 5) (mC (.int 0))) (mVar 3))) (mVar 5) [5] = Y at e ⊢
  simp [mBin, mC, e, ix_new]
theorem strsD_map (M : List Str) : strsD (M.map D.str) = some M := by
  induction M with
  | nil => rfl
  | cons x xs ih => simp [strsD, ih]
theorem setArg_ok {n : Nat} {M : List Str} {S : Sto} (h : S[n]? = some (.lst (M.map D.str))) (hl : M.length ≤ 2000) : setArg (.ref n) S = some M := by
  have hb : 2001 < scanBound := by decide
  have : M.length + 1 < scanBound := by omega
  simp [setArg, seqAt, h, strsD_map, this]
def newN (K M : List Str) : List Str := (sortS M).filter fun x => decide (x ∉ K)
theorem mem_sortS {M : List Str} {x : Str} : x ∈ sortS M ↔ x ∈ M := by
  unfold sortS
  rw [List.mem_mergeSort, mem_ded]
theorem nodup_sortS {M : List Str} : (sortS M).Nodup := by
  unfold sortS
  exact (List.mergeSort_perm _ _).nodup_iff.mpr nodup_ded
theorem mem_newN {K M : List Str} {x : Str} : x ∈ newN K M ↔ x ∈ M ∧ x ∉ K := by
  unfold newN
  rw [List.mem_filter, mem_sortS]
  simp
theorem nodup_newN {K M : List Str} : (newN K M).Nodup := nodup_sortS.filter _
theorem sortS_len (M : List Str) : (sortS M).length ≤ M.length := by
  unfold sortS
  rw [List.length_mergeSort]
  exact ded_le
def strD (f : Str → Bool) : D → Bool
  | .str x => f x
  | _ => false
theorem filter_str (f : Str → Bool) (M : List Str) : (M.map D.str).filter (strD f) = (M.filter f).map D.str := by
  induction M with
  | nil => rfl
  | cons x xs ih =>
    rw [List.map_cons, List.filter_cons, List.filter_cons, ih]
    show (if f x = true then _ else _) = _
    split <;> rfl
end K11
end

section
set_option Elab.async false
set_option linter.all false
set_option maxRecDepth 100000
set_option maxHeartbeats 800000
namespace K11
open PySem PySem.Spec PyProof.Rows L2 PL
theorem lc_ref2 {m : ME} {t : MT} {el : ME} {v n : Nat} {S S1 : Sto} {xs : List D} {f : D → Bool} {g : D → D} {env : PL.Env} {vs : List Nat} (h : m env S = some (.ref n, S1)) (hn : S1[n]? = some (Ob.lst xs)) (hl : xs.length ≤ sizeLine)
    (ht : ∀ x ∈ xs, ∀ acc, t ((wipeE env vs).set v (some x)) (S1 ++ [Ob.lst acc]) = some (f x, S1 ++ [Ob.lst acc]))
    (he : ∀ x ∈ xs, f x = true → ∀ acc, el ((wipeE env vs).set v (some x)) (S1 ++ [Ob.lst acc]) = some (g x, S1 ++ [Ob.lst acc])) :
    mLc (mItr m) (gN v) t el vs env S = some (.ref S1.length, S1 ++ [Ob.lst ((xs.filter f).map g)]) := by
  have hlt := (List.getElem?_eq_some_iff.mp hn).1
  have e := mLcL_pure (nx := nxL n) (S0 := S1) (v := v) (xs := xs) (fun i acc => by
    have : (S1 ++ [Ob.lst acc])[n]? = some (Ob.lst xs) := by rw [List.getElem?_append_left hlt]; exact hn
    simp [nxL, seqAt, this]) ht he xs.length 0 [] (by omega) (by simpa using hl)
  have e2 : mItr m env S = some ((xs.length + 1, nxL n), S1) := by
    unfold mItr
    rw [h]
    simp [itrOf, seqAt, hn]
  unfold mLc
  rw [e2, Option.bind_some]
  dsimp only
  rw [e, Option.bind_some]
  simp
theorem at_app {S T : Sto} {n : Nat} {o : Ob} (h : S[n]? = some o) : (S ++ T)[n]? = some o := by rw [List.getElem?_append_left (List.getElem?_eq_some_iff.mp h).1]; exact h
theorem left_ok {f l m : Nat} {K L M : List Str} {x0 x3 x4 x5 x7 : Option D} {S : Sto} (hf : S[f]? = some (Ob.dK (kd K))) (hl : S[l]? = some (Ob.lst (L.map D.str))) (hm : S[m]? = some (Ob.lst (M.map D.str))) (h1 : M.length ≤ 2000) (h2 : L.length ≤ 100) :
    leftE [x0, some (.ref f), some (.ref l), x3, x4, x5, some (.ref m), x7] S = some (.ref (S.length + 2), S ++ [Ob.lst ((sortS M).map D.str), Ob.lst ((newN K M).map D.str), Ob.lst ((L ++ newN K M).map D.str)]) := by
  have hs : mOfSet gSortS (mVar 6) [x0, some (.ref f), some (.ref l), x3, x4, x5, some (.ref m), x7] S = some (.ref S.length, S ++ [Ob.lst ((sortS M).map D.str)]) := by
    simp [mOfSet, mVar, setArg_ok hm h1, gSortS, newL]
  have sl := sortS_len M
  have hz : 5000 ≤ sizeLine := by decide
  have e := lc_ref2 (t := asB (mBin (inA not) (mVar 5) (mVar 1))) (el := mVar 5) (v := 5) (vs := [5]) (f := strD fun x => decide (x ∉ K)) (g := id) (xs := (sortS M).map D.str) hs (by simp) (by rw [List.length_map]; omega)
    (fun x hx acc => by
      obtain ⟨y, _, rfl⟩ := List.mem_map.mp hx
      have := in_kd (at_app (T := [Ob.lst ((sortS M).map D.str), Ob.lst acc]) hf) y
      simp [asB, mBin, mVar, wipeE, strD] at this ⊢
      simp [this])
    (fun x hx _ acc => by simp [mVar, wipeE])
  rw [filter_str, List.map_id] at e
  have hw : (newN K M).length ≤ M.length := Nat.le_trans (List.length_filter_le ..) sl
  have ec := cat_ref (S := S ++ [Ob.lst ((sortS M).map D.str), Ob.lst ((newN K M).map D.str)]) (a := l) (b := S.length + 1) (xs := L.map D.str) (ys := (newN K M).map D.str) (at_app hl) (by simp) (by simp; omega)
  unfold leftE
  generalize mLc (mItr (mOfSet gSortS (mVar 6))) (gN 5) (asB (mBin (inA not) (mVar 5) (mVar 1))) (mVar 5) [5] = Y at e ⊢
  have e' : Y [x0, some (.ref f), some (.ref l), x3, x4, x5, some (.ref m), x7] S = some (.ref (S.length + 1), S ++ [Ob.lst ((sortS M).map D.str), Ob.lst ((newN K M).map D.str)]) := by
    rw [e]
    simp [newN]
  simp [mBin, mVar, e', ec]
def pairD : D → D := fun x => .tup [x, .bl true]
theorem pairs_kd (M : List Str) : pairsD ((M.map D.str).map pairD) = some (kd M) := by
  induction M with
  | nil => rfl
  | cons x xs ih =>
    show (keyD (.str x)).bind (fun k => (pairsD ((xs.map D.str).map pairD)).map ((k, D.bl true) :: ·)) = _
    rw [ih]
    rfl
theorem kd_len (K : List Str) : (kd K).length = K.length := List.length_map ..
theorem mergeK (M : List Str) : mergeD [] (kd M) = kd (addK [] M) := merge_kd M []
theorem addK_len (K M : List Str) : (addK K M).length ≤ K.length + M.length := by
  induction M generalizing K with
  | nil => simp [addK]
  | cons x xs ih =>
    have := ih (add1 K x)
    have h : (add1 K x).length ≤ K.length + 1 := by
      unfold add1
      split <;> simp
    unfold addK at this ⊢
    rw [List.foldl_cons, List.length_cons]
    omega
theorem upd_ok {f m : Nat} {K M : List Str} {x0 x2 x3 x4 x5 x7 : Option D} {S : Sto} (hf : S[f]? = some (Ob.dK (kd K))) (hm : S[m]? = some (Ob.lst (M.map D.str))) (h1 : M.length ≤ 4000) (h2 : K.length ≤ 100) :
    updS [x0, some (.ref f), x2, x3, x4, x5, some (.ref m), x7] S = some (.nx, [x0, some (.ref f), x2, x3, x4, x5, some (.ref m), x7], (S ++ [Ob.lst ((M.map D.str).map pairD), Ob.dK (kd (addK [] M))]).set f (Ob.dK (kd (addK K (addK [] M))))) := by
  have hz : 10000 ≤ sizeLine := by decide
  have hlt := (List.getElem?_eq_some_iff.mp hf).1
  have e := lc_ref2 (m := mVar 6) (t := mYes) (el := mTup (mCons (mVar 5) (mCons (mC (.bl true)) (mNil)))) (v := 5) (vs := [5]) (f := fun _ => true) (g := pairD) (xs := M.map D.str) (S := S) (S1 := S) (env := [x0, some (.ref f), x2, x3, x4, x5, some (.ref m), x7]) (by simp [mVar]) hm (by rw [List.length_map]; omega)
    (fun x hx acc => by simp [mYes])
    (fun x hx _ acc => by simp [mTup, mCons, mNil, mC, mVar, wipeE, pairD, sz2])
  have hft : ∀ xs : List D, xs.filter (fun _ => true) = xs := fun xs => List.filter_eq_self.mpr (fun _ _ => rfl)
  rw [hft] at e
  unfold updS
  generalize mLc (mItr (mVar 6)) (gN 5) (mYes) (mTup (mCons (mVar 5) (mCons (mC (.bl true)) (mNil)))) [5] = Y at e ⊢
  have hd : dIs "dict" (.ref f) S = true := by simp [dIs, hf]
  have hg : gDict [.ref S.length] (S ++ [Ob.lst ((M.map D.str).map pairD)]) = some (.ref (S.length + 1), S ++ [Ob.lst ((M.map D.str).map pairD), Ob.dK (kd (addK [] M))]) := by
    have := pairs_kd M
    unfold gDict
    simp only [seqAt, List.getElem?_concat_length, Option.bind_some, this, mergeK, List.length_append, List.length_singleton, List.append_assoc, List.singleton_append]
  have al := addK_len [] M
  have hu : gUpdate (.ref f) [.ref (S.length + 1)] (S ++ [Ob.lst ((M.map D.str).map pairD), Ob.dK (kd (addK [] M))]) = some (.non, (S ++ [Ob.lst ((M.map D.str).map pairD), Ob.dK (kd (addK [] M))]).set f (Ob.dK (kd (addK K (addK [] M))))) := by
    have a1 := at_app (T := [Ob.lst ((M.map D.str).map pairD), Ob.dK (kd (addK [] M))]) hf
    have a2 : (S ++ [Ob.lst ((M.map D.str).map pairD), Ob.dK (kd (addK [] M))])[S.length + 1]? = some (Ob.dK (kd (addK [] M))) := by simp
    have c : f ≠ S.length + 1 ∧ (kd K).length + (kd (addK [] M)).length ≤ sizeLine := by
      rw [kd_len, kd_len]
      simp at al
      omega
    unfold gUpdate
    simp only [a1, a2]
    rw [if_pos c, merge_kd]
  simp only [mDrop, mMt, mVar, List.getElem?_cons_succ, List.getElem?_cons_zero, Option.bind_some, hd, if_true, mCons, mNil, mBlt, e, hg, hu, Option.join_some, Option.map_some]
end K11
end

section
set_option Elab.async false
set_option linter.all false
set_option maxRecDepth 100000
set_option maxHeartbeats 800000
namespace K11
open PySem PySem.Spec PyProof.Rows L2 PL
theorem flat_len {cs : List Chc} (h : ∀ c ∈ cs, c.ys.length ≤ 2) : (cs.flatMap Chc.ys).length ≤ 2 * cs.length := by
  induction cs with
  | nil => simp
  | cons c cs ih =>
    have h1 := h c (List.mem_cons_self ..)
    have h2 := ih fun d hd => h d (List.mem_cons_of_mem _ hd)
    rw [List.flatMap_cons, List.length_append, List.length_cons]
    omega
theorem Scn.In.ys {N : List Str} {s : Scn} (h : s.In N) : ∀ c ∈ s.cs, c.ys.length ≤ 2 := fun c hc => (h.1 c hc).2
theorem Scn.In.more {N : List Str} {s : Scn} (h : s.In N) : s.more.length ≤ 2000 := by
  have h1 := flat_len h.ys
  have h2 := h.2.2.1
  have h3 := h.2.2.2
  unfold Scn.more
  rw [List.length_append]
  omega
theorem turn_ok {t : Tale} (w : t.Whole) {s : Scn} (hs : s ∈ t.ss) {f l : Nat} {K L : List Str} {S S0 : Sto} {x3 x4 x5 x6 x7 : Option D} (hf : S[f]? = some (Ob.dK (kd K))) (hl : S[l]? = some (Ob.lst ((L ++ [s.nm]).map D.str))) (nf : f ≠ l) (k : Kp S0 S) (bf : S0.length ≤ f) (bl : S0.length ≤ l) (hK : K.length ≤ 100) (hL : L.length ≤ 100) :
    ∃ y3 y4 y5 y6 y7 l' S', bodyL [some t.toD, some (.ref f), some (.ref l), x3, x4, x5, x6, x7] S = some (.nx, [some t.toD, some (.ref f), some (.ref l'), y3, y4, y5, y6, y7], S') ∧
      S'[f]? = some (Ob.dK (kd (addK K (addK [] s.more)))) ∧ S'[l']? = some (Ob.lst ((L ++ newN K s.more).map D.str)) ∧ f ≠ l' ∧ Kp S0 S' ∧ S0.length ≤ l' := by
  have hin := w.cl s hs
  have lf := (List.getElem?_eq_some_iff.mp hf).1
  have ll := (List.getElem?_eq_some_iff.mp hl).1
  have e1 := pop_ok (x0 := some t.toD) (x1 := some (.ref f)) (x3 := x3) (x4 := x4) (x5 := x5) (x6 := x6) (x7 := x7) hl
  have k1 : Kp S0 (S.set l (Ob.lst (L.map D.str))) := k.set bl
  have f1 : (S.set l (Ob.lst (L.map D.str)))[f]? = some (Ob.dK (kd K)) := by rw [List.getElem?_set_ne (fun h => nf h.symm)]; exact hf
  have l1 : (S.set l (Ob.lst (L.map D.str)))[l]? = some (Ob.lst (L.map D.str)) := by simp [ll]
  have len1 : (S.set l (Ob.lst (L.map D.str))).length = S.length := List.length_set
  generalize S.set l (Ob.lst (L.map D.str)) = S1 at e1 k1 f1 l1 len1
  have e2 := sceneE_ok w hs (x1 := some (.ref f)) (x2 := some (.ref l)) (x4 := x4) (x5 := x5) (x6 := x6) (x7 := x7) (S := S1)
  have k2 : Kp S0 (S1 ++ [Ob.lst [s.toD]]) := k1.trans Kp.new
  have f2 := at_app (T := [Ob.lst [s.toD]]) f1
  have l2 := at_app (T := [Ob.lst [s.toD]]) l1
  have len2 : (S1 ++ [Ob.lst [s.toD]]).length = S.length + 1 := by rw [List.length_append, len1]; rfl
  generalize S1 ++ [Ob.lst [s.toD]] = S2 at e2 k2 f2 l2 len2
  have e3 : moreE [some t.toD, some (.ref f), some (.ref l), some (.str s.nm), some s.toD, x5, x6, x7] S2 = some (.ref S2.length, S2 ++ [Ob.lst (s.wv.map D.str)]) := by
    unfold moreE
    simp [mBlt, mCons, mNil, mBin, mVar, mC, scn3, list_tup]
  have k3 : Kp S0 (S2 ++ [Ob.lst (s.wv.map D.str)]) := k2.trans Kp.new
  have f3 := at_app (T := [Ob.lst (s.wv.map D.str)]) f2
  have l3 := at_app (T := [Ob.lst (s.wv.map D.str)]) l2
  have m3 : (S2 ++ [Ob.lst (s.wv.map D.str)])[S2.length]? = some (Ob.lst (s.wv.map D.str)) := by simp
  have len3 : (S2 ++ [Ob.lst (s.wv.map D.str)]).length = S.length + 2 := by rw [List.length_append, len2]; rfl
  generalize hm : S2.length = m at e3 m3
  generalize S2 ++ [Ob.lst (s.wv.map D.str)] = S3 at e3 k3 f3 l3 m3 len3
  obtain ⟨m', T, y7, g4, m4⟩ := next_loop (some t.toD) (some (.ref f)) (some (.ref l)) (some (.str s.nm)) (some s.toD) x5 s.cs [] 0 m s.wv S3 x7 rfl m3 (by have := hin.2.2; omega) hin.ys
  have e4 : nextF [some t.toD, some (.ref f), some (.ref l), some (.str s.nm), some s.toD, x5, some (.ref m), x7] S3 = some (.nx, [some t.toD, some (.ref f), some (.ref l), some (.str s.nm), some s.toD, x5, some (.ref m'), y7], S3 ++ T) := by
    have hi : mItr (mBin ixA (mVar 4) (mC (.int 2))) [some t.toD, some (.ref f), some (.ref l), some (.str s.nm), some s.toD, x5, some (.ref m), x7] S3 = some ((s.cs.length + 1, nxT (s.cs.map Chc.toD)), S3) := by
      simp [mItr, mBin, mVar, mC, scn2, itrOf]
    unfold nextF mFor
    rw [hi, Option.bind_some]
    exact g4
  have k4 : Kp S0 (S3 ++ T) := k3.trans Kp.new
  have f4 := at_app (T := T) f3
  have l4 := at_app (T := T) l3
  have len4 : S.length + 2 ≤ (S3 ++ T).length := by rw [List.length_append, len3]; omega
  have m4' : (S3 ++ T)[m']? = some (Ob.lst (s.more.map D.str)) := m4
  generalize S3 ++ T = S4 at e4 k4 f4 l4 m4' len4
  have hml := hin.more
  have e5 := left_ok (x0 := some t.toD) (x3 := some (.str s.nm)) (x4 := some s.toD) (x5 := x5) (x7 := y7) f4 l4 m4' (by omega) hL
  have k5 : Kp S0 (S4 ++ [Ob.lst ((sortS s.more).map D.str), Ob.lst ((newN K s.more).map D.str), Ob.lst ((L ++ newN K s.more).map D.str)]) := k4.trans Kp.new
  have f5 := at_app (T := [Ob.lst ((sortS s.more).map D.str), Ob.lst ((newN K s.more).map D.str), Ob.lst ((L ++ newN K s.more).map D.str)]) f4
  have m5 := at_app (T := [Ob.lst ((sortS s.more).map D.str), Ob.lst ((newN K s.more).map D.str), Ob.lst ((L ++ newN K s.more).map D.str)]) m4'
  have l5 : (S4 ++ [Ob.lst ((sortS s.more).map D.str), Ob.lst ((newN K s.more).map D.str), Ob.lst ((L ++ newN K s.more).map D.str)])[S4.length + 2]? = some (Ob.lst ((L ++ newN K s.more).map D.str)) := by simp
  generalize S4 ++ [Ob.lst ((sortS s.more).map D.str), Ob.lst ((newN K s.more).map D.str), Ob.lst ((L ++ newN K s.more).map D.str)] = S5 at e5 k5 f5 m5 l5
  have e6 := upd_ok (x0 := some t.toD) (x2 := some (.ref (S4.length + 2))) (x3 := some (.str s.nm)) (x4 := some s.toD) (x5 := x5) (x7 := y7) f5 m5 (by omega) hK
  have lf5 := (List.getElem?_eq_some_iff.mp f5).1
  have hS0 := k.len
  have nf' : f ≠ S4.length + 2 := by omega
  have k6 : Kp S0 ((S5 ++ [Ob.lst ((s.more.map D.str).map pairD), Ob.dK (kd (addK [] s.more))]).set f (Ob.dK (kd (addK K (addK [] s.more))))) := (k5.trans Kp.new).set bf
  have f6 : ((S5 ++ [Ob.lst ((s.more.map D.str).map pairD), Ob.dK (kd (addK [] s.more))]).set f (Ob.dK (kd (addK K (addK [] s.more)))))[f]? = some (Ob.dK (kd (addK K (addK [] s.more)))) := by
    rw [List.getElem?_set_self (by rw [List.length_append]; omega)]
  have l6 : ((S5 ++ [Ob.lst ((s.more.map D.str).map pairD), Ob.dK (kd (addK [] s.more))]).set f (Ob.dK (kd (addK K (addK [] s.more)))))[S4.length + 2]? = some (Ob.lst ((L ++ newN K s.more).map D.str)) := by
    rw [List.getElem?_set_ne nf']
    exact at_app l5
  generalize (S5 ++ [Ob.lst ((s.more.map D.str).map pairD), Ob.dK (kd (addK [] s.more))]).set f (Ob.dK (kd (addK K (addK [] s.more)))) = S6 at e6 k6 f6 l6
  refine ⟨some (.str s.nm), some s.toD, x5, some (.ref m'), y7, S4.length + 2, S6, ?_, f6, l6, nf', k6, by omega⟩
  unfold bodyL
  generalize hereE = X1 at e1 ⊢
  generalize sceneE = X2 at e2 ⊢
  generalize moreE = X3 at e3 ⊢
  generalize nextF = X4 at e4 ⊢
  generalize leftE = X5 at e5 ⊢
  generalize updS = X6 at e6 ⊢
  simp [mBody, startE, mSeq, mAsg, mBin, mVar, mC, mCall, mCons, mNil, gN, mIfS, mIf, mTru, dTru, mRet, mTup, mAndT, mOrT, asB, dLt, dGt, dEq, sEq, PL.alt, iiI, iiB, mLst, newL, mNext, mNeg, mBlt, dSub, sz0, sz1, sz2, sz3, sz4, sz5, sz6, sz8, yd_some, e1, e2, e3, e4, e5, e6]
theorem Wl.step {t : Tale} (w : t.Whole) {K L : List Str} {s : Scn} (hs : s ∈ t.ss) (h : Wl t K (L ++ [s.nm])) : Wl t (addK K (addK [] s.more)) (L ++ newN K s.more) := by
  have hK : ∀ y, y ∈ addK K (addK [] s.more) ↔ y ∈ K ∨ y ∈ s.more := fun y => by rw [mem_addK, mem_addK]; simp
  refine wl_step w hs h (nodup_addK h.nd) hK ?_ ?_ ?_
  · intro y hy
    rw [hK]
    rcases List.mem_append.mp hy with a | a
    · exact .inl (h.ll y (List.mem_append_left _ a))
    · exact .inr (mem_newN.mp a).1
  · intro y hy hn
    rcases (hK y).mp hy with a | a
    · exact (hn a).elim
    · exact List.mem_append_right _ (mem_newN.mpr ⟨a, hn⟩)
  · intro y hy
    exact List.mem_append_left _ hy
theorem Wl.grow {t : Tale} {K M : List Str} (h : K.Nodup) : K.length + (newN K M).length ≤ (addK K (addK [] M)).length := by
  rw [← List.length_append]
  refine nodup_le (List.nodup_append.mpr ⟨h, nodup_newN, fun a ha b hb e => ?_⟩) fun x hx => ?_
  · subst e
    exact (mem_newN.mp hb).2 ha
  · rw [mem_addK, mem_addK]
    rcases List.mem_append.mp hx with a | a
    · exact .inl a
    · exact .inr (.inr (mem_newN.mp a).1)
theorem Tale.Whole.str {t : Tale} (w : t.Whole) {x : Str} (h : x ∈ t.names) : PyData.strOk x = true := by
  have := w.ok x h
  simp [okN] at this
  exact this.2
theorem loop_ok {t : Tale} (w : t.Whole) {f : Nat} {S0 : Sto} (bf : S0.length ≤ f) : ∀ (n : Nat) (K L : List Str) (l : Nat) (x3 x4 x5 x6 x7 : Option D) (S : Sto), Wl t K L → t.names.length + L.length < n + K.length → t.names.length + L.length ≤ 8 + K.length →
    S[f]? = some (Ob.dK (kd K)) → S[l]? = some (Ob.lst (L.map D.str)) → f ≠ l → Kp S0 S → S0.length ≤ l →
    ∃ K' x2 y3 y4 y5 y6 y7 S', mWh condL bodyL n [some t.toD, some (.ref f), some (.ref l), x3, x4, x5, x6, x7] S = some (.nx, [some t.toD, some (.ref f), x2, y3, y4, y5, y6, y7], S') ∧ Wl t K' [] ∧ S'[f]? = some (Ob.dK (kd K')) ∧ Kp S0 S' := by
  intro n
  induction n with
  | zero =>
    intro K L l x3 x4 x5 x6 x7 S h hm _ _ _ _ _ _
    have := h.few w
    omega
  | succ n ih =>
    intro K L l x3 x4 x5 x6 x7 S h hm hm2 hf hl nf k bl
    have hk := h.few w
    have hn := names_few w
    have ec := cond_ok (x0 := some t.toD) (x1 := some (.ref f)) (x3 := x3) (x4 := x4) (x5 := x5) (x6 := x6) (x7 := x7) hl fun x hx => w.str (h.sub x (h.ll x hx))
    rcases List.eq_nil_or_concat L with rfl | ⟨L0, y, rfl⟩
    · refine ⟨K, some (.ref l), x3, x4, x5, x6, x7, S ++ [Ob.lst []], ?_, h, at_app hf, k.trans Kp.new⟩
      unfold mWh
      rw [ec, Option.bind_some]
      rfl
    · rw [List.concat_eq_append] at *
      obtain ⟨s, hs, rfl⟩ : ∃ s ∈ t.ss, s.nm = y := List.mem_map.mp (h.sub y (h.ll y (by simp)))
      simp only [List.length_append, List.length_singleton] at hm hm2
      obtain ⟨y3, y4, y5, y6, y7, l', S', e1, f1, l1, nf1, k1, bl1⟩ := turn_ok w hs (x3 := x3) (x4 := x4) (x5 := x5) (x6 := x6) (x7 := x7) (at_app (T := [Ob.lst []]) hf) (at_app (T := [Ob.lst []]) hl) nf (k.trans Kp.new) bf bl (by omega) (by omega)
      have h2 := h.step w hs
      have hg := Wl.grow (t := t) (M := s.more) h.nd
      obtain ⟨K', x2, z3, z4, z5, z6, z7, S2, e2, w2, f2, k2⟩ := ih _ _ l' y3 y4 y5 y6 y7 S' h2 (by rw [List.length_append]; omega) (by rw [List.length_append]; omega) f1 l1 nf1 k1 bl1
      refine ⟨K', x2, z3, z4, z5, z6, z7, S2, ?_, w2, f2, k2⟩
      unfold mWh
      rw [ec, Option.bind_some]
      have hb : (!(L0 ++ [s.nm]).isEmpty) = true := by simp
      dsimp only
      rw [if_pos hb, e1, Option.bind_some]
      exact e2
theorem keyStrs_kd (K : List Str) : keyStrs (kd K) = some K := by
  induction K with
  | nil => rfl
  | cons x xs ih =>
    show (keyStrs (kd xs)).map (x :: ·) = _
    rw [ih]
    rfl
theorem come_ok {t : Tale} (w : t.Whole) (j : Nat) (S : Sto) : ∃ (n : Nat) (K : List Str) (S' : Sto), lv (j + 1) 16 [t.toD] S = some (.ref n, S') ∧ S'[n]? = some (Ob.lst (K.map D.str)) ∧ (∀ x, x ∈ K ↔ Rch t x) ∧ (∀ x ∈ K, x ∈ t.names) ∧ K.length ≤ 8 ∧ Kp S S' := by
  have e0 : startS [some t.toD, none, none, none, none, none, none, none] S = some (.nx, [some t.toD, some (.ref S.length), some (.ref (S.length + 1)), none, none, none, none, none], S ++ [Ob.dK (kd [t.bg]), Ob.lst [.str t.bg]]) := by
    have m0 : ∀ x : Str, mergeD [] [(Sum.inr x, D.bl true)] = kd [x] := fun x => rfl
    unfold startS
    simp [mBody, startE, mSeq, mAsg, mBin, mVar, mC, mCall, mCons, mNil, gN, mIfS, mIf, mTru, dTru, mRet, mTup, mAndT, mOrT, asB, dLt, dGt, dEq, sEq, PL.alt, iiI, iiB, mLst, newL, mNext, mNeg, mBlt, dSub, sz0, sz1, sz2, sz3, sz4, sz5, sz6, sz8, yd_some, mDisp, mPairs, keyPs, keyD, tale6, m0, gT, gsC, gsN]
  obtain ⟨K, x2, y3, y4, y5, y6, y7, S1, e1, w1, f1, k1⟩ := loop_ok w (f := S.length) (S0 := S) (Nat.le_refl _) 100000 [t.bg] [t.bg] (S.length + 1) none none none none none (S ++ [Ob.dK (kd [t.bg]), Ob.lst [.str t.bg]]) (wl0 w) (by have := names_few w; simp; omega) (by have := names_few w; simp; omega) (by simp) (by simp) (by omega) Kp.new (by omega)
  have hk := w1.few w
  have hn := names_few w
  have hp := List.mergeSort_perm K leS
  refine ⟨S1.length, K.mergeSort leS, S1 ++ [Ob.lst ((K.mergeSort leS).map D.str)], ?_, by simp, fun x => ?_, fun x hx => ?_, by rw [hp.length_eq]; omega, k1.trans Kp.new⟩
  · have es : gSortedD [.ref S.length] S1 = some (.ref S1.length, S1 ++ [Ob.lst ((K.mergeSort leS).map D.str)]) := by
      have : K.length < 64 := by omega
      simp [gSortedD, f1, keyStrs_kd, this, newL]
    show m16 (lv j) [t.toD] S = _
    rw [come_def]
    generalize startS = X1 at e0 ⊢
    generalize mWh condL bodyL 100000 = X2 at e1 ⊢
    simp [mBody, startE, mSeq, mAsg, mBin, mVar, mC, mCall, mCons, mNil, gN, mIfS, mIf, mTru, dTru, mRet, mTup, mAndT, mOrT, asB, dLt, dGt, dEq, sEq, PL.alt, iiI, iiB, mLst, newL, mNext, mNeg, mBlt, dSub, sz0, sz1, sz2, sz3, sz4, sz5, sz6, sz8, yd_some, List.replicate, e0, e1, es]
  · rw [hp.mem_iff]
    exact wl_end w1 x
  · exact w1.sub x (hp.mem_iff.mp hx)
end K11
end

section
set_option Elab.async false
set_option linter.all false
set_option maxRecDepth 100000
set_option maxHeartbeats 800000
namespace K11
open PySem PySem.Spec PyProof.Rows L2 PL
/-! scenes by name -/
def sd (ss : List Scn) : List (Key × D) := ss.map fun s => ((.inr s.nm : Key), s.toD)
theorem sd_put {pre : List Scn} {s : Scn} (h : s.nm ∉ pre.map Scn.nm) : putD (sd pre) (.inr s.nm) s.toD = sd (pre ++ [s]) := by
  have c : ((sd pre).any fun kv => decide (kv.1 = (.inr s.nm : Key))) = false := by
    rw [List.any_eq_false]
    intro kv hk
    obtain ⟨b, hb, rfl⟩ := List.mem_map.mp hk
    simp only [decide_eq_true_eq]
    intro e
    injection e with e
    exact h (List.mem_map.mpr ⟨b, hb, e⟩)
  unfold putD
  rw [if_neg (by rw [c]; decide)]
  unfold sd
  rw [List.map_append]
  rfl
theorem sd_val : ∀ {ss : List Scn}, (ss.map Scn.nm).Nodup → ∀ {s : Scn}, s ∈ ss → valD (sd ss) (.inr s.nm) = some s.toD
  | [], _, s, h => by cases h
  | a :: ss, hn, s, h => by
    rw [List.map_cons, List.nodup_cons] at hn
    have key : valD (sd (a :: ss)) (.inr s.nm) = if a.nm = s.nm then some a.toD else valD (sd ss) (.inr s.nm) := by
      unfold valD sd
      rw [List.map_cons, List.find?_cons]
      by_cases c : a.nm = s.nm
      · simp [c]
      · have : decide ((Sum.inr a.nm : Key) = .inr s.nm) = false := by
          rw [decide_eq_false_iff_not]
          intro e
          injection e with e
          exact c e
        simp only [this, if_neg c]
    rw [key]
    rcases List.mem_cons.mp h with rfl | h1
    · simp
    · rw [if_neg (fun c => hn.1 (List.mem_map.mpr ⟨s, h1, c.symm⟩))]
      exact sd_val hn.2 h1
theorem dc_loop (S0 : Sto) (env : PL.Env) (h0 : env.length = 2) : ∀ (ss pre : List Scn) (i : Nat), i = pre.length → ((pre ++ ss).map Scn.nm).Nodup → (pre ++ ss).length ≤ 100 →
    mDcL (nxT ((pre ++ ss).map Scn.toD)) (gN 1) mYes (mBin ixA (mVar 1) (mC (.int 0))) (mVar 1) S0.length (ss.length + 1) i env (S0 ++ [Ob.dK (sd pre)]) = some (S0 ++ [Ob.dK (sd (pre ++ ss))]) := by
  intro ss
  induction ss with
  | nil =>
    intro pre i hi _ _
    have : ((pre ++ []).map Scn.toD)[i]? = none := List.getElem?_eq_none (by simp [hi])
    unfold mDcL
    show (nxT _ i _).bind _ = _
    unfold nxT
    rw [this, Option.bind_some]
    simp
  | cons s ss ih =>
    intro pre i hi hn hl
    have hx : ((pre ++ s :: ss).map Scn.toD)[i]? = some s.toD := by
      rw [hi, List.map_append, List.getElem?_append_right (by simp)]
      simp
    have hnm : s.nm ∉ pre.map Scn.nm := by
      rw [List.map_append, List.map_cons, List.nodup_append] at hn
      exact fun h => hn.2.2 _ h _ (List.mem_cons_self ..) rfl
    have hsz : 100 < sizeLine := by decide
    have hpl : (sd pre).length < sizeLine := by
      rw [sd, List.length_map]
      rw [List.length_append] at hl
      omega
    have e := ih (pre ++ [s]) (i + 1) (by simp [hi]) (by simpa using hn) (by simpa using hl)
    rw [List.append_assoc, List.singleton_append] at e
    unfold mDcL
    show (nxT _ i _).bind _ = _
    unfold nxT
    rw [hx, Option.bind_some, List.length_cons]
    have ev1 : ∀ T : Sto, mBin ixA (mVar 1) (mC (.int 0)) (env.set 1 (some s.toD)) T = some (.str s.nm, T) := fun T => by
      have : (env.set 1 (some s.toD))[1]? = some (some s.toD) := by rw [List.getElem?_set_self (by omega)]
      simp [mBin, mVar, mC, this, scn0]
    have ev2 : ∀ T : Sto, mVar 1 (env.set 1 (some s.toD)) T = some (s.toD, T) := fun T => by
      have : (env.set 1 (some s.toD))[1]? = some (some s.toD) := by rw [List.getElem?_set_self (by omega)]
      simp [mVar, this]
    simp only [gN, mYes, Option.bind_some, if_true, ev1, ev2, List.getElem?_concat_length, keyD, hpl, sd_put hnm]
    rw [List.set_append_right _ _ (Nat.le_refl _), Nat.sub_self]
    exact e
theorem byname_ok {t : Tale} (w : t.Whole) (j : Nat) (S : Sto) : lv (j + 1) 0 [t.toD] S = some (.ref S.length, S ++ [Ob.dK (sd t.ss)]) := by
  have hf := w.few
  have e := dc_loop S [some t.toD, none] rfl t.ss [] 0 rfl w.nd (by simp; omega)
  have hi : mItr (mBin ixA (mVar 0) (mC (.int 5))) [some t.toD, none] S = some ((t.ss.length + 1, nxT (t.ss.map Scn.toD)), S) := by
    simp [mItr, mBin, mVar, mC, tale5, itrOf]
  have ed : mDc (mItr (mBin ixA (mVar 0) (mC (.int 5)))) (gN 1) (mYes) (mBin ixA (mVar 1) (mC (.int 0))) (mVar 1) [1] [some t.toD, none] S = some (.ref S.length, S ++ [Ob.dK (sd t.ss)]) := by
    unfold mDc
    rw [hi, Option.bind_some]
    dsimp only
    have : wipeE [some t.toD, none] [1] = [some t.toD, none] := rfl
    rw [this]
    rw [List.nil_append] at e
    show Option.bind (mDcL _ _ _ _ _ _ _ _ _ (S ++ [Ob.dK (sd [])])) _ = _
    rw [e, Option.bind_some]
  show m0 (lv j) [t.toD] S = _
  unfold m0
  generalize mDc (mItr (mBin ixA (mVar 0) (mC (.int 5)))) (gN 1) (mYes) (mBin ixA (mVar 1) (mC (.int 0))) (mVar 1) [1] = Y at ed ⊢
  simp [mBody, startE, mSeq, mAsg, mBin, mVar, mC, mCall, mCons, mNil, gN, mIfS, mIf, mTru, dTru, mRet, mTup, mAndT, mOrT, asB, dLt, dGt, dEq, sEq, PL.alt, iiI, iiB, mLst, newL, mNext, mNeg, mBlt, dSub, sz0, sz1, sz2, sz3, sz4, sz5, sz6, sz8, yd_some, List.replicate, ed]
/-! what a scene leads to -/
theorem led_in (S0 : Sto) (x0 x1 x2 x3 x4 : Option D) : ∀ (ys pre : List Str) (i : Nat) (acc : List D), i = pre.length → acc.length + ys.length ≤ 2000 → ∀ x5 : Option D,
    mLc2J (nxT ((pre ++ ys).map D.str)) (gN 5) mYes (mVar 5) [5] S0.length (ys.length + 1) i [x0, x1, x2, x3, x4, x5] (S0 ++ [Ob.lst acc]) = some (S0 ++ [Ob.lst (acc ++ ys.map D.str)]) := by
  intro ys
  induction ys with
  | nil =>
    intro pre i acc hi _ x5
    have : ((pre ++ []).map D.str)[i]? = none := List.getElem?_eq_none (by simp [hi])
    unfold mLc2J
    show (nxT _ i _).bind _ = _
    unfold nxT
    rw [this, Option.bind_some]
    simp
  | cons y ys ih =>
    intro pre i acc hi hl x5
    have hx : ((pre ++ y :: ys).map D.str)[i]? = some (.str y) := by
      rw [hi, List.map_append, List.getElem?_append_right (by simp)]
      simp
    rw [List.length_cons] at hl
    have hsz : 2000 < sizeLine := by decide
    have hpl : acc.length < sizeLine := by omega
    have e := ih (pre ++ [y]) (i + 1) (acc ++ [.str y]) (by simp [hi]) (by simp; omega) x5
    rw [List.append_assoc, List.singleton_append] at e
    unfold mLc2J
    show (nxT _ i _).bind _ = _
    unfold nxT
    rw [hx, Option.bind_some, List.length_cons]
    have hs : (S0 ++ [Ob.lst acc]).set S0.length (Ob.lst (acc ++ [.str y])) = S0 ++ [Ob.lst (acc ++ [.str y])] := by simp
    simp only [wipeE, List.foldl, List.set, gN, mYes, Option.bind_some, if_true, mVar, List.getElem?_cons_succ, List.getElem?_cons_zero, List.getElem?_concat_length, hpl, hs, Option.map_some, Option.join_some]
    rw [List.map_cons, ← List.singleton_append (l := ys.map D.str), ← List.append_assoc]
    exact e
theorem led_out (S0 : Sto) (x0 x1 x2 x3 : Option D) : ∀ (cs pre : List Chc) (i : Nat) (acc : List D), i = pre.length → (∀ c ∈ cs, c.ys.length ≤ 2) → acc.length + 2 * cs.length ≤ 1000 → ∀ x4 x5 : Option D,
    mLc2I (nxT ((pre ++ cs).map Chc.toD)) (gN 4) mYes (mItr (mSl slA (mBin ixA (mVar 4) (mC (.int 5))) (mPart (mC (.int 1))) (mNo))) (gN 5) mYes (mVar 5) [5] S0.length (cs.length + 1) i [x0, x1, x2, x3, x4, x5] (S0 ++ [Ob.lst acc]) = some (S0 ++ [Ob.lst (acc ++ (cs.flatMap Chc.ys).map D.str)]) := by
  intro cs
  induction cs with
  | nil =>
    intro pre i acc hi _ _ x4 x5
    have : ((pre ++ []).map Chc.toD)[i]? = none := List.getElem?_eq_none (by simp [hi])
    unfold mLc2I
    show (nxT _ i _).bind _ = _
    unfold nxT
    rw [this, Option.bind_some]
    simp
  | cons c cs ih =>
    intro pre i acc hi hc hl x4 x5
    have hx : ((pre ++ c :: cs).map Chc.toD)[i]? = some c.toD := by
      rw [hi, List.map_append, List.getElem?_append_right (by simp)]
      simp
    rw [List.length_cons] at hl
    have hy := hc c (List.mem_cons_self ..)
    have e := ih (pre ++ [c]) (i + 1) (acc ++ c.ys.map D.str) (by simp [hi]) (fun d hd => hc d (List.mem_cons_of_mem _ hd)) (by simp; omega) x4 x5
    rw [List.append_assoc, List.singleton_append] at e
    have ein := led_in S0 x0 x1 x2 x3 (some c.toD) c.ys [] 0 acc rfl (by omega) x5
    rw [List.nil_append] at ein
    have hit : mItr (mSl slA (mBin ixA (mVar 4) (mC (.int 5))) (mPart (mC (.int 1))) (mNo)) [x0, x1, x2, x3, some c.toD, x5] (S0 ++ [Ob.lst acc]) = some ((c.ys.length + 1, nxT (c.ys.map D.str)), S0 ++ [Ob.lst acc]) := by
      have e1 := chc5 c (S0 ++ [Ob.lst acc])
      have e4 := part1 [x0, x1, x2, x3, some c.toD, x5] (S0 ++ [Ob.lst acc])
      generalize mPart (mC (.int 1)) = Y at e4 ⊢
      simp [mItr, mSl, mBin, mVar, mC, mNo, e1, e4, slA, cut1, itrOf]
    unfold mLc2I
    show (nxT _ i _).bind _ = _
    unfold nxT
    rw [hx, Option.bind_some, List.length_cons]
    simp only [gN, mYes, Option.bind_some, if_true, List.set]
    generalize mItr (mSl slA (mBin ixA (mVar 4) (mC (.int 5))) (mPart (mC (.int 1))) (mNo)) = Y at hit e ⊢
    rw [hit, Option.bind_some]
    dsimp only
    rw [ein, Option.bind_some]
    rw [List.flatMap_cons, List.map_append (l₁ := c.ys), ← List.append_assoc acc]
    exact e
theorem led_ok {N : List Str} {s : Scn} (h : s.In N) (j : Nat) (S : Sto) : ∃ n S', lv (j + 1) 2 [s.toD] S = some (.ref n, S') ∧ S'[n]? = some (Ob.lst ((s.cs.flatMap Chc.ys ++ s.wv).map D.str)) ∧ Kp S S' ∧ S.length ≤ n := by
  have h3 := h.2.2.1
  have h4 := h.2.2.2
  have hfl := flat_len h.ys
  have e := led_out S (some s.toD) (some s.en) (some (.tup (s.cs.map Chc.toD))) (some (.tup (s.wv.map D.str))) s.cs [] 0 [] rfl h.ys (by simp; omega) none none
  rw [List.nil_append, List.nil_append] at e
  have hi : mItr (mVar 2) [some s.toD, some s.en, some (.tup (s.cs.map Chc.toD)), some (.tup (s.wv.map D.str)), none, none] S = some ((s.cs.length + 1, nxT (s.cs.map Chc.toD)), S) := by
    simp [mItr, mVar, itrOf]
  have ed : mLc2 (mItr (mVar 2)) (gN 4) (mYes) (mItr (mSl slA (mBin ixA (mVar 4) (mC (.int 5))) (mPart (mC (.int 1))) (mNo))) (gN 5) (mYes) (mVar 5) [4, 5] [5] [some s.toD, some s.en, some (.tup (s.cs.map Chc.toD)), some (.tup (s.wv.map D.str)), none, none] S = some (.ref S.length, S ++ [Ob.lst ((s.cs.flatMap Chc.ys).map D.str)]) := by
    unfold mLc2
    rw [hi, Option.bind_some]
    dsimp only
    have : wipeE [some s.toD, some s.en, some (.tup (s.cs.map Chc.toD)), some (.tup (s.wv.map D.str)), none, none] [4, 5] = [some s.toD, some s.en, some (.tup (s.cs.map Chc.toD)), some (.tup (s.wv.map D.str)), none, none] := rfl
    rw [this, e, Option.bind_some]
  have hz : 2000 ≤ sizeLine := by decide
  have ec := cat_ref (S := S ++ [Ob.lst ((s.cs.flatMap Chc.ys).map D.str), Ob.lst (s.wv.map D.str)]) (a := S.length) (b := S.length + 1) (xs := (s.cs.flatMap Chc.ys).map D.str) (ys := s.wv.map D.str) (by simp) (by simp) (by simp only [List.length_map]; omega)
  have el := list_tup (ds := s.wv.map D.str) (S := S ++ [Ob.lst ((s.cs.flatMap Chc.ys).map D.str)])
  refine ⟨S.length + 2, S ++ [Ob.lst ((s.cs.flatMap Chc.ys).map D.str), Ob.lst (s.wv.map D.str), Ob.lst ((s.cs.flatMap Chc.ys).map D.str ++ s.wv.map D.str)], ?_, by simp, Kp.new, by omega⟩
  show m2 (lv j) [s.toD] S = _
  unfold m2
  generalize mLc2 (mItr (mVar 2)) (gN 4) (mYes) (mItr (mSl slA (mBin ixA (mVar 4) (mC (.int 5))) (mPart (mC (.int 1))) (mNo))) (gN 5) (mYes) (mVar 5) [4, 5] [5] = Y at ed ⊢
  have hg : gT 5 (gsC (gN 1) (gsC (gN 1) (gsC (gN 2) (gsC (gN 3) (gsC (gN 1) (gsN)))))) s.toD [some s.toD, none, none, none, none, none] S = some ([some s.toD, some s.en, some (.tup (s.cs.map Chc.toD)), some (.tup (s.wv.map D.str)), none, none], S) := by
    simp [gT, gsC, gsN, gN, Scn.toD]
  generalize gT 5 (gsC (gN 1) (gsC (gN 1) (gsC (gN 2) (gsC (gN 3) (gsC (gN 1) (gsN)))))) = Z at hg ⊢
  simp only [List.append_assoc, List.singleton_append, List.length_append, List.length_singleton] at el
  simp only [List.append_assoc, List.singleton_append, List.length_append, List.length_cons, List.length_nil, Nat.zero_add, List.cons_append, List.nil_append] at ec
  simp [mBody, startE, mSeq, mAsg, mBin, mVar, mC, mCall, mCons, mNil, gN, mIfS, mIf, mTru, dTru, mRet, mTup, mAndT, mOrT, asB, dLt, dGt, dEq, sEq, PL.alt, iiI, iiB, mLst, newL, mNext, mNeg, mBlt, dSub, sz0, sz1, sz2, sz3, sz4, sz5, sz6, sz8, yd_some, List.replicate, hg, ed, el, ec]
end K11
end

section
set_option Elab.async false
set_option linter.all false
set_option maxRecDepth 100000
set_option maxHeartbeats 800000
namespace K11
open PySem PySem.Spec PyProof.Rows L2 PL
def landE : ME := mBin ixA (mVar 1) (mMt "list" gPop (mVar 4) mNil)
def innerB : MS := mIfS (asB (mBin (inA not) (mVar 6) (mVar 3))) (mSeq (mAsg (mC (.bl true)) (gSubM (mVar 3) (mVar 6) setSeq)) (mDrop (mMt "list" gAppend (mVar 4) (mCons (mVar 6) (mNil))))) (mNext)
def innerF (C : Nat → MF) : MS := mFor (mItr (mCall 1 (C 2) (mCons (mVar 5) (mNil)))) (gN 6) innerB
def bodyE (C : Nat → MF) : MS := mSeq (mAsg landE (gN 5)) (innerF C)
def lastC : ME := mLc (mWalk (fun p => kD p.1) (mVar 1)) (gN 6) (asB (mBin (inA not) (mVar 6) (mVar 3))) (mVar 6) [6]
theorem m1_def (C : Nat → MF) : m1 C = mBody 7 (mSeq (mAsg (mCall 1 (C 0) (mCons (mVar 0) (mNil))) (gN 1)) (mSeq (mAsg (mBin ixA (mVar 0) (mC (.int 6))) (gN 2)) (mSeq (mAsg (mDisp [(mVar 2, mC (.bl true))]) (gN 3)) (mSeq (mAsg (mLst (mCons (mVar 2) (mNil))) (gN 4))
    (mSeq (mWh (mTru (mVar 4)) (bodyE C) 100000) (mRet (mBlt gTuple (mCons (mLockE 1 lastC) (mNil))))))))) := rfl
/-- what is new, in order -/
def ris (K : List Str) : List Str → List Str
  | [] => []
  | y :: ys => if y ∈ K then ris K ys else y :: ris (K ++ [y]) ys
theorem ris_add : ∀ {ys K : List Str}, addK K ys = K ++ ris K ys
  | [], K => by simp [addK, ris]
  | y :: ys, K => by
    have e : ris K (y :: ys) = if y ∈ K then ris K ys else y :: ris (K ++ [y]) ys := by rw [ris]
    show addK (add1 K y) ys = _
    rw [ris_add, e]
    unfold add1
    split
    · rfl
    · rw [List.append_assoc, List.singleton_append]
theorem ris_len {ys K : List Str} : (ris K ys).length ≤ ys.length := by
  have := addK_len K ys
  rw [ris_add, List.length_append] at this
  omega
theorem mem_ris {ys K : List Str} {y : Str} : y ∈ K ++ ris K ys ↔ y ∈ K ∨ y ∈ ys := by rw [← ris_add, mem_addK]
theorem in_loop {S0 : Sto} {f l : Nat} (nf : f ≠ l) (bf : S0.length ≤ f) (bl : S0.length ≤ l) {n : Nat} (hfn : f ≠ n) (hln : l ≠ n) (x0 x1 x2 x5 : Option D) : ∀ (ys pre : List Str) (i : Nat) (K L : List Str) (S : Sto) (x6 : Option D), i = pre.length → S[n]? = some (Ob.lst ((pre ++ ys).map D.str)) → S[f]? = some (Ob.dK (kd K)) → S[l]? = some (Ob.lst (L.map D.str)) →
    K.length + ys.length ≤ 4000 → L.length + ys.length ≤ 4000 → Kp S0 S →
    ∃ S' x6', mForL (nxL n) (gN 6) innerB (ys.length + 1) i [x0, x1, x2, some (.ref f), some (.ref l), x5, x6] S = some (.nx, [x0, x1, x2, some (.ref f), some (.ref l), x5, x6'], S') ∧ S'[f]? = some (Ob.dK (kd (K ++ ris K ys))) ∧ S'[l]? = some (Ob.lst ((L ++ ris K ys).map D.str)) ∧ Kp S0 S' := by
  intro ys
  induction ys with
  | nil =>
    intro pre i K L S x6 hi hn hf hl _ _ k
    refine ⟨S, x6, ?_, by simpa [ris] using hf, by simpa [ris] using hl, k⟩
    have : ((pre ++ []).map D.str)[i]? = none := List.getElem?_eq_none (by simp [hi])
    unfold mForL
    show (nxL n i S).bind _ = _
    have e : nxL n i S = some none := by
      simp only [nxL, seqAt, hn, Option.bind_some, this]
    rw [e, Option.bind_some]
  | cons y ys ih =>
    intro pre i K L S x6 hi hn hf hl h1 h2 k
    have hx : ((pre ++ y :: ys).map D.str)[i]? = some (.str y) := by
      rw [hi, List.map_append, List.getElem?_append_right (by simp)]
      simp
    have en : nxL n i S = some (some (.str y)) := by
      simp only [nxL, seqAt, hn, Option.bind_some, hx]
    rw [List.length_cons] at h1 h2
    have hz : 5000 < sizeLine := by decide
    have hin := in_kd hf y
    have lf := (List.getElem?_eq_some_iff.mp hf).1
    have ll := (List.getElem?_eq_some_iff.mp hl).1
    unfold mForL
    rw [List.length_cons]
    by_cases c : y ∈ K
    · have hb : innerB [x0, x1, x2, some (.ref f), some (.ref l), x5, some (.str y)] S = some (.nx, [x0, x1, x2, some (.ref f), some (.ref l), x5, some (.str y)], S) := by
        have : decide (y ∉ K) = false := by simp [c]
        rw [this] at hin
        unfold innerB
        generalize mSeq (mAsg (mC (.bl true)) (gSubM (mVar 3) (mVar 6) setSeq)) (mDrop (mMt "list" gAppend (mVar 4) (mCons (mVar 6) (mNil)))) = Y
        simp [mIfS, asB, mBin, mVar, hin, mNext]
      obtain ⟨S', x6', e1, f1, l1, k1⟩ := ih (pre ++ [y]) (i + 1) K L S (some (.str y)) (by simp [hi]) (by simpa using hn) hf hl (by omega) (by omega) k
      have hr : ris K (y :: ys) = ris K ys := by rw [ris, if_pos c]
      rw [hr]
      refine ⟨S', x6', ?_, f1, l1, k1⟩
      show (nxL n i S).bind _ = _
      rw [en, Option.bind_some]
      dsimp only
      show (gN 6 (.str y) _ S).bind _ = _
      unfold gN
      rw [Option.bind_some]
      dsimp only [List.set]
      rw [hb, Option.bind_some]
      exact e1
    · have hr : ris K (y :: ys) = y :: ris (K ++ [y]) ys := by rw [ris, if_neg c]
      have hp : putD (kd K) (.inr y) (.bl true) = kd (K ++ [y]) := by rw [putD_kd, add1, if_neg c]
      have hk : (kd K).length < sizeLine := by rw [kd_len]; omega
      have hs : setSeq (.ref f) (.str y) (.bl true) S = some (S.set f (Ob.dK (kd (K ++ [y])))) := by
        simp [setSeq, hf, hk, hp]
      have hl2 : (S.set f (Ob.dK (kd (K ++ [y]))))[l]? = some (Ob.lst (L.map D.str)) := by rw [List.getElem?_set_ne nf]; exact hl
      have hL : (L.map D.str).length < sizeLine := by rw [List.length_map]; omega
      have ha : gAppend (.ref l) [.str y] (S.set f (Ob.dK (kd (K ++ [y])))) = some (.non, (S.set f (Ob.dK (kd (K ++ [y])))).set l (Ob.lst ((L ++ [y]).map D.str))) := by
        have he : (L.map D.str).length < sizeLine := hL
        simp only [gAppend, hl2]
        rw [if_pos he, List.map_append]
        rfl
      have hd : dIs "list" (.ref l) (S.set f (Ob.dK (kd (K ++ [y])))) = true := by
        simp only [dIs, hl2]
        rfl
      have hb : innerB [x0, x1, x2, some (.ref f), some (.ref l), x5, some (.str y)] S = some (.nx, [x0, x1, x2, some (.ref f), some (.ref l), x5, some (.str y)], (S.set f (Ob.dK (kd (K ++ [y])))).set l (Ob.lst ((L ++ [y]).map D.str))) := by
        have : decide (y ∉ K) = true := by simp [c]
        rw [this] at hin
        unfold innerB
        simp only [mIfS, asB, mBin, mVar, List.getElem?_cons_succ, List.getElem?_cons_zero, Option.map_some, Option.join_some, Option.bind_some, hin, if_true, mSeq, mAsg, mC, gSubM, hs, mDrop, mMt, hd, mCons, mNil, ha]
      have S2n : ((S.set f (Ob.dK (kd (K ++ [y])))).set l (Ob.lst ((L ++ [y]).map D.str)))[n]? = some (Ob.lst ((pre ++ y :: ys).map D.str)) := by
        rw [List.getElem?_set_ne hln, List.getElem?_set_ne hfn]
        exact hn
      have S2f : ((S.set f (Ob.dK (kd (K ++ [y])))).set l (Ob.lst ((L ++ [y]).map D.str)))[f]? = some (Ob.dK (kd (K ++ [y]))) := by
        rw [List.getElem?_set_ne (fun h => nf h.symm), List.getElem?_set_self lf]
      have S2l : ((S.set f (Ob.dK (kd (K ++ [y])))).set l (Ob.lst ((L ++ [y]).map D.str)))[l]? = some (Ob.lst ((L ++ [y]).map D.str)) := by
        rw [List.getElem?_set_self (by rw [List.length_set]; exact ll)]
      have k2 : Kp S0 ((S.set f (Ob.dK (kd (K ++ [y])))).set l (Ob.lst ((L ++ [y]).map D.str))) := (k.set bf).set bl
      generalize (S.set f (Ob.dK (kd (K ++ [y])))).set l (Ob.lst ((L ++ [y]).map D.str)) = S2 at hb S2n S2f S2l k2
      obtain ⟨S', x6', e1, f1, l1, k1⟩ := ih (pre ++ [y]) (i + 1) (K ++ [y]) (L ++ [y]) S2 (some (.str y)) (by simp [hi]) (by simpa using S2n) S2f S2l (by simp; omega) (by simp; omega) k2
      rw [hr]
      rw [List.append_assoc, List.singleton_append] at f1 l1
      refine ⟨S', x6', ?_, f1, l1, k1⟩
      show (nxL n i S).bind _ = _
      rw [en, Option.bind_some]
      dsimp only
      show (gN 6 (.str y) _ S).bind _ = _
      unfold gN
      rw [Option.bind_some]
      dsimp only [List.set]
      rw [hb, Option.bind_some]
      exact e1
theorem Wl.step2 {t : Tale} (w : t.Whole) {K L : List Str} {s : Scn} (hs : s ∈ t.ss) (h : Wl t K (L ++ [s.nm])) : Wl t (K ++ ris K (s.cs.flatMap Chc.ys ++ s.wv)) (L ++ ris K (s.cs.flatMap Chc.ys ++ s.wv)) := by
  have hK : ∀ y, y ∈ K ++ ris K (s.cs.flatMap Chc.ys ++ s.wv) ↔ y ∈ K ∨ y ∈ s.more := fun y => by
    rw [mem_ris]
    unfold Scn.more
    rw [List.mem_append, List.mem_append]
    exact or_congr Iff.rfl Or.comm
  refine wl_step w hs h (by rw [← ris_add]; exact nodup_addK h.nd) hK ?_ ?_ ?_
  · intro y hy
    rcases List.mem_append.mp hy with a | a
    · exact List.mem_append_left _ (h.ll y (List.mem_append_left _ a))
    · exact List.mem_append_right _ a
  · intro y hy hn
    rcases List.mem_append.mp hy with a | a
    · exact (hn a).elim
    · exact List.mem_append_right _ a
  · intro y hy
    exact List.mem_append_left _ hy
theorem turn2_ok {t : Tale} (w : t.Whole) {s : Scn} (hs : s ∈ t.ss) (j : Nat) {d f l : Nat} {K L : List Str} {S S0 : Sto} {x2 x5 x6 : Option D} (hd : S0[d]? = some (Ob.dK (sd t.ss))) (hf : S[f]? = some (Ob.dK (kd K))) (hl : S[l]? = some (Ob.lst ((L ++ [s.nm]).map D.str))) (nf : f ≠ l) (k : Kp S0 S) (bf : S0.length ≤ f) (bl : S0.length ≤ l) (hK : K.length ≤ 100) (hL : L.length ≤ 100) :
    ∃ y5 y6 S', bodyE (lv (j + 1)) [some t.toD, some (.ref d), x2, some (.ref f), some (.ref l), x5, x6] S = some (.nx, [some t.toD, some (.ref d), x2, some (.ref f), some (.ref l), y5, y6], S') ∧
      S'[f]? = some (Ob.dK (kd (K ++ ris K (s.cs.flatMap Chc.ys ++ s.wv)))) ∧ S'[l]? = some (Ob.lst ((L ++ ris K (s.cs.flatMap Chc.ys ++ s.wv)).map D.str)) ∧ Kp S0 S' := by
  have hin := w.cl s hs
  have lf := (List.getElem?_eq_some_iff.mp hf).1
  have ll := (List.getElem?_eq_some_iff.mp hl).1
  have hdS := k.keep _ _ hd
  have ld := (List.getElem?_eq_some_iff.mp hd).1
  have nd : l ≠ d := by omega
  have e1 : landE [some t.toD, some (.ref d), x2, some (.ref f), some (.ref l), x5, x6] S = some (s.toD, S.set l (Ob.lst (L.map D.str))) := by
    have hdi : dIs "list" (.ref l) S = true := by simp [dIs, hl]
    have hp : gPop (.ref l) [] S = some (.str s.nm, S.set l (Ob.lst (L.map D.str))) := by
      simp [gPop, hl, List.dropLast_concat]
    have hdS1 : (S.set l (Ob.lst (L.map D.str)))[d]? = some (Ob.dK (sd t.ss)) := by rw [List.getElem?_set_ne nd]; exact hdS
    have hx : ixA (.ref d) (.str s.nm) (S.set l (Ob.lst (L.map D.str))) = some (s.toD, S.set l (Ob.lst (L.map D.str))) := by
      have hv := sd_val w.nd hs
      simp [ixA, ixSeq, ixD, dictAt, hdS1, keyD, hv]
    unfold landE
    simp only [mBin, mVar, List.getElem?_cons_succ, List.getElem?_cons_zero, Option.map_some, Option.join_some, Option.bind_some, mMt, hdi, if_true, mNil, hp, hx]
  have k1 : Kp S0 (S.set l (Ob.lst (L.map D.str))) := k.set bl
  have f1 : (S.set l (Ob.lst (L.map D.str)))[f]? = some (Ob.dK (kd K)) := by rw [List.getElem?_set_ne (fun h => nf h.symm)]; exact hf
  have l1 : (S.set l (Ob.lst (L.map D.str)))[l]? = some (Ob.lst (L.map D.str)) := by simp [ll]
  have len1 : (S.set l (Ob.lst (L.map D.str))).length = S.length := List.length_set
  generalize S.set l (Ob.lst (L.map D.str)) = S1 at e1 k1 f1 l1 len1
  obtain ⟨n, S2, e2, n2, k2, bn⟩ := led_ok hin j S1
  have hfl := flat_len hin.ys
  have h3 := hin.2.2.1
  have h4 := hin.2.2.2
  obtain ⟨S3, x6', e3, f3, l3, k3⟩ := in_loop (S0 := S0) nf bf bl (n := n) (by omega) (by omega) (some t.toD) (some (.ref d)) x2 (some s.toD) (s.cs.flatMap Chc.ys ++ s.wv) [] 0 K L S2 x6 rfl n2 (k2.keep _ _ f1) (k2.keep _ _ l1) (by rw [List.length_append]; omega) (by rw [List.length_append]; omega) (k1.trans k2)
  refine ⟨some s.toD, x6', S3, ?_, f3, l3, k3⟩
  have hi : mItr (mCall 1 (lv (j + 1) 2) (mCons (mVar 5) (mNil))) [some t.toD, some (.ref d), x2, some (.ref f), some (.ref l), some s.toD, x6] S1 = some (((s.cs.flatMap Chc.ys ++ s.wv).length + 1, nxL n), S2) := by
    generalize lv (j + 1) = C at e2 ⊢
    simp [mItr, mCall, mCons, mVar, mNil, e2, itrOf, seqAt, n2]
  unfold bodyE
  generalize landE = X1 at e1 ⊢
  have e4 : innerF (lv (j + 1)) [some t.toD, some (.ref d), x2, some (.ref f), some (.ref l), some s.toD, x6] S1 = some (.nx, [some t.toD, some (.ref d), x2, some (.ref f), some (.ref l), some s.toD, x6'], S3) := by
    unfold innerF mFor
    rw [hi, Option.bind_some]
    exact e3
  generalize innerF (lv (j + 1)) = X2 at e4 ⊢
  simp [mBody, startE, mSeq, mAsg, mBin, mVar, mC, mCall, mCons, mNil, gN, mIfS, mIf, mTru, dTru, mRet, mTup, mAndT, mOrT, asB, dLt, dGt, dEq, sEq, PL.alt, iiI, iiB, mLst, newL, mNext, mNeg, mBlt, dSub, sz0, sz1, sz2, sz3, sz4, sz5, sz6, sz8, yd_some, e1, e4]
theorem loop2_ok {t : Tale} (w : t.Whole) (j : Nat) {d f l : Nat} {S0 : Sto} (hd : S0[d]? = some (Ob.dK (sd t.ss))) (nf : f ≠ l) (bf : S0.length ≤ f) (bl : S0.length ≤ l) (x2 : Option D) : ∀ (n : Nat) (K L : List Str) (x5 x6 : Option D) (S : Sto), Wl t K L → t.names.length + L.length < n + K.length → t.names.length + L.length ≤ 8 + K.length →
    S[f]? = some (Ob.dK (kd K)) → S[l]? = some (Ob.lst (L.map D.str)) → Kp S0 S →
    ∃ K' y5 y6 S', mWh (mTru (mVar 4)) (bodyE (lv (j + 1))) n [some t.toD, some (.ref d), x2, some (.ref f), some (.ref l), x5, x6] S = some (.nx, [some t.toD, some (.ref d), x2, some (.ref f), some (.ref l), y5, y6], S') ∧ Wl t K' [] ∧ S'[f]? = some (Ob.dK (kd K')) ∧ Kp S0 S' := by
  intro n
  induction n with
  | zero =>
    intro K L x5 x6 S h hm _ _ _ _
    have := h.few w
    omega
  | succ n ih =>
    intro K L x5 x6 S h hm hm2 hf hl k
    have hk := h.few w
    have hn := names_few w
    have ec : mTru (mVar 4) [some t.toD, some (.ref d), x2, some (.ref f), some (.ref l), x5, x6] S = some (!L.isEmpty, S) := by
      simp [mTru, mVar, dTru, hl]
    rcases List.eq_nil_or_concat L with rfl | ⟨L0, y, rfl⟩
    · refine ⟨K, x5, x6, S, ?_, h, hf, k⟩
      unfold mWh
      rw [ec, Option.bind_some]
      rfl
    · rw [List.concat_eq_append] at *
      obtain ⟨s, hs, rfl⟩ : ∃ s ∈ t.ss, s.nm = y := List.mem_map.mp (h.sub y (h.ll y (by simp)))
      simp only [List.length_append, List.length_singleton] at hm hm2
      obtain ⟨y5, y6, S', e1, f1, l1, k1⟩ := turn2_ok w hs j (x2 := x2) (x5 := x5) (x6 := x6) hd hf hl nf k bf bl (by omega) (by omega)
      have h2 := h.step2 w hs
      obtain ⟨K', z5, z6, S2, e2, w2, f2, k2⟩ := ih _ _ y5 y6 S' h2 (by rw [List.length_append, List.length_append]; omega) (by rw [List.length_append, List.length_append]; omega) f1 l1 k1
      refine ⟨K', z5, z6, S2, ?_, w2, f2, k2⟩
      unfold mWh
      rw [ec, Option.bind_some]
      have hb : (!(L0 ++ [s.nm]).isEmpty) = true := by simp
      dsimp only
      rw [if_pos hb, e1, Option.bind_some]
      exact e2
theorem loose_ok {t : Tale} (w : t.Whole) (j : Nat) (S : Sto) : ∃ (K : List Str) (S' : Sto), lv (j + 2) 1 [t.toD] S = some (.tup ((t.names.filter fun x => decide (x ∉ K)).map D.str), S') ∧ (∀ x, x ∈ K ↔ Rch t x) ∧ Kp S S' := by
  have e0 := byname_ok w j S
  obtain ⟨K, y5, y6, S1, e1, w1, f1, k1⟩ := loop2_ok w j (d := S.length) (f := S.length + 1) (l := S.length + 2) (S0 := S ++ [Ob.dK (sd t.ss)]) (by simp) (by omega) (by simp) (by simp) (some (.str t.bg)) 100000 [t.bg] [t.bg] none none (S ++ [Ob.dK (sd t.ss), Ob.dK (kd [t.bg]), Ob.lst [.str t.bg]]) (wl0 w) (by have := names_few w; simp; omega) (by have := names_few w; simp; omega) (by simp) (by simp) (by
      have : S ++ [Ob.dK (sd t.ss), Ob.dK (kd [t.bg]), Ob.lst [.str t.bg]] = (S ++ [Ob.dK (sd t.ss)]) ++ [Ob.dK (kd [t.bg]), Ob.lst [.str t.bg]] := by simp
      rw [this]
      exact Kp.new)
  have d1 : S1[S.length]? = some (Ob.dK (sd t.ss)) := k1.keep _ _ (by simp)
  have hn := names_few w
  have ld := (List.getElem?_eq_some_iff.mp d1).1
  have hz : 10 ≤ sizeLine := by decide
  have el : lastC [some t.toD, some (.ref S.length), some (.str t.bg), some (.ref (S.length + 1)), some (.ref (S.length + 2)), y5, y6] (S1.set S.length (Ob.lkK (sd t.ss))) = some (.ref S1.length, S1.set S.length (Ob.lkK (sd t.ss)) ++ [Ob.lst ((t.names.filter fun x => decide (x ∉ K)).map D.str)]) := by
    have hlk : (S1.set S.length (Ob.lkK (sd t.ss)))[S.length]? = some (Ob.lkK (sd t.ss)) := by simp [ld]
    have fk : (S1.set S.length (Ob.lkK (sd t.ss)))[S.length + 1]? = some (Ob.dK (kd K)) := by rw [List.getElem?_set_ne (by omega)]; exact f1
    have len : (S1.set S.length (Ob.lkK (sd t.ss))).length = S1.length := List.length_set
    rw [← len]
    generalize S1.set S.length (Ob.lkK (sd t.ss)) = S2 at hlk fk
    have hm : (sd t.ss).map (fun p => kD p.1) = t.names.map D.str := by
      unfold sd Tale.names
      rw [List.map_map, List.map_map]
      rfl
    have e := mLcL_pure (nx := nxT (t.names.map D.str)) (S0 := S2) (v := 6) (t := asB (mBin (inA not) (mVar 6) (mVar 3))) (el := mVar 6) (f := strD fun x => decide (x ∉ K)) (g := id) (xs := t.names.map D.str) (env := [some t.toD, some (.ref S.length), some (.str t.bg), some (.ref (S.length + 1)), some (.ref (S.length + 2)), y5, none]) (fun i acc => rfl)
      (fun x hx acc => by
        obtain ⟨y, _, rfl⟩ := List.mem_map.mp hx
        have := in_kd (at_app (T := [Ob.lst acc]) fk) y
        simp [asB, mBin, mVar, strD] at this ⊢
        simp [this])
      (fun x hx _ acc => by simp [mVar]) (t.names.map D.str).length 0 [] (by omega) (by rw [List.length_map]; simp; omega)
    rw [List.drop_zero, filter_str, List.map_id, List.nil_append] at e
    have hi : mWalk (fun p => kD p.1) (mVar 1) [some t.toD, some (.ref S.length), some (.str t.bg), some (.ref (S.length + 1)), some (.ref (S.length + 2)), y5, y6] S2 = some (((t.names.map D.str).length + 1, nxT (t.names.map D.str)), S2) := by
      have hl : (sd t.ss).length = (t.names.map D.str).length := by rw [← hm, List.length_map]
      simp only [mWalk, mVar, List.getElem?_cons_succ, List.getElem?_cons_zero, Option.map_some, Option.join_some, Option.bind_some, lkOf, hlk, hm, hl]
    unfold lastC mLc
    rw [hi, Option.bind_some]
    dsimp only
    have : wipeE [some t.toD, some (.ref S.length), some (.str t.bg), some (.ref (S.length + 1)), some (.ref (S.length + 2)), y5, y6] [6] = [some t.toD, some (.ref S.length), some (.str t.bg), some (.ref (S.length + 1)), some (.ref (S.length + 2)), y5, none] := rfl
    rw [this, e, Option.bind_some]
  have elk : mLockE 1 lastC [some t.toD, some (.ref S.length), some (.str t.bg), some (.ref (S.length + 1)), some (.ref (S.length + 2)), y5, y6] S1 = some (.ref S1.length, S1 ++ [Ob.lst ((t.names.filter fun x => decide (x ∉ K)).map D.str)]) := by
    have hl : lockAt 1 [some t.toD, some (.ref S.length), some (.str t.bg), some (.ref (S.length + 1)), some (.ref (S.length + 2)), y5, y6] S1 = some (S.length, sd t.ss) := by
      simp [lockAt, d1]
    have hb : (S1.set S.length (Ob.lkK (sd t.ss)) ++ [Ob.lst ((t.names.filter fun x => decide (x ∉ K)).map D.str)]).set S.length (Ob.dK (sd t.ss)) = S1 ++ [Ob.lst ((t.names.filter fun x => decide (x ∉ K)).map D.str)] := by
      rw [List.set_append_left _ _ (by rw [List.length_set]; exact ld), List.set_set]
      congr 1
      have hg : S1[S.length] = Ob.dK (sd t.ss) := by
        have := List.getElem?_eq_getElem ld
        rw [d1] at this
        injection this with this
        exact this.symm
      rw [← hg, List.set_getElem_self]
    have hfr : freeAt S.length (S1.set S.length (Ob.lkK (sd t.ss)) ++ [Ob.lst ((t.names.filter fun x => decide (x ∉ K)).map D.str)]) = some (S1 ++ [Ob.lst ((t.names.filter fun x => decide (x ∉ K)).map D.str)]) := by
      have ha := at_app (S := S1.set S.length (Ob.lkK (sd t.ss))) (T := [Ob.lst ((t.names.filter fun x => decide (x ∉ K)).map D.str)]) (n := S.length) (o := Ob.lkK (sd t.ss)) (by simp [ld])
      unfold freeAt
      rw [ha]
      dsimp only
      rw [hb]
    unfold mLockE
    rw [hl, Option.bind_some]
    dsimp only
    rw [el, Option.bind_some]
    dsimp only
    rw [hfr]
    rfl
  refine ⟨K, S1 ++ [Ob.lst ((t.names.filter fun x => decide (x ∉ K)).map D.str)], ?_, wl_end w1, ?_⟩
  · have et := tuple_new S1 ((t.names.filter fun x => decide (x ∉ K)).map D.str)
    show m1 (lv (j + 1)) [t.toD] S = _
    rw [m1_def]
    generalize mLockE 1 lastC = X1 at elk ⊢
    generalize mWh (mTru (mVar 4)) (bodyE (lv (j + 1))) 100000 = X2 at e1 ⊢
    generalize lv (j + 1) = C at e0 ⊢
    generalize (t.names.filter fun x => decide (x ∉ K)).map D.str = R at elk et ⊢
    have m0 : ∀ x : Str, mergeD [] [(Sum.inr x, D.bl true)] = kd [x] := fun x => rfl
    simp [mBody, startE, mSeq, mAsg, mBin, mVar, mC, mCall, mCons, mNil, gN, mIfS, mIf, mTru, dTru, mRet, mTup, mAndT, mOrT, asB, dLt, dGt, dEq, sEq, PL.alt, iiI, iiB, mLst, newL, mNext, mNeg, mBlt, dSub, sz0, sz1, sz2, sz3, sz4, sz5, sz6, sz8, yd_some, List.replicate, e0, tale6, mDisp, mPairs, keyPs, keyD, m0, e1, elk, et]
  · have k0 : Kp S (S ++ [Ob.dK (sd t.ss)]) := Kp.new
    exact (k0.trans k1).trans Kp.new
end K11
end

section
set_option Elab.async false
set_option linter.all false
set_option maxRecDepth 100000
set_option maxHeartbeats 800000
namespace K11
open PySem PySem.Spec PyProof.Rows L2 PL
def abcN : List Str := [Str.ofString "a", Str.ofString "b", Str.ofString "c", Str.ofString "d", Str.ofString "e", Str.ofString "f", Str.ofString "g", Str.ofString "h"]
def abc (k : Nat) : Str := abcN.getD k Str.empty
def chW (w : Nat) : Str := if w = 0 then Str.ofString "to" else if w = 3 then Str.ofString "back" else Str.ofString "into"
def chY (w k : Nat) : List Str := if w = 0 then [abc ((k + 2) % 8)] else if w = 1 then [abc ((k + 2) % 8), abc k] else if w = 2 then [abc k, abc ((k + 2) % 8)] else []
def chC (w k : Nat) : Chc := ⟨.str (Str.ofString "go"), .tup [.tup [.str (Str.ofString "worth"), .tup [.str (Str.ofString "seen"), .str (abc ((k + 1) % 8))]]], .tup [.str (Str.ofString "all"), .tup []], .bl false, .tup [], .str (chW w), chY w k⟩
def chS (w k : Nat) : Scn := ⟨abc k, .tup [], [chC w k], if w = 3 then [abc ((k + 2) % 8)] else [], .non⟩
def chT (w : Nat) (x : Str) : Tale := ⟨.tup [], .tup [], .tup [], .tup [], .tup [], (List.range 8).map (chS w), x⟩
theorem whole_of {t : Tale} (h : t.names.Nodup ∧ t.bg ∈ t.names ∧ (∀ s ∈ t.ss, (∀ c ∈ s.cs, (∀ y ∈ c.ys, y ∈ t.names) ∧ c.ys.length ≤ 2) ∧ (∀ y ∈ s.wv, y ∈ t.names) ∧ s.cs.length ≤ 3 ∧ s.wv.length ≤ 1000) ∧ (∀ x ∈ t.names, okN x = true) ∧ t.ss.length ≤ 8) : t.Whole := ⟨h.1, h.2.1, h.2.2.1, h.2.2.2.1, h.2.2.2.2⟩
def Good (t : Tale) : Prop := t.Whole ∧ ∃ p, Ok 8000000 20 t.toD p
theorem ch_whole : ∀ w : Fin 4, ∀ x ∈ [abc 0, abc 3], (chT w x).Whole := fun w x hx => whole_of (by revert w x; decide +kernel)
theorem okL_map {α : Type} {f : α → D} {W m : Nat} : ∀ {l : List α}, (∀ s ∈ l, ∃ p, Ok W m (f s) p) → ∃ ps, OkL (l.length * (W + 2)) m (l.map f) ps
  | [], _ => ⟨[], OkL.nil.mono (by omega) (Nat.le_refl _)⟩
  | s :: l, h => by
    obtain ⟨p, hp⟩ := h s (List.mem_cons_self ..)
    obtain ⟨ps, hps⟩ := okL_map (l := l) fun x hx => h x (List.mem_cons_of_mem _ hx)
    refine ⟨p :: ps, (OkL.cons hp hps).mono ?_ (Nat.le_refl _)⟩
    rw [List.length_cons, Nat.add_mul]
    omega
theorem ok_void : Ok 3 1 (.tup []) (.tuple []) := Ok.tup OkL.nil
theorem ok_lit {W : Nat} {x : Str} (h : okB W (.str x) = true) : ∃ p, Ok W 0 (.str x) p := ⟨_, Ok.word h⟩
theorem ok_tup6 {W m : Nat} {a b c d e f : D} (h1 : ∃ p, Ok W m a p) (h2 : ∃ p, Ok W m b p) (h3 : ∃ p, Ok W m c p) (h4 : ∃ p, Ok W m d p) (h5 : ∃ p, Ok W m e p) (h6 : ∃ p, Ok W m f p) : ∃ p, Ok (6 * W + 15) (m + 1) (.tup [a, b, c, d, e, f]) p := by
  obtain ⟨_, h1⟩ := h1
  obtain ⟨_, h2⟩ := h2
  obtain ⟨_, h3⟩ := h3
  obtain ⟨_, h4⟩ := h4
  obtain ⟨_, h5⟩ := h5
  obtain ⟨_, h6⟩ := h6
  exact ⟨_, (Ok.tup (OkL.cons h1 (OkL.cons h2 (OkL.cons h3 (OkL.cons h4 (OkL.cons h5 (OkL.cons h6 OkL.nil))))))).mono (by omega) (Nat.le_refl _)⟩
theorem ok_tup5 {W m : Nat} {a b c d e : D} (h1 : ∃ p, Ok W m a p) (h2 : ∃ p, Ok W m b p) (h3 : ∃ p, Ok W m c p) (h4 : ∃ p, Ok W m d p) (h5 : ∃ p, Ok W m e p) : ∃ p, Ok (5 * W + 13) (m + 1) (.tup [a, b, c, d, e]) p := by
  obtain ⟨_, h1⟩ := h1
  obtain ⟨_, h2⟩ := h2
  obtain ⟨_, h3⟩ := h3
  obtain ⟨_, h4⟩ := h4
  obtain ⟨_, h5⟩ := h5
  exact ⟨_, (Ok.tup (OkL.cons h1 (OkL.cons h2 (OkL.cons h3 (OkL.cons h4 (OkL.cons h5 OkL.nil)))))).mono (by omega) (Nat.le_refl _)⟩
theorem ok_tup7 {W m : Nat} {a b c d e f g : D} (h1 : ∃ p, Ok W m a p) (h2 : ∃ p, Ok W m b p) (h3 : ∃ p, Ok W m c p) (h4 : ∃ p, Ok W m d p) (h5 : ∃ p, Ok W m e p) (h6 : ∃ p, Ok W m f p) (h7 : ∃ p, Ok W m g p) : ∃ p, Ok (7 * W + 17) (m + 1) (.tup [a, b, c, d, e, f, g]) p := by
  obtain ⟨_, h1⟩ := h1
  obtain ⟨_, h2⟩ := h2
  obtain ⟨_, h3⟩ := h3
  obtain ⟨_, h4⟩ := h4
  obtain ⟨_, h5⟩ := h5
  obtain ⟨_, h6⟩ := h6
  obtain ⟨_, h7⟩ := h7
  exact ⟨_, (Ok.tup (OkL.cons h1 (OkL.cons h2 (OkL.cons h3 (OkL.cons h4 (OkL.cons h5 (OkL.cons h6 (OkL.cons h7 OkL.nil)))))))).mono (by omega) (Nat.le_refl _)⟩
theorem ok_up {V W m n : Nat} {d : D} (h : ∃ p, Ok V m d p) (a : V ≤ W) (b : m ≤ n) : ∃ p, Ok W n d p := by
  obtain ⟨p, h⟩ := h
  exact ⟨p, h.mono a b⟩
theorem ok_one {W m : Nat} {d : D} (h : ∃ p, Ok W m d p) : ∃ p, Ok (W + 5) (m + 1) (.tup [d]) p := by
  obtain ⟨p, h⟩ := h
  exact ⟨_, h.one⟩
theorem ok_two {W m : Nat} {a b : D} (h1 : ∃ p, Ok W m a p) (h2 : ∃ p, Ok W m b p) : ∃ p, Ok (2 * W + 7) (m + 1) (.tup [a, b]) p := by
  obtain ⟨_, h1⟩ := h1
  obtain ⟨_, h2⟩ := h2
  exact ⟨_, (Ok.tup (OkL.cons h1 (OkL.cons h2 OkL.nil))).mono (by omega) (Nat.le_refl _)⟩
theorem abc_ok : ∀ k : Fin 8, okB 12 (.str (abc k.val)) = true := by decide +kernel
theorem ok_abc {k : Nat} (h : k < 8) : okB 12 (.str (abc k)) = true := abc_ok ⟨k, h⟩
theorem ok_strs {ws : List Str} (h : ∀ w ∈ ws, okB 12 (.str w) = true) : ∃ p, Ok (ws.length * 14 + 3) 1 (.tup (ws.map D.str)) p := ⟨_, Ok.tup (okL_strs ws h)⟩
theorem ok_bf : ∃ p, Ok 8 0 (.bl false) p := ⟨.bool false, Ok.of rfl (by decide +kernel)⟩
theorem ok_chC (w k : Nat) (h : k < 8) : ∃ p, Ok 2000 6 (chC w k).toD p := by
  have hx : ∃ p, Ok 12 0 (.str (abc ((k + 1) % 8))) p := ok_lit (ok_abc (Nat.mod_lt _ (by decide)))
  have l1 : ∃ p, Ok 12 0 (.str (Str.ofString "go")) p := ok_lit (by decide +kernel)
  have l2 : ∃ p, Ok 12 0 (.str (Str.ofString "worth")) p := ok_lit (by decide +kernel)
  have l3 : ∃ p, Ok 12 0 (.str (Str.ofString "seen")) p := ok_lit (by decide +kernel)
  have l4 : ∃ p, Ok 12 0 (.str (Str.ofString "all")) p := ok_lit (by decide +kernel)
  have b1 := ok_two l3 hx
  have b2 := ok_two (ok_up l2 (by decide : 12 ≤ 31) (by decide : 0 ≤ 1)) b1
  have b3 := ok_one b2
  have c1 := ok_two (ok_up l4 (by decide : 12 ≤ 12) (by decide : 0 ≤ 1)) ⟨_, ok_void.mono (by decide : 3 ≤ 12) (by decide : 1 ≤ 1)⟩
  have hw : okB 12 (.str (chW w)) = true := by
    unfold chW
    split
    · decide +kernel
    · split <;> decide +kernel
  have hy : ∀ y ∈ chY w k, okB 12 (.str y) = true := by
    intro y hy
    have h2 : (k + 2) % 8 < 8 := Nat.mod_lt _ (by decide)
    unfold chY at hy
    split at hy
    · rw [List.mem_singleton] at hy
      rw [hy]; exact ok_abc h2
    · split at hy
      · simp at hy
        rcases hy with rfl | rfl
        · exact ok_abc h2
        · exact ok_abc h
      · split at hy
        · simp at hy
          rcases hy with rfl | rfl
          · exact ok_abc h
          · exact ok_abc h2
        · cases hy
  have hl : (chY w k).length ≤ 2 := by
    unfold chY
    split
    · simp
    · split
      · simp
      · split <;> simp
  have n1 := ok_strs (ws := chW w :: chY w k) (by
    intro y hy'
    rcases List.mem_cons.mp hy' with rfl | h
    · exact hw
    · exact hy y h)
  have n2 : ∃ p, Ok 300 5 (.tup (.str (chW w) :: (chY w k).map D.str)) p := ok_up n1 (by rw [List.length_cons]; omega) (by omega)
  refine ok_up (ok_tup6 (W := 300) (m := 5) (ok_up l1 (by omega) (by omega)) (ok_up b3 (by omega) (by omega)) (ok_up c1 (by omega) (by omega)) (ok_up ok_bf (by omega) (by omega)) ⟨_, ok_void.mono (by omega) (by omega)⟩ n2) (by omega) (by omega)
theorem ok_scn {s : Scn} (h1 : okB 12 (.str s.nm) = true) (h2 : s.a = .tup []) (h3 : ∀ c ∈ s.cs, ∃ p, Ok 2000 6 c.toD p) (h4 : ∀ y ∈ s.wv, okB 12 (.str y) = true) (h5 : ∃ p, Ok 12 0 s.en p) (h6 : s.cs.length ≤ 3) (h7 : s.wv.length ≤ 10) : ∃ p, Ok 60000 8 s.toD p := by
  obtain ⟨ps, hc⟩ := okL_map h3
  have e1 : ∃ p, Ok 10000 7 (.tup (s.cs.map Chc.toD)) p := ok_up ⟨_, Ok.tup hc⟩ (by omega) (by omega)
  have e2 := ok_strs h4
  have e3 : ∃ p, Ok 10000 7 s.a p := by rw [h2]; exact ⟨_, ok_void.mono (by omega) (by omega)⟩
  exact ok_up (ok_tup5 (ok_up (ok_lit h1) (by omega) (by omega)) e3 e1 (ok_up e2 (by omega) (by omega)) (ok_up h5 (by omega) (by omega))) (by omega) (by omega)
theorem ok_tale {t : Tale} (h0 : t.a0 = .tup [] ∧ t.a1 = .tup [] ∧ t.a2 = .tup [] ∧ t.a3 = .tup [] ∧ t.a4 = .tup []) (h1 : ∀ s ∈ t.ss, ∃ p, Ok 60000 8 s.toD p) (h2 : t.ss.length ≤ 8) (h3 : okB 12 (.str t.bg) = true) : ∃ p, Ok 8000000 20 t.toD p := by
  obtain ⟨ps, hc⟩ := okL_map h1
  have e1 : ∃ p, Ok 500000 9 (.tup (t.ss.map Scn.toD)) p := ok_up ⟨_, Ok.tup hc⟩ (by omega) (by omega)
  have v : ∃ p, Ok 500000 9 (.tup []) p := ⟨_, ok_void.mono (by omega) (by omega)⟩
  unfold Tale.toD
  rw [h0.1, h0.2.1, h0.2.2.1, h0.2.2.2.1, h0.2.2.2.2]
  exact ok_up (ok_tup7 v v v v v e1 (ok_up (ok_lit h3) (by omega) (by omega))) (by omega) (by omega)
theorem ok_non : ∃ p, Ok 12 0 .non p := ⟨_, Ok.non.mono (by omega) (by omega)⟩
theorem ok_chS (w k : Nat) (h : k < 8) : ∃ p, Ok 60000 8 (chS w k).toD p := ok_scn (ok_abc h) rfl (fun c hc => by
    have : c = chC w k := by simpa [chS] using hc
    rw [this]
    exact ok_chC w k h) (fun y hy => by
    have : y = abc ((k + 2) % 8) := by
      unfold chS at hy
      dsimp only at hy
      split at hy
      · simpa using hy
      · cases hy
    rw [this]
    exact ok_abc (Nat.mod_lt _ (by decide))) ok_non (by simp [chS]) (by
    unfold chS
    dsimp only
    split <;> simp)
def sucL (t : Tale) (x : Str) : List Str := (t.ss.filter fun s => decide (s.nm = x)).flatMap Scn.more
theorem suc_L {t : Tale} {x y : Str} : Suc t x y ↔ y ∈ sucL t x := by
  unfold Suc sucL
  rw [List.mem_flatMap]
  constructor
  · rintro ⟨s, hs, e, hy⟩
    exact ⟨s, List.mem_filter.mpr ⟨hs, by simpa using e⟩, hy⟩
  · rintro ⟨s, hs, hy⟩
    have := List.mem_filter.mp hs
    exact ⟨s, this.1, by simpa using this.2, hy⟩
def rchB (t : Tale) : List Str → List Str → Bool
  | _, [] => true
  | seen, x :: xs => (decide (x = t.bg) || seen.any fun z => decide (x ∈ sucL t z)) && rchB t (x :: seen) xs
theorem rchB_ok {t : Tale} : ∀ {xs seen : List Str}, rchB t seen xs = true → (∀ x ∈ seen, Rch t x) → ∀ x ∈ xs, Rch t x
  | [], _, _, _, x, h => by cases h
  | z :: xs, seen, h, hs, x, hx => by
    simp only [rchB, Bool.and_eq_true, Bool.or_eq_true, decide_eq_true_eq, List.any_eq_true] at h
    have hz : Rch t z := by
      rcases h.1 with e | ⟨y, hy, e⟩
      · rw [e]; exact .bg
      · exact .step (hs y hy) (suc_L.mpr e)
    rcases List.mem_cons.mp hx with rfl | hx
    · exact hz
    · exact rchB_ok h.2 (fun y hy => by
        rcases List.mem_cons.mp hy with rfl | hy
        · exact hz
        · exact hs y hy) x hx
theorem rch_iff {t : Tale} {K : List Str} (h1 : rchB t [] K = true) (h2 : t.bg ∈ K) (h3 : ∀ x ∈ K, ∀ y ∈ sucL t x, y ∈ K) (x : Str) : x ∈ K ↔ Rch t x := by
  refine ⟨rchB_ok h1 (by simp) x, fun h => ?_⟩
  induction h with
  | bg => exact h2
  | step _ s ih => exact h3 _ ih _ (suc_L.mp s)
def ringA : List Str := [abc 0, abc 2, abc 4, abc 6]
def ringD : List Str := [abc 3, abc 5, abc 7, abc 1]
theorem chA_rch (w : Fin 4) (x : Str) : x ∈ ringA ↔ Rch (chT w (abc 0)) x := rch_iff (by revert w; decide +kernel) (by revert w; decide +kernel) (by revert w; decide +kernel) x
theorem chD_rch (w : Fin 4) (x : Str) : x ∈ ringD ↔ Rch (chT w (abc 3)) x := rch_iff (by revert w; decide +kernel) (by revert w; decide +kernel) (by revert w; decide +kernel) x
theorem chA_names : ∀ w : Fin 4, ((chT w (abc 0)).names.filter fun x => decide (x ∉ ringA)) = [Str.ofString "b", Str.ofString "d", Str.ofString "f", Str.ofString "h"] := by decide +kernel
theorem chD_names : ∀ w : Fin 4, ((chT w (abc 3)).names.filter fun x => decide (x ∉ ringD)) = [Str.ofString "a", Str.ofString "c", Str.ofString "e", Str.ofString "g"] := by decide +kernel
theorem filter_iff {N K K' : List Str} (h : ∀ x, x ∈ K ↔ x ∈ K') : (N.filter fun x => decide (x ∉ K)) = N.filter fun x => decide (x ∉ K') := by
  apply List.filter_congr
  intro x _
  have := h x
  by_cases c : x ∈ K
  · simp [c, this.mp c]
  · have : x ∉ K' := fun z => c (this.mpr z)
    simp [c, this]
theorem chA_loose (w : Fin 4) (j : Nat) (S : Sto) : ∃ S', lv (j + 2) 1 [(chT w (abc 0)).toD] S = some (.tup [.str (Str.ofString "b"), .str (Str.ofString "d"), .str (Str.ofString "f"), .str (Str.ofString "h")], S') ∧ Kp S S' := by
  obtain ⟨K, S', e, h, k⟩ := loose_ok (ch_whole w (abc 0) (by simp)) j S
  refine ⟨S', ?_, k⟩
  rw [e, filter_iff (K' := ringA) (fun x => (h x).trans (chA_rch w x).symm), chA_names]
  rfl
theorem chD_loose (w : Fin 4) (j : Nat) (S : Sto) : ∃ S', lv (j + 2) 1 [(chT w (abc 3)).toD] S = some (.tup [.str (Str.ofString "a"), .str (Str.ofString "c"), .str (Str.ofString "e"), .str (Str.ofString "g")], S') ∧ Kp S S' := by
  obtain ⟨K, S', e, h, k⟩ := loose_ok (ch_whole w (abc 3) (by simp)) j S
  refine ⟨S', ?_, k⟩
  rw [e, filter_iff (K' := ringD) (fun x => (h x).trans (chD_rch w x).symm), chD_names]
  rfl
def cutS4 (w : Nat) : List Scn := (List.range 8).map fun k => if k = 4 then ⟨abc 4, .tup [], [], [], .non⟩ else chS w k
def shutS (w : Nat) : List Scn := (List.range 8).map fun k => { chS w k with en := .str (Str.ofString "x") }
def cutT (w : Nat) (x : Str) : Tale := { chT w x with ss := cutS4 w }
def shutT (w : Nat) (x : Str) : Tale := { chT w x with ss := shutS w }
theorem chA_good (w : Fin 4) : Good (chT w (abc 0)) := ⟨ch_whole w _ (by simp), ok_tale ⟨rfl, rfl, rfl, rfl, rfl⟩ (fun s hs => by
  obtain ⟨k, hk, rfl⟩ := List.mem_map.mp hs
  exact ok_chS _ _ (by simpa using hk)) (by simp [chT]) (ok_abc (by decide))⟩
theorem cut_good (w : Fin 4) (x : Str) (hx : x ∈ [abc 0, abc 6]) : Good (cutT w x) := ⟨whole_of (by revert w x; decide +kernel), ok_tale ⟨rfl, rfl, rfl, rfl, rfl⟩ (fun s hs => by
  obtain ⟨k, hk, rfl⟩ := List.mem_map.mp hs
  split
  · exact ok_scn (ok_abc (by decide)) rfl (by simp) (by simp) ok_non (by simp) (by simp)
  · exact ok_chS _ _ (by simpa using hk)) (by simp [cutT, cutS4]) (by
    simp at hx
    rcases hx with rfl | rfl
    · exact ok_abc (by decide)
    · exact ok_abc (by decide))⟩
theorem ok_en {s : Scn} {e : D} (h : ∃ p, Ok 12 0 e p) (h1 : okB 12 (.str s.nm) = true) (h2 : s.a = .tup []) (h3 : ∀ c ∈ s.cs, ∃ p, Ok 2000 6 c.toD p) (h4 : ∀ y ∈ s.wv, okB 12 (.str y) = true) (h6 : s.cs.length ≤ 3) (h7 : s.wv.length ≤ 10) : ∃ p, Ok 60000 8 ({ s with en := e } : Scn).toD p := ok_scn h1 h2 h3 h4 h h6 h7
theorem shut_good (w : Fin 4) : Good (shutT w (abc 0)) := ⟨whole_of (by revert w; decide +kernel), ok_tale ⟨rfl, rfl, rfl, rfl, rfl⟩ (fun s hs => by
  obtain ⟨k, hk, rfl⟩ := List.mem_map.mp hs
  have hk : k < 8 := by simpa using hk
  exact ok_scn (ok_abc hk) rfl (fun c hc => by
    have : c = chC w k := by simpa [chS] using hc
    rw [this]
    exact ok_chC w k hk) (fun y hy => by
    have : y = abc ((k + 2) % 8) := by
      unfold chS at hy
      dsimp only at hy
      split at hy
      · simpa using hy
      · cases hy
    rw [this]
    exact ok_abc (Nat.mod_lt _ (by decide))) (ok_lit (by decide +kernel)) (by simp [chS]) (by
    unfold chS
    dsimp only
    split <;> simp)) (by simp [shutT, shutS]) (ok_abc (by decide))⟩
def oneT : Tale := ⟨.tup [], .tup [], .tup [], .tup [], .tup [], [⟨Str.ofString "a", .tup [], [], [], .str (Str.ofString "x")⟩], Str.ofString "a"⟩
theorem one_good : Good oneT := ⟨whole_of (by decide +kernel), ok_tale ⟨rfl, rfl, rfl, rfl, rfl⟩ (fun s hs => by
  have : s = ⟨Str.ofString "a", .tup [], [], [], .str (Str.ofString "x")⟩ := by simpa [oneT] using hs
  rw [this]
  exact ok_scn (by decide +kernel) rfl (by simp) (by simp) (ok_lit (by decide +kernel)) (by simp) (by simp)) (by simp [oneT]) (by decide +kernel)⟩
end K11
end

section
set_option Elab.async false
set_option linter.all false
set_option maxRecDepth 100000
set_option maxHeartbeats 800000
namespace K11
open PySem PySem.Spec PyProof.Rows L2 PL
def abcS : Str := Str.ofString "abcdefgh"
def chB : MS := mSeq (mAsg (mBin ixA (mVar 1) (mBin dMod (mBin dAdd (mVar 3) (mC (.int 2))) (mC (.int 8)))) (gN 4))
    (mSeq (mAsg (mBin ixA (mLst (mCons (mTup (mCons (mC (.str (Str.ofString "to"))) (mCons (mVar 4) (mNil)))) (mCons (mTup (mCons (mC (.str (Str.ofString "into"))) (mCons (mVar 4) (mCons (mBin ixA (mVar 1) (mVar 3)) (mNil))))) (mCons (mTup (mCons (mC (.str (Str.ofString "into"))) (mCons (mBin ixA (mVar 1) (mVar 3)) (mCons (mVar 4) (mNil))))) (mCons (mTup (mCons (mC (.str (Str.ofString "back"))) (mNil))) (mNil)))))) (mVar 0)) (gN 5))
    (mSeq (mAsg (mTup (mCons (mC (.str (Str.ofString "go"))) (mCons (mTup (mCons (mTup (mCons (mC (.str (Str.ofString "worth"))) (mCons (mTup (mCons (mC (.str (Str.ofString "seen"))) (mCons (mBin ixA (mVar 1) (mBin dMod (mBin dAdd (mVar 3) (mC (.int 1))) (mC (.int 8)))) (mNil)))) (mNil)))) (mNil))) (mCons (mTup (mCons (mC (.str (Str.ofString "all"))) (mCons (mTup (mNil)) (mNil)))) (mCons (mC (.bl false)) (mCons (mTup (mNil)) (mCons (mVar 5) (mNil)))))))) (gN 6))
    (mDrop (mMt "list" gAppend (mVar 2) (mCons (mTup (mCons (mBin ixA (mVar 1) (mVar 3)) (mCons (mTup (mNil)) (mCons (mTup (mCons (mVar 6) (mNil))) (mCons (mIf (asB (mBin dEq (mVar 0) (mC (.int 3)))) (mTup (mCons (mVar 4) (mNil))) (mTup (mNil))) (mCons (mC .non) (mNil))))))) (mNil))))))
def chR : ME := mTup (mCons (mTup (mNil)) (mCons (mTup (mNil)) (mCons (mTup (mNil)) (mCons (mTup (mNil)) (mCons (mTup (mNil)) (mCons (mBlt gTuple (mCons (mVar 2) (mNil))) (mCons (mC (.str (Str.ofString "a"))) (mNil))))))))
theorem m17_def (C : Nat → MF) : m17 C = mBody 7 (mSeq (mPar [1, 2] (mCons (mC (.str abcS)) (mCons (mLst (mNil)) (mNil)))) (mSeq (mFor (mR1 (mCons (mC (.int 8)) (mNil))) (gN 3) chB) (mRet chR))) := rfl
theorem at8 {k : Nat} (h : k < 8) (S : Sto) : ixA (.str abcS) (.int (k : Int)) S = some (.str (abc k), S) := by
  have hz : (abcS.length ≤ sizeLine) := by decide +kernel
  have h2 : ∀ k : Fin 8, (L2.atI abcS.cps.toList ((k.val : Nat) : Int)).map (fun c => (⟨#[c]⟩ : Str)) = some (abc k.val) := by decide +kernel
  have h3 := h2 ⟨k, h⟩
  obtain ⟨c, e1, e2⟩ := Option.map_eq_some_iff.mp h3
  simp only at e1
  simp [ixA, ixSeq, hz, e1, e2]
theorem mod8 (k i : Nat) (S : Sto) : mBin dMod (mBin dAdd (mC (.int (k : Int))) (mC (.int (i : Int)))) (mC (.int 8)) [] S = some (.int (((k + i) % 8 : Nat) : Int), S) := by
  have : ((((k + i) % 8 : Nat)) : Int) = ((k : Int) + (i : Int)) % 8 := by omega
  rw [this]
  simp [mBin, mC, dAdd, dMod, PL.alt, iiI]
theorem chB_ok (w : Fin 4) {k n : Nat} (hk : k < 8) {acc : List D} {S : Sto} (hn : S[n]? = some (.lst acc)) (hl : acc.length ≤ 10) (x4 x5 x6 : Option D) :
    ∃ y4 y5 y6 T, chB [some (.int ((w.val : Nat) : Int)), some (.str abcS), some (.ref n), some (.int (k : Int)), x4, x5, x6] S = some (.nx, [some (.int ((w.val : Nat) : Int)), some (.str abcS), some (.ref n), some (.int (k : Int)), y4, y5, y6], (S ++ T).set n (.lst (acc ++ [(chS w.val k).toD]))) := by
  have a0 := fun T => at8 hk T
  have a1 := fun T => at8 (k := (k + 1) % 8) (Nat.mod_lt _ (by decide)) T
  have a2 := fun T => at8 (k := (k + 2) % 8) (Nat.mod_lt _ (by decide)) T
  have c1 : ((((k + 1) % 8 : Nat)) : Int) = ((k : Int) + 1) % 8 := by omega
  have c2 : ((((k + 2) % 8 : Nat)) : Int) = ((k : Int) + 2) % 8 := by omega
  rw [c1] at a1
  rw [c2] at a2
  have lt := (List.getElem?_eq_some_iff.mp hn).1
  have hz : acc.length < sizeLine := by
    have : 10 < sizeLine := by decide
    omega
  have ap : ∀ (T : Sto) (d : D), gAppend (.ref n) [d] (S ++ T) = some (.non, (S ++ T).set n (.lst (acc ++ [d]))) := fun T d => by
    have := at_app (T := T) hn
    simp [gAppend, this, hz]
  have di : ∀ T : Sto, dIs "list" (.ref n) (S ++ T) = true := fun T => by
    have := at_app (T := T) hn
    simp [dIs, this]
  have il : ∀ (T : Sto) (a b c d : D), ixA (.ref T.length) (.int 0) (T ++ [Ob.lst [a, b, c, d]]) = some (a, T ++ [Ob.lst [a, b, c, d]]) ∧ ixA (.ref T.length) (.int 1) (T ++ [Ob.lst [a, b, c, d]]) = some (b, T ++ [Ob.lst [a, b, c, d]]) ∧ ixA (.ref T.length) (.int 2) (T ++ [Ob.lst [a, b, c, d]]) = some (c, T ++ [Ob.lst [a, b, c, d]]) ∧ ixA (.ref T.length) (.int 3) (T ++ [Ob.lst [a, b, c, d]]) = some (d, T ++ [Ob.lst [a, b, c, d]]) := fun T a b c d => by
    have q0 : L2.atI [a, b, c, d] 0 = some a := L2.atI_nat (j := 0) rfl
    have q1 : L2.atI [a, b, c, d] 1 = some b := L2.atI_nat (j := 1) rfl
    have q2 : L2.atI [a, b, c, d] 2 = some c := L2.atI_nat (j := 2) rfl
    have q3 : L2.atI [a, b, c, d] 3 = some d := L2.atI_nat (j := 3) rfl
    refine ⟨?_, ?_, ?_, ?_⟩
    · simp [ixA, ixSeq, seqD, seqAt, q0]
    · simp [ixA, ixSeq, seqD, seqAt, q1]
    · simp [ixA, ixSeq, seqD, seqAt, q2]
    · simp [ixA, ixSeq, seqD, seqAt, q3]
  have goal : ∀ d5 : D, (d5 = .tup (.str (chW w.val) :: (chY w.val k).map D.str)) → ixA (.ref S.length) (.int ((w.val : Nat) : Int)) (S ++ [Ob.lst [.tup [.str (Str.ofString "to"), .str (abc ((k + 2) % 8))], .tup [.str (Str.ofString "into"), .str (abc ((k + 2) % 8)), .str (abc k)], .tup [.str (Str.ofString "into"), .str (abc k), .str (abc ((k + 2) % 8))], .tup [.str (Str.ofString "back")]]]) = some (d5, S ++ [Ob.lst [.tup [.str (Str.ofString "to"), .str (abc ((k + 2) % 8))], .tup [.str (Str.ofString "into"), .str (abc ((k + 2) % 8)), .str (abc k)], .tup [.str (Str.ofString "into"), .str (abc k), .str (abc ((k + 2) % 8))], .tup [.str (Str.ofString "back")]]]) := by
    intro d5 h5
    have q := il S (.tup [.str (Str.ofString "to"), .str (abc ((k + 2) % 8))]) (.tup [.str (Str.ofString "into"), .str (abc ((k + 2) % 8)), .str (abc k)]) (.tup [.str (Str.ofString "into"), .str (abc k), .str (abc ((k + 2) % 8))]) (.tup [.str (Str.ofString "back")])
    rw [h5]
    match w with
    | 0 => exact q.1
    | 1 => exact q.2.1
    | 2 => exact q.2.2.1
    | 3 => exact q.2.2.2
  have g5 := goal _ rfl
  have hS : (chS w.val k).toD = .tup [.str (abc k), .tup [], .tup [.tup [.str (Str.ofString "go"), .tup [.tup [.str (Str.ofString "worth"), .tup [.str (Str.ofString "seen"), .str (abc ((k + 1) % 8))]]], .tup [.str (Str.ofString "all"), .tup []], .bl false, .tup [], .tup (.str (chW w.val) :: (chY w.val k).map D.str)]], .tup (if w.val = 3 then [.str (abc ((k + 2) % 8))] else []), .non] := by
    unfold chS Scn.toD chC
    dsimp only [Chc.toD, List.map]
    split <;> rfl
  have eq3 : ((w.val : Nat) : Int) = 3 ↔ w.val = 3 := by omega
  refine ⟨some (.str (abc ((k + 2) % 8))), some (.tup (.str (chW w.val) :: (chY w.val k).map D.str)), some (.tup [.str (Str.ofString "go"), .tup [.tup [.str (Str.ofString "worth"), .tup [.str (Str.ofString "seen"), .str (abc ((k + 1) % 8))]]], .tup [.str (Str.ofString "all"), .tup []], .bl false, .tup [], .tup (.str (chW w.val) :: (chY w.val k).map D.str)]), [Ob.lst [.tup [.str (Str.ofString "to"), .str (abc ((k + 2) % 8))], .tup [.str (Str.ofString "into"), .str (abc ((k + 2) % 8)), .str (abc k)], .tup [.str (Str.ofString "into"), .str (abc k), .str (abc ((k + 2) % 8))], .tup [.str (Str.ofString "back")]]], ?_⟩
  rw [hS]
  generalize hd5 : D.tup (.str (chW w.val) :: (chY w.val k).map D.str) = d5 at g5 ⊢
  clear hS goal il
  generalize hT : [Ob.lst [.tup [.str (Str.ofString "to"), .str (abc ((k + 2) % 8))], .tup [.str (Str.ofString "into"), .str (abc ((k + 2) % 8)), .str (abc k)], .tup [.str (Str.ofString "into"), .str (abc k), .str (abc ((k + 2) % 8))], .tup [.str (Str.ofString "back")]]] = T at g5 ⊢
  have apT := ap T
  have diT := di T
  generalize abc ((k + 2) % 8) = z2 at *
  generalize abc ((k + 1) % 8) = z1 at *
  generalize abc k = z0 at *
  subst hT
  by_cases c3 : w.val = 3
  · have c3' := eq3.mpr c3
    rw [if_pos c3]
    rw [c3'] at g5 ⊢
    unfold chB
    simp [mBody, startE, mSeq, mAsg, mBin, mVar, mC, mCall, mCons, mNil, gN, mIfS, mIf, mTru, dTru, mRet, mTup, mAndT, mOrT, asB, dLt, dGt, dEq, sEq, PL.alt, iiI, iiB, mLst, newL, mNext, mNeg, mBlt, dSub, sz0, sz1, sz2, sz3, sz4, sz5, sz6, sz8, yd_some, dMod, dAdd, a0, a1, a2, g5, mMt, diT, apT, mDrop, sz0]
  · have c3' : ¬ ((w.val : Nat) : Int) = 3 := fun h => c3 (eq3.mp h)
    rw [if_neg c3]
    generalize ((w.val : Nat) : Int) = wi at g5 c3' ⊢
    unfold chB
    simp [mBody, startE, mSeq, mAsg, mBin, mVar, mC, mCall, mCons, mNil, gN, mIfS, mIf, mTru, dTru, mRet, mTup, mAndT, mOrT, asB, dLt, dGt, dEq, sEq, PL.alt, iiI, iiB, mLst, newL, mNext, mNeg, mBlt, dSub, sz0, sz1, sz2, sz3, sz4, sz5, sz6, sz8, yd_some, dMod, dAdd, a0, a1, a2, g5, mMt, diT, apT, mDrop, sz0, c3']
end K11
end

section
set_option Elab.async false
set_option linter.all false
set_option maxRecDepth 100000
set_option maxHeartbeats 800000
namespace K11
open PySem PySem.Spec PyProof.Rows L2 PL
theorem ch_loop (w : Fin 4) {n : Nat} {S0 : Sto} (bn : S0.length ≤ n) : ∀ (m k : Nat) (acc : List D) (S : Sto) (x3 x4 x5 x6 : Option D), k + m = 8 → acc.length = k → S[n]? = some (Ob.lst acc) → Kp S0 S →
    ∃ y3 y4 y5 y6 S', mForL (nxR 0 8) (gN 3) chB (m + 1) k [some (.int ((w.val : Nat) : Int)), some (.str abcS), some (.ref n), x3, x4, x5, x6] S = some (.nx, [some (.int ((w.val : Nat) : Int)), some (.str abcS), some (.ref n), y3, y4, y5, y6], S') ∧ S'[n]? = some (Ob.lst (acc ++ ((List.range' k m).map (chS w.val)).map Scn.toD)) ∧ Kp S0 S' := by
  intro m
  induction m with
  | zero =>
    intro k acc S x3 x4 x5 x6 hk ha hn kp
    refine ⟨x3, x4, x5, x6, S, ?_, by simpa using hn, kp⟩
    have h : ¬ k < 8 := by omega
    unfold mForL
    show (nxR 0 8 k S).bind _ = _
    unfold nxR
    rw [if_neg h, Option.bind_some]
  | succ m ih =>
    intro k acc S x3 x4 x5 x6 hk ha hn kp
    have h : k < 8 := by omega
    obtain ⟨y4, y5, y6, T, e1⟩ := chB_ok w h hn (by omega) x4 x5 x6
    have lt := (List.getElem?_eq_some_iff.mp hn).1
    have hn2 : ((S ++ T).set n (Ob.lst (acc ++ [(chS w.val k).toD])))[n]? = some (Ob.lst (acc ++ [(chS w.val k).toD])) := List.getElem?_set_self (by rw [List.length_append]; omega)
    have kp2 : Kp S0 ((S ++ T).set n (Ob.lst (acc ++ [(chS w.val k).toD]))) := (kp.trans Kp.new).set bn
    generalize (S ++ T).set n (Ob.lst (acc ++ [(chS w.val k).toD])) = S2 at e1 hn2 kp2
    obtain ⟨z3, z4, z5, z6, S', e2, n2, kp3⟩ := ih (k + 1) (acc ++ [(chS w.val k).toD]) S2 (some (.int (k : Int))) y4 y5 y6 (by omega) (by simp [ha]) hn2 kp2
    refine ⟨z3, z4, z5, z6, S', ?_, ?_, kp3⟩
    · unfold mForL
      show (nxR 0 8 k S).bind _ = _
      unfold nxR
      rw [if_pos h, Option.bind_some]
      dsimp only
      have hz : (0 : Int) + (k : Int) = (k : Int) := by omega
      rw [hz]
      show (gN 3 _ _ S).bind _ = _
      unfold gN
      rw [Option.bind_some]
      dsimp only [List.set]
      rw [e1, Option.bind_some]
      exact e2
    · rw [n2, List.range'_succ, List.map_cons, List.map_cons, List.append_assoc, List.singleton_append]
theorem chain_ok (w : Fin 4) (j : Nat) (S : Sto) : ∃ S', lv (j + 1) 17 [.int ((w.val : Nat) : Int)] S = some ((chT w.val (abc 0)).toD, S') ∧ Kp S S' := by
  obtain ⟨y3, y4, y5, y6, S', e1, n1, k1⟩ := ch_loop w (n := S.length) (S0 := S) (Nat.le_refl _) 8 0 [] (S ++ [Ob.lst []]) none none none none rfl rfl (by simp) Kp.new
  refine ⟨S', ?_, k1⟩
  have e2 : mFor (mR1 (mCons (mC (.int 8)) (mNil))) (gN 3) chB [some (.int ((w.val : Nat) : Int)), some (.str abcS), some (.ref S.length), none, none, none, none] (S ++ [Ob.lst []]) = some (.nx, [some (.int ((w.val : Nat) : Int)), some (.str abcS), some (.ref S.length), y3, y4, y5, y6], S') := by
    have hi : ∀ (env : PL.Env) (T : Sto), mR1 (mCons (mC (.int 8)) (mNil)) env T = some ((8 + 1, nxR 0 8), T) := fun env T => by
      simp only [mR1, mCons, mC, mNil, Option.bind_some, r1Of]
      rw [if_pos (by decide)]
      rfl
    unfold mFor
    rw [hi, Option.bind_some]
    exact e1
  have e3 : chR [some (.int ((w.val : Nat) : Int)), some (.str abcS), some (.ref S.length), y3, y4, y5, y6] S' = some ((chT w.val (abc 0)).toD, S') := by
    have ht : gTuple [.ref S.length] S' = some (.tup (((List.range' 0 8).map (chS w.val)).map Scn.toD), S') := by
      rw [List.nil_append] at n1
      simp [gTuple, seqAt, n1]
    have hd : (chT w.val (abc 0)).toD = .tup [.tup [], .tup [], .tup [], .tup [], .tup [], .tup (((List.range' 0 8).map (chS w.val)).map Scn.toD), .str (Str.ofString "a")] := rfl
    rw [hd]
    generalize ((List.range' 0 8).map (chS w.val)).map Scn.toD = ds at ht
    have sz7 : 7 ≤ sizeLine := by decide
    unfold chR
    simp [mBody, startE, mSeq, mAsg, mBin, mVar, mC, mCall, mCons, mNil, gN, mIfS, mIf, mTru, dTru, mRet, mTup, mAndT, mOrT, asB, dLt, dGt, dEq, sEq, PL.alt, iiI, iiB, mLst, newL, mNext, mNeg, mBlt, dSub, sz0, sz1, sz2, sz3, sz4, sz5, sz6, sz8, yd_some, ht, sz7]
  show m17 (lv j) [.int ((w.val : Nat) : Int)] S = _
  rw [m17_def]
  generalize mFor (mR1 (mCons (mC (.int 8)) (mNil))) (gN 3) chB = X1 at e2 ⊢
  generalize chR = X2 at e3 ⊢
  simp [mBody, startE, mSeq, mAsg, mBin, mVar, mC, mCall, mCons, mNil, gN, mIfS, mIf, mTru, dTru, mRet, mTup, mAndT, mOrT, asB, dLt, dGt, dEq, sEq, PL.alt, iiI, iiB, mLst, newL, mNext, mNeg, mBlt, dSub, sz0, sz1, sz2, sz3, sz4, sz5, sz6, sz8, yd_some, List.replicate, mPar, e2, e3]
theorem cut_to {ds : List D} (n : Nat) : PL.cutD ds none (some (n : Int)) = ds.take n := by
  unfold PL.cutD
  rw [HT.sIx_none, HT.sIx_nat, List.drop_zero, Nat.sub_zero, List.take_eq_take_iff]
  omega
theorem cut_from {ds : List D} (n : Nat) : PL.cutD ds (some (n : Int)) none = ds.drop n := by
  unfold PL.cutD
  rw [HT.sIx_none, HT.sIx_nat]
  rcases Nat.le_total n ds.length with h | h
  · rw [Nat.min_eq_left h]
    exact List.take_of_length_le (by rw [List.length_drop]; omega)
  · rw [Nat.min_eq_right h, List.drop_eq_nil_of_le (Nat.le_refl _), List.drop_eq_nil_of_le h]
    simp
theorem part_bd : ∀ n : Fin 10, (-(2 ^ 63) ≤ ((n.val : Nat) : Int) ∧ ((n.val : Nat) : Int) < 2 ^ 63) := by decide +kernel
theorem part_gen (i : Int) (h : -(2 ^ 63) ≤ i ∧ i < 2 ^ 63) (env : PL.Env) (S : Sto) : mPart (mC (.int i)) env S = some (some i, S) := by
  unfold mPart
  simp only [mC, Option.bind_some]
  rw [if_pos h]
theorem partN (n : Fin 10) (env : PL.Env) (S : Sto) : mPart (mC (.int ((n.val : Nat) : Int))) env S = some (some ((n.val : Nat) : Int), S) := part_gen _ (part_bd n) env S
theorem sl_to (n : Fin 10) {m : ME} {env : PL.Env} {S S' : Sto} {ds : List D} (e : m env S = some (.tup ds, S')) : mSl slA m mNo (mPart (mC (.int ((n.val : Nat) : Int)))) env S = some (.tup (ds.take n.val), S') := by
  have e4 := partN n env S'
  generalize mPart (mC (.int ((n.val : Nat) : Int))) = Y at e4 ⊢
  unfold mSl
  rw [e, Option.bind_some]
  dsimp only [mNo]
  rw [Option.bind_some]
  dsimp only
  rw [e4, Option.bind_some]
  dsimp only [slA]
  rw [cut_to]
theorem sl_from (n : Fin 10) {m : ME} {env : PL.Env} {S S' : Sto} {ds : List D} (e : m env S = some (.tup ds, S')) : mSl slA m (mPart (mC (.int ((n.val : Nat) : Int)))) mNo env S = some (.tup (ds.drop n.val), S') := by
  have e4 := partN n env S'
  generalize mPart (mC (.int ((n.val : Nat) : Int))) = Y at e4 ⊢
  unfold mSl
  rw [e, Option.bind_some]
  dsimp only
  rw [e4, Option.bind_some]
  dsimp only [mNo]
  rw [Option.bind_some]
  dsimp only [slA]
  rw [cut_from]
theorem tup_add {a b : ME} {env : PL.Env} {S S1 S2 : Sto} {xs ys : List D} (h1 : a env S = some (.tup xs, S1)) (h2 : b env S1 = some (.tup ys, S2)) (h : xs.length + ys.length ≤ 1000) : mBin dAdd a b env S = some (.tup (xs ++ ys), S2) := by
  have hz : 1000 ≤ sizeLine := by decide
  have h3 : xs.length + ys.length ≤ sizeLine := Nat.le_trans h hz
  have h4 : dAdd (.tup xs) (.tup ys) S2 = some (.tup (xs ++ ys), S2) := by
    simp [dAdd, PL.alt, iiI, ssS, ttT, h3]
  unfold mBin
  rw [h1, Option.bind_some]
  dsimp only
  rw [h2, Option.bind_some]
  exact h4
end K11
end

section
set_option Elab.async false
set_option linter.all false
set_option maxRecDepth 100000
set_option maxHeartbeats 800000
namespace K11
open PySem PySem.Spec PyProof.Rows L2 PL
def lstr (x : String) : ME := mC (.str (Str.ofString x))
def begD : ME := mBin dAdd (mSl slA (mVar 4) (mNo) (mPart (mC (.int 6)))) (mTup (mCons (mC (.str (Str.ofString "d"))) (mNil)))
def condE (C : Nat → MF) : MT := mOrT (asB (mBin dNe (mCall 1 (C 1) (mCons (mVar 4) (mNil))) (mTup (mCons (mC (.str (Str.ofString "b"))) (mCons (mC (.str (Str.ofString "d"))) (mCons (mC (.str (Str.ofString "f"))) (mCons (mC (.str (Str.ofString "h"))) (mNil)))))))) (asB (mBin dNe (mCall 1 (C 1) (mCons begD (mNil))) (mTup (mCons (mC (.str (Str.ofString "a"))) (mCons (mC (.str (Str.ofString "c"))) (mCons (mC (.str (Str.ofString "e"))) (mCons (mC (.str (Str.ofString "g"))) (mNil))))))))
def cutE : ME := mBin dAdd (mBin dAdd (mSl slA (mBin ixA (mVar 4) (mC (.int 5))) (mNo) (mPart (mC (.int 4)))) (mTup (mCons (mTup (mCons (mBin ixA (mBin ixA (mBin ixA (mVar 4) (mC (.int 5))) (mC (.int 4))) (mC (.int 0))) (mCons (mTup (mNil)) (mCons (mTup (mNil)) (mCons (mTup (mNil)) (mCons (mC .non) (mNil))))))) (mNil)))) (mSl slA (mBin ixA (mVar 4) (mC (.int 5))) (mPart (mC (.int 5))) (mNo))
def shutE : ME := mBlt gTuple (mCons (mLc (mItr (mBin ixA (mVar 4) (mC (.int 5)))) (gN 7) (mYes) (mBin dAdd (mSl slA (mVar 7) (mNo) (mPart (mC (.int 4)))) (mTup (mCons (mC (.str (Str.ofString "x"))) (mNil)))) [7]) (mNil))
def withE (v : Nat) (x : String) : ME := mBin dAdd (mSl slA (mVar 4) (mNo) (mPart (mC (.int 5)))) (mTup (mCons (mVar v) (mCons (mC (.str (Str.ofString x))) (mNil))))
def addE1 : ME := mBin dAdd (mVar 2) (mLst (mCons (mVar 4) (mCons (withE 5 "a") (mCons (withE 5 "g") (mCons (withE 6 "a") (mNil))))))
def loop1B (C : Nat → MF) : MS := mSeq (mAsg (mCall 1 (C 17) (mCons (mVar 3) (mNil))) (gN 4)) (mSeq (mIfS (condE C) (mRet (mC (.bl false))) (mNext)) (mSeq (mAsg cutE (gN 5)) (mSeq (mAsg shutE (gN 6)) (mAsg addE1 (gN 2)))))
theorem sl4to {m : ME} {env : PL.Env} {S S' : Sto} {ds : List D} (e : m env S = some (.tup ds, S')) : mSl slA m mNo (mPart (mC (.int 4))) env S = some (.tup (ds.take 4), S') := sl_to 4 e
theorem sl5to {m : ME} {env : PL.Env} {S S' : Sto} {ds : List D} (e : m env S = some (.tup ds, S')) : mSl slA m mNo (mPart (mC (.int 5))) env S = some (.tup (ds.take 5), S') := sl_to 5 e
theorem sl6to {m : ME} {env : PL.Env} {S S' : Sto} {ds : List D} (e : m env S = some (.tup ds, S')) : mSl slA m mNo (mPart (mC (.int 6))) env S = some (.tup (ds.take 6), S') := sl_to 6 e
theorem sl5from {m : ME} {env : PL.Env} {S S' : Sto} {ds : List D} (e : m env S = some (.tup ds, S')) : mSl slA m (mPart (mC (.int 5))) mNo env S = some (.tup (ds.drop 5), S') := sl_from 5 e
theorem var_ok {i : Nat} {env : PL.Env} {S : Sto} {d : D} (h : env[i]? = some (some d)) : mVar i env S = some (d, S) := by simp [mVar, h]
theorem bgD_ok (t : Tale) {env : PL.Env} {S : Sto} (h : env[4]? = some (some t.toD)) : begD env S = some (({ t with bg := Str.ofString "d" } : Tale).toD, S) := by
  unfold begD
  exact tup_add (sl6to (var_ok h)) (by simp [mTup, mCons, mC, mNil, sz1]) (by simp)
theorem with_ok (t : Tale) {v : Nat} {x : String} {ss : List Scn} {env : PL.Env} {S : Sto} (h : env[4]? = some (some t.toD)) (hv : env[v]? = some (some (.tup (ss.map Scn.toD)))) : withE v x env S = some (({ t with ss := ss, bg := Str.ofString x } : Tale).toD, S) := by
  unfold withE
  exact tup_add (sl5to (var_ok h)) (by simp [mTup, mCons, mC, mNil, sz2, mVar, hv]) (by simp)
theorem ss_ok (t : Tale) {env : PL.Env} {S : Sto} (h : env[4]? = some (some t.toD)) : mBin ixA (mVar 4) (mC (.int 5)) env S = some (.tup (t.ss.map Scn.toD), S) := by
  simp [mBin, mVar, mC, h, tale5]
theorem ne_bdfh (S : Sto) : dNe (.tup [.str (Str.ofString "b"), .str (Str.ofString "d"), .str (Str.ofString "f"), .str (Str.ofString "h")]) (.tup [.str (Str.ofString "b"), .str (Str.ofString "d"), .str (Str.ofString "f"), .str (Str.ofString "h")]) S = some (.bl false, S) := by
  have h1 : SeqAt.shaped (.tuple [.str (Str.ofString "b"), .str (Str.ofString "d"), .str (Str.ofString "f"), .str (Str.ofString "h")]) = true := by decide +kernel
  have h2 : PyData.eqv (.tuple [.str (Str.ofString "b"), .str (Str.ofString "d"), .str (Str.ofString "f"), .str (Str.ofString "h")]) (.tuple [.str (Str.ofString "b"), .str (Str.ofString "d"), .str (Str.ofString "f"), .str (Str.ofString "h")]) = true := by decide +kernel
  simp [dNe, PL.alt, sEq, deepB, pyT, pyD, pyDs, h1, h2]
theorem ne_aceg (S : Sto) : dNe (.tup [.str (Str.ofString "a"), .str (Str.ofString "c"), .str (Str.ofString "e"), .str (Str.ofString "g")]) (.tup [.str (Str.ofString "a"), .str (Str.ofString "c"), .str (Str.ofString "e"), .str (Str.ofString "g")]) S = some (.bl false, S) := by
  have h1 : SeqAt.shaped (.tuple [.str (Str.ofString "a"), .str (Str.ofString "c"), .str (Str.ofString "e"), .str (Str.ofString "g")]) = true := by decide +kernel
  have h2 : PyData.eqv (.tuple [.str (Str.ofString "a"), .str (Str.ofString "c"), .str (Str.ofString "e"), .str (Str.ofString "g")]) (.tuple [.str (Str.ofString "a"), .str (Str.ofString "c"), .str (Str.ofString "e"), .str (Str.ofString "g")]) = true := by decide +kernel
  simp [dNe, PL.alt, sEq, deepB, pyT, pyD, pyDs, h1, h2]
theorem cond1_ok (w : Fin 4) (j : Nat) {env : PL.Env} {S : Sto} (h : env[4]? = some (some (chT w.val (abc 0)).toD)) : ∃ S', condE (lv (j + 2)) env S = some (false, S') ∧ Kp S S' := by
  obtain ⟨S1, e1, k1⟩ := chA_loose w j S
  obtain ⟨S2, e2, k2⟩ := chD_loose w j S1
  have hb : begD env S1 = some ((chT w.val (abc 3)).toD, S1) := by
    rw [bgD_ok (chT w.val (abc 0)) h]
    rfl
  have n1 := ne_bdfh S1
  have n2 := ne_aceg S2
  refine ⟨S2, ?_, k1.trans k2⟩
  unfold condE
  generalize begD = X1 at hb ⊢
  generalize lv (j + 2) = C at e1 e2 ⊢
  generalize dNe = N at n1 n2 ⊢
  simp [mOrT, asB, mBin, mCall, mCons, mNil, mTup, mC, sz4, mVar, h, e1, n1, hb, e2, n2]
theorem cut_ok (w : Fin 4) {env : PL.Env} {S : Sto} (h : env[4]? = some (some (chT w.val (abc 0)).toD)) : cutE env S = some (.tup ((cutS4 w.val).map Scn.toD), S) := by
  have e0 := ss_ok (S := S) _ h
  have e4 : mBin ixA (mBin ixA (mBin ixA (mVar 4) (mC (.int 5))) (mC (.int 4))) (mC (.int 0)) env S = some (.str (abc 4), S) := by
    have h4 : ixA (.tup ((chT w.val (abc 0)).ss.map Scn.toD)) (.int 4) S = some ((chS w.val 4).toD, S) := ix_tup (i := 4) rfl
    have h0 := scn0 (chS w.val 4) S
    generalize mBin ixA (mVar 4) (mC (.int 5)) = X at e0 ⊢
    simp [mBin, mC, e0, h4, h0]
    rfl
  have hr : D.tup ((cutS4 w.val).map Scn.toD) = .tup ((((chT w.val (abc 0)).ss.map Scn.toD).take 4 ++ [.tup [.str (abc 4), .tup [], .tup [], .tup [], .non]]) ++ ((chT w.val (abc 0)).ss.map Scn.toD).drop 5) := rfl
  rw [hr]
  unfold cutE
  refine tup_add (tup_add (sl4to e0) ?_ ?_) (sl5from e0) ?_
  · generalize mBin ixA (mBin ixA (mBin ixA (mVar 4) (mC (.int 5))) (mC (.int 4))) (mC (.int 0)) = X at e4 ⊢
    simp [mTup, mCons, mC, mNil, sz0, sz1, sz5, e4]
  · simp [chT]
  · simp [chT]
def gEn (e : D) : D → D
  | .tup ds => .tup (ds.take 4 ++ [e])
  | d => d
theorem shut_ok (w : Fin 4) {env : PL.Env} {S : Sto} (h : env[4]? = some (some (chT w.val (abc 0)).toD)) (hl : 7 < env.length) : shutE env S = some (.tup ((shutS w.val).map Scn.toD), S ++ [Ob.lst ((shutS w.val).map Scn.toD)]) := by
  have e0 := ss_ok (S := S) _ h
  have hft : ∀ xs : List D, xs.filter (fun _ => true) = xs := fun xs => List.filter_eq_self.mpr (fun _ _ => rfl)
  have h7 : ∀ d : D, ((wipeE env [7]).set 7 (some d))[7]? = some (some d) := fun d => by
    have : (wipeE env [7]).length = env.length := by simp [wipeE]
    rw [List.getElem?_set_self (by omega)]
  have e := lc_tup (m := mBin ixA (mVar 4) (mC (.int 5))) (t := mYes) (el := mBin dAdd (mSl slA (mVar 7) (mNo) (mPart (mC (.int 4)))) (mTup (mCons (mC (.str (Str.ofString "x"))) (mNil)))) (v := 7) (vs := [7]) (f := fun _ => true) (g := gEn (.str (Str.ofString "x"))) (env := env) (S := S) e0 (by
      have : 100 ≤ sizeLine := by decide
      simp [chT]; omega) (fun x hx acc => by simp [mYes])
    (fun x hx _ acc => by
      obtain ⟨s, _, rfl⟩ := List.mem_map.mp hx
      exact tup_add (sl4to (var_ok (h7 _))) (by simp [mTup, mCons, mC, mNil, sz1]) (by simp))
  rw [hft] at e
  have hm : ((chT w.val (abc 0)).ss.map Scn.toD).map (gEn (.str (Str.ofString "x"))) = (shutS w.val).map Scn.toD := rfl
  rw [hm] at e
  have et := tuple_new S ((shutS w.val).map Scn.toD)
  unfold shutE
  generalize mLc (mItr (mBin ixA (mVar 4) (mC (.int 5)))) (gN 7) (mYes) (mBin dAdd (mSl slA (mVar 7) (mNo) (mPart (mC (.int 4)))) (mTup (mCons (mC (.str (Str.ofString "x"))) (mNil)))) [7] = X at e ⊢
  simp [mBlt, mCons, mNil, e, et]
theorem turn1_ok (w : Fin 4) (j : Nat) {n : Nat} {ts : List Tale} {S : Sto} (hn : S[n]? = some (Ob.lst (ts.map Tale.toD))) (hl : ts.length ≤ 100) (x0 x1 x4 x5 x6 x7 x8 x9 x10 x11 x12 : Option D) :
    ∃ y4 y5 y6 n' S', loop1B (lv (j + 2)) [x0, x1, some (.ref n), some (.int ((w.val : Nat) : Int)), x4, x5, x6, x7, x8, x9, x10, x11, x12] S = some (.nx, [x0, x1, some (.ref n'), some (.int ((w.val : Nat) : Int)), y4, y5, y6, x7, x8, x9, x10, x11, x12], S') ∧
      S'[n']? = some (Ob.lst ((ts ++ [chT w.val (abc 0), cutT w.val (abc 0), cutT w.val (abc 6), shutT w.val (abc 0)]).map Tale.toD)) ∧ Kp S S' ∧ S.length ≤ n' := by
  obtain ⟨S1, e1, k1⟩ := chain_ok w (j + 1) S
  obtain ⟨S2, e2, k2⟩ := cond1_ok w j (env := [x0, x1, some (.ref n), some (.int ((w.val : Nat) : Int)), some (chT w.val (abc 0)).toD, x5, x6, x7, x8, x9, x10, x11, x12]) (S := S1) rfl
  have e3 := cut_ok w (env := [x0, x1, some (.ref n), some (.int ((w.val : Nat) : Int)), some (chT w.val (abc 0)).toD, x5, x6, x7, x8, x9, x10, x11, x12]) (S := S2) rfl
  have e4 := shut_ok w (env := [x0, x1, some (.ref n), some (.int ((w.val : Nat) : Int)), some (chT w.val (abc 0)).toD, some (.tup ((cutS4 w.val).map Scn.toD)), x6, x7, x8, x9, x10, x11, x12]) (S := S2) rfl (by simp)
  have k3 : Kp S2 (S2 ++ [Ob.lst ((shutS w.val).map Scn.toD)]) := Kp.new
  generalize S2 ++ [Ob.lst ((shutS w.val).map Scn.toD)] = S3 at e4 k3
  have kk := (k1.trans k2).trans k3
  have hn3 := kk.keep _ _ hn
  have e5 : addE1 [x0, x1, some (.ref n), some (.int ((w.val : Nat) : Int)), some (chT w.val (abc 0)).toD, some (.tup ((cutS4 w.val).map Scn.toD)), some (.tup ((shutS w.val).map Scn.toD)), x7, x8, x9, x10, x11, x12] S3 = some (.ref (S3.length + 1), S3 ++ [Ob.lst ([chT w.val (abc 0), cutT w.val (abc 0), cutT w.val (abc 6), shutT w.val (abc 0)].map Tale.toD), Ob.lst ((ts ++ [chT w.val (abc 0), cutT w.val (abc 0), cutT w.val (abc 6), shutT w.val (abc 0)]).map Tale.toD)]) := by
    have w1 := with_ok (chT w.val (abc 0)) (v := 5) (x := "a") (ss := cutS4 w.val) (env := [x0, x1, some (.ref n), some (.int ((w.val : Nat) : Int)), some (chT w.val (abc 0)).toD, some (.tup ((cutS4 w.val).map Scn.toD)), some (.tup ((shutS w.val).map Scn.toD)), x7, x8, x9, x10, x11, x12]) (S := S3) rfl rfl
    have w2 := with_ok (chT w.val (abc 0)) (v := 5) (x := "g") (ss := cutS4 w.val) (env := [x0, x1, some (.ref n), some (.int ((w.val : Nat) : Int)), some (chT w.val (abc 0)).toD, some (.tup ((cutS4 w.val).map Scn.toD)), some (.tup ((shutS w.val).map Scn.toD)), x7, x8, x9, x10, x11, x12]) (S := S3) rfl rfl
    have w3 := with_ok (chT w.val (abc 0)) (v := 6) (x := "a") (ss := shutS w.val) (env := [x0, x1, some (.ref n), some (.int ((w.val : Nat) : Int)), some (chT w.val (abc 0)).toD, some (.tup ((cutS4 w.val).map Scn.toD)), some (.tup ((shutS w.val).map Scn.toD)), x7, x8, x9, x10, x11, x12]) (S := S3) rfl rfl
    have r1 : ({ chT w.val (abc 0) with ss := cutS4 w.val, bg := Str.ofString "a" } : Tale) = cutT w.val (abc 0) := rfl
    have r2 : ({ chT w.val (abc 0) with ss := cutS4 w.val, bg := Str.ofString "g" } : Tale) = cutT w.val (abc 6) := rfl
    have r3 : ({ chT w.val (abc 0) with ss := shutS w.val, bg := Str.ofString "a" } : Tale) = shutT w.val (abc 0) := rfl
    rw [r1] at w1
    rw [r2] at w2
    rw [r3] at w3
    have hz : 1000 ≤ sizeLine := by decide
    have ec := cat_ref (S := S3 ++ [Ob.lst ([chT w.val (abc 0), cutT w.val (abc 0), cutT w.val (abc 6), shutT w.val (abc 0)].map Tale.toD)]) (b := S3.length) (ys := [chT w.val (abc 0), cutT w.val (abc 0), cutT w.val (abc 6), shutT w.val (abc 0)].map Tale.toD) (at_app hn3) (by simp) (by simp; omega)
    rw [List.length_append, List.append_assoc, ← List.map_append] at ec
    generalize hts : (ts ++ [chT w.val (abc 0), cutT w.val (abc 0), cutT w.val (abc 6), shutT w.val (abc 0)]).map Tale.toD = TS at ec ⊢
    simp only [List.map_cons, List.map_nil] at ec ⊢
    generalize (chT w.val (abc 0)).toD = d1 at *
    generalize (cutT w.val (abc 0)).toD = d2 at *
    generalize (cutT w.val (abc 6)).toD = d3 at *
    generalize (shutT w.val (abc 0)).toD = d4 at *
    unfold addE1
    generalize withE 5 "a" = X1 at w1 ⊢
    generalize withE 5 "g" = X2 at w2 ⊢
    generalize withE 6 "a" = X3 at w3 ⊢
    generalize dAdd = A at ec ⊢
    simp only [List.length_singleton, List.singleton_append] at ec
    simp [mBin, mVar, mLst, mCons, mNil, newL, sz4, w1, w2, w3, ec]
  have k4 : Kp S3 (S3 ++ [Ob.lst ([chT w.val (abc 0), cutT w.val (abc 0), cutT w.val (abc 6), shutT w.val (abc 0)].map Tale.toD), Ob.lst ((ts ++ [chT w.val (abc 0), cutT w.val (abc 0), cutT w.val (abc 6), shutT w.val (abc 0)]).map Tale.toD)]) := Kp.new
  have n4 : (S3 ++ [Ob.lst ([chT w.val (abc 0), cutT w.val (abc 0), cutT w.val (abc 6), shutT w.val (abc 0)].map Tale.toD), Ob.lst ((ts ++ [chT w.val (abc 0), cutT w.val (abc 0), cutT w.val (abc 6), shutT w.val (abc 0)]).map Tale.toD)])[S3.length + 1]? = some (Ob.lst ((ts ++ [chT w.val (abc 0), cutT w.val (abc 0), cutT w.val (abc 6), shutT w.val (abc 0)]).map Tale.toD)) := by simp
  generalize S3 ++ [Ob.lst ([chT w.val (abc 0), cutT w.val (abc 0), cutT w.val (abc 6), shutT w.val (abc 0)].map Tale.toD), Ob.lst ((ts ++ [chT w.val (abc 0), cutT w.val (abc 0), cutT w.val (abc 6), shutT w.val (abc 0)]).map Tale.toD)] = S4 at e5 k4 n4
  refine ⟨some (chT w.val (abc 0)).toD, some (.tup ((cutS4 w.val).map Scn.toD)), some (.tup ((shutS w.val).map Scn.toD)), S3.length + 1, S4, ?_, n4, kk.trans k4, by have := kk.len; omega⟩
  · have e1' : lv (j + 2) 17 [.int ((w.val : Nat) : Int)] S = some ((chT w.val (abc 0)).toD, S1) := e1
    unfold loop1B
    generalize condE (lv (j + 2)) = X1 at e2 ⊢
    generalize cutE = X2 at e3 ⊢
    generalize shutE = X3 at e4 ⊢
    generalize addE1 = X4 at e5 ⊢
    generalize lv (j + 2) = C at e1' ⊢
    generalize (chT w.val (abc 0)).toD = d1 at *
    generalize D.tup ((cutS4 w.val).map Scn.toD) = d2 at *
    generalize D.tup ((shutS w.val).map Scn.toD) = d3 at *
    simp [mBody, startE, mSeq, mAsg, mBin, mVar, mC, mCall, mCons, mNil, gN, mIfS, mIf, mTru, dTru, mRet, mTup, mAndT, mOrT, asB, dLt, dGt, dEq, sEq, PL.alt, iiI, iiB, mLst, newL, mNext, mNeg, mBlt, dSub, sz0, sz1, sz2, sz3, sz4, sz5, sz6, sz8, yd_some, e1', e2, e3, e4, e5]
end K11
end

section
set_option Elab.async false
set_option linter.all false
set_option maxRecDepth 100000
set_option maxHeartbeats 800000
namespace K11
open PySem PySem.Spec PyProof.Rows L2 PL
theorem loop1_ok (j : Nat) (x0 x1 x7 x8 x9 x10 x11 x12 : Option D) : ∀ (m i n : Nat) (ts : List Tale) (S : Sto) (x3 x4 x5 x6 : Option D), i + m = 4 → S[n]? = some (Ob.lst (ts.map Tale.toD)) → 2 < n → (∀ t ∈ ts, Good t) → ts.length = 1 + 4 * i →
    ∃ (y3 y4 y5 y6 : Option D) (n' : Nat) (ts' : List Tale) (S' : Sto), mForL (nxR 0 4) (gN 3) (loop1B (lv (j + 2))) (m + 1) i [x0, x1, some (.ref n), x3, x4, x5, x6, x7, x8, x9, x10, x11, x12] S = some (.nx, [x0, x1, some (.ref n'), y3, y4, y5, y6, x7, x8, x9, x10, x11, x12], S') ∧
      S'[n']? = some (Ob.lst (ts'.map Tale.toD)) ∧ 2 < n' ∧ (∀ t ∈ ts', Good t) ∧ ts'.length = 17 ∧ Kp S S' := by
  intro m
  induction m with
  | zero =>
    intro i n ts S x3 x4 x5 x6 hi hn h2 hg hl
    refine ⟨x3, x4, x5, x6, n, ts, S, ?_, hn, h2, hg, by omega, Kp.refl⟩
    have h : ¬ i < 4 := by omega
    unfold mForL
    show (nxR 0 4 i S).bind _ = _
    unfold nxR
    rw [if_neg h, Option.bind_some]
  | succ m ih =>
    intro i n ts S x3 x4 x5 x6 hi hn h2 hg hl
    have h : i < 4 := by omega
    obtain ⟨y4, y5, y6, n1, S1, e1, n1', k1, b1⟩ := turn1_ok ⟨i, h⟩ j hn (by omega) x0 x1 x4 x5 x6 x7 x8 x9 x10 x11 x12
    have lt := (List.getElem?_eq_some_iff.mp hn).1
    have g1 : ∀ t ∈ ts ++ [chT i (abc 0), cutT i (abc 0), cutT i (abc 6), shutT i (abc 0)], Good t := by
      intro t ht
      rcases List.mem_append.mp ht with ht | ht
      · exact hg t ht
      · simp only [List.mem_cons, List.not_mem_nil, or_false] at ht
        rcases ht with rfl | rfl | rfl | rfl
        · exact chA_good ⟨i, h⟩
        · exact cut_good ⟨i, h⟩ _ (by simp)
        · exact cut_good ⟨i, h⟩ _ (by simp)
        · exact shut_good ⟨i, h⟩
    obtain ⟨z3, z4, z5, z6, n2, ts2, S2, e2, n2', b2, g2, l2, k2⟩ := ih (i + 1) n1 _ S1 (some (.int (i : Int))) y4 y5 y6 (by omega) n1' (by omega) g1 (by simp; omega)
    refine ⟨z3, z4, z5, z6, n2, ts2, S2, ?_, n2', b2, g2, l2, k1.trans k2⟩
    unfold mForL
    show (nxR 0 4 i S).bind _ = _
    unfold nxR
    rw [if_pos h, Option.bind_some]
    dsimp only
    have hz : (0 : Int) + (i : Int) = (i : Int) := by omega
    rw [hz]
    show (gN 3 _ _ S).bind _ = _
    unfold gN
    rw [Option.bind_some]
    dsimp only [List.set]
    rw [e1, Option.bind_some]
    exact e2
/-! other stories of a story -/
theorem join_ge : ∀ ts : List Str, wts ts ≤ ((Str.ofString ", ").join ts).length + 2
  | [] => by simp [wts]
  | [x] => by rw [Str.join.eq_2]; simp [wts]
  | x :: y :: r => by
    have ih := join_ge (y :: r)
    have hc : (Str.ofString ", ").length = 2 := by decide
    have e : wts (x :: y :: r) = x.length + 2 + wts (y :: r) := by simp [wts]
    rw [Str.join.eq_3 _ _ _ (by simp), len_app, len_app]
    omega
theorem Ok.untup {W m : Nat} {ds : List D} {p : PyData} (h : Ok W (m + 1) (.tup ds) p) : (∃ ps, OkL W m ds ps) ∧ 2 ≤ W := by
  have hp := h.py
  rw [pyD] at hp
  obtain ⟨ps, e1, e2⟩ := Option.map_eq_some_iff.mp hp
  subst e2
  have h1 := h.sh
  have h2 := h.nd
  have h3 := h.dp
  have h4 := h.ln
  rw [PyData.showable.eq_6] at h1
  rw [PyData.hasDict.eq_6] at h2
  rw [PyData.depth.eq_2] at h3
  rw [PyData.shown.eq_6, tupleText.eq_1, len_app, len_app] at h4
  have h5 := join_ge (PyData.shownAll ps)
  have h6 : (Str.ofString "(").length = 1 := by decide
  have h7 : 1 ≤ (Str.ofString (if ((PyData.shownAll ps).length == 1) = true then ",)" else ")")).length := by
    split <;> decide
  exact ⟨⟨ps, e1, h1, h2, by omega, by omega⟩, by omega⟩
theorem OkL.uncons {W m : Nat} {d : D} {ds : List D} {ps : List PyData} (h : OkL W m (d :: ds) ps) : ∃ p qs w1 w2, Ok w1 m d p ∧ OkL w2 m ds qs ∧ w1 + 2 + w2 ≤ W := by
  have hp := h.py
  have c : pyDs (d :: ds) = (pyD d).bind fun a => (pyDs ds).map (a :: ·) := by rw [pyDs]
  rw [c] at hp
  obtain ⟨p, e1, e2⟩ := Option.bind_eq_some_iff.mp hp
  obtain ⟨qs, e3, e4⟩ := Option.map_eq_some_iff.mp e2
  subst e4
  have h1 := h.sh
  have h2 := h.nd
  have h3 := h.dp
  have h4 := h.ln
  rw [PyData.depthAll.eq_2] at h3
  have h5 : wts (PyData.shownAll (p :: qs)) = p.shown.length + 2 + wts (PyData.shownAll qs) := by
    rw [PyData.shownAll.eq_2]
    simp [wts]
  simp only [PyData.showableAll, PyData.hasDictAll, Bool.and_eq_true, Bool.or_eq_false_iff] at h1 h2
  exact ⟨p, qs, _, _, ⟨e1, h1.1, h2.1, Nat.le_trans (Nat.le_max_left ..) h3, Nat.le_refl _⟩, ⟨e3, h1.2, h2.2, Nat.le_trans (Nat.le_max_right ..) h3, Nat.le_refl _⟩, by omega⟩
def bareS (s : Scn) : Scn := { s with cs := [] }
inductive Thn : List Scn → List Scn → Prop
  | nil : Thn [] []
  | keep {s : Scn} {a b : List Scn} : Thn a b → Thn (s :: a) (s :: b)
  | bare {s : Scn} {a b : List Scn} : Thn a b → Thn (s :: a) (bareS s :: b)
theorem Thn.refl : ∀ ss : List Scn, Thn ss ss
  | [] => .nil
  | _ :: ss => .keep (Thn.refl ss)
theorem Thn.all : ∀ ss : List Scn, Thn ss (ss.map bareS)
  | [] => .nil
  | _ :: ss => .bare (Thn.all ss)
theorem Thn.half (ss : List Scn) : Thn ss (ss.take 1 ++ (ss.map bareS).drop 1) := by
  cases ss with
  | nil => exact .nil
  | cons s ss => exact .keep (Thn.all ss)
theorem Thn.names {a b : List Scn} (h : Thn a b) : b.map Scn.nm = a.map Scn.nm := by
  induction h with
  | nil => rfl
  | keep _ ih => rw [List.map_cons, List.map_cons, ih]
  | bare _ ih => rw [List.map_cons, List.map_cons, ih]; rfl
theorem Thn.mem {a b : List Scn} (h : Thn a b) : ∀ s ∈ b, ∃ u ∈ a, s = u ∨ s = bareS u := by
  induction h with
  | nil => intro s hs; cases hs
  | keep _ ih =>
    intro s hs
    rcases List.mem_cons.mp hs with rfl | hs
    · exact ⟨_, List.mem_cons_self .., .inl rfl⟩
    · obtain ⟨u, hu, e⟩ := ih s hs
      exact ⟨u, List.mem_cons_of_mem _ hu, e⟩
  | bare _ ih =>
    intro s hs
    rcases List.mem_cons.mp hs with rfl | hs
    · exact ⟨_, List.mem_cons_self .., .inr rfl⟩
    · obtain ⟨u, hu, e⟩ := ih s hs
      exact ⟨u, List.mem_cons_of_mem _ hu, e⟩
theorem bare_in {N : List Str} {s : Scn} (h : s.In N) : (bareS s).In N := ⟨by simp [bareS], h.2.1, by simp [bareS], h.2.2.2⟩
theorem thin_whole {t : Tale} (w : t.Whole) {ss : List Scn} (h : Thn t.ss ss) {x : Str} (hx : x ∈ t.names) : ({ t with ss := ss, bg := x } : Tale).Whole := by
  have hn : ({ t with ss := ss, bg := x } : Tale).names = t.names := h.names
  have hl : ss.length = t.ss.length := by
    have := congrArg List.length h.names
    simpa using this
  refine ⟨by rw [hn]; exact w.nd, by rw [hn]; exact hx, ?_, by rw [hn]; exact w.ok, by have := w.few; dsimp only; omega⟩
  intro s hs
  rw [hn]
  obtain ⟨u, hu, e | e⟩ := h.mem s hs
  · rw [e]; exact w.cl u hu
  · rw [e]; exact bare_in (w.cl u hu)
theorem void2 : Ok 2 1 (.tup []) (.tuple []) := ⟨rfl, rfl, rfl, by decide +kernel, by decide +kernel⟩
theorem bare_ok {W m : Nat} {s : Scn} {p : PyData} (h : Ok W (m + 2) s.toD p) : ∃ q, Ok (W + 3) (m + 2) (bareS s).toD q := by
  have h0 : Ok W (m + 1 + 1) (.tup [.str s.nm, s.a, .tup (s.cs.map Chc.toD), .tup (s.wv.map D.str), s.en]) p := h
  obtain ⟨⟨ps, l0⟩, _⟩ := h0.untup
  obtain ⟨p1, q1, w1, v1, o1, l1, b1⟩ := l0.uncons
  obtain ⟨p2, q2, w2, v2, o2, l2, b2⟩ := l1.uncons
  obtain ⟨p3, q3, w3, v3, o3, l3, b3⟩ := l2.uncons
  obtain ⟨_, c3⟩ := o3.untup
  have hv : Ok w3 (m + 1) (.tup []) (.tuple []) := void2.mono c3 (by omega)
  have hl := OkL.cons o1 (OkL.cons o2 (OkL.cons hv l3))
  exact ⟨_, (Ok.tup hl).mono (by omega) (Nat.le_refl _)⟩
theorem thin_ok {m : Nat} {a b : List Scn} (h : Thn a b) : ∀ {W : Nat} {ps : List PyData}, OkL W (m + 2) (a.map Scn.toD) ps → ∃ qs, OkL (W + 3 * a.length) (m + 2) (b.map Scn.toD) qs := by
  induction h with
  | nil => intro W ps h; exact ⟨ps, h.mono (by omega) (Nat.le_refl _)⟩
  | keep _ ih =>
    intro W ps h
    rw [List.map_cons] at h
    obtain ⟨p1, q1, w1, v1, o1, l1, b1⟩ := h.uncons
    obtain ⟨qs, hq⟩ := ih l1
    rw [List.map_cons]
    exact ⟨_, (OkL.cons o1 hq).mono (by rw [List.length_cons]; omega) (Nat.le_refl _)⟩
  | bare _ ih =>
    intro W ps h
    rw [List.map_cons] at h
    obtain ⟨p1, q1, w1, v1, o1, l1, b1⟩ := h.uncons
    obtain ⟨qs, hq⟩ := ih l1
    obtain ⟨r, hr⟩ := bare_ok o1
    rw [List.map_cons]
    exact ⟨_, (OkL.cons hr hq).mono (by rw [List.length_cons]; omega) (Nat.le_refl _)⟩
theorem re_ok {t : Tale} {p : PyData} (h : Ok 3000000 14 t.toD p) (w : t.Whole) {ss : List Scn} (ht : Thn t.ss ss) {x : Str} (hx : okB 12 (.str x) = true) : ∃ q, Ok 8000000 20 ({ t with ss := ss, bg := x } : Tale).toD q := by
  have h0 : Ok 3000000 (13 + 1) (.tup [t.a0, t.a1, t.a2, t.a3, t.a4, .tup (t.ss.map Scn.toD), .str t.bg]) p := h
  obtain ⟨⟨ps, l0⟩, _⟩ := h0.untup
  obtain ⟨p1, q1, w1, v1, o1, l1, b1⟩ := l0.uncons
  obtain ⟨p2, q2, w2, v2, o2, l2, b2⟩ := l1.uncons
  obtain ⟨p3, q3, w3, v3, o3, l3, b3⟩ := l2.uncons
  obtain ⟨p4, q4, w4, v4, o4, l4, b4⟩ := l3.uncons
  obtain ⟨p5, q5, w5, v5, o5, l5, b5⟩ := l4.uncons
  obtain ⟨p6, q6, w6, v6, o6, l6, b6⟩ := l5.uncons
  have o6' : Ok w6 (12 + 1) (.tup (t.ss.map Scn.toD)) p6 := o6
  obtain ⟨⟨pz, lz⟩, _⟩ := o6'.untup
  have lz' : OkL w6 (10 + 2) (t.ss.map Scn.toD) pz := lz
  obtain ⟨qs, hq⟩ := thin_ok ht lz'
  have hf := w.few
  have o6n := (Ok.tup hq).mono (by omega : w6 + 3 * t.ss.length + 3 ≤ w6 + 27) (by omega : 10 + 2 + 1 ≤ 13)
  have hl := OkL.cons o1 (OkL.cons o2 (OkL.cons o3 (OkL.cons o4 (OkL.cons o5 (OkL.cons o6n (OkL.cons ((Ok.word hx).mono (Nat.le_refl _) (by omega : 0 ≤ 13)) OkL.nil))))))
  exact ⟨_, (Ok.tup hl).mono (by omega) (by omega)⟩
theorem re_good {t : Tale} {p : PyData} (h : Ok 3000000 14 t.toD p) (w : t.Whole) {ss : List Scn} (ht : Thn t.ss ss) {x : Str} (hx : x ∈ t.names) : Good { t with ss := ss, bg := x } := by
  refine ⟨thin_whole w ht hx, re_ok h w ht ?_⟩
  have := w.ok x hx
  simp [okN] at this
  exact this.1
end K11
end

section
set_option Elab.async false
set_option linter.all false
set_option maxRecDepth 100000
set_option maxHeartbeats 800000
namespace K11
open PySem PySem.Spec PyProof.Rows L2 PL
def begF : ME := mBin dAdd (mSl slA (mVar 4) (mNo) (mPart (mC (.int 6)))) (mTup (mCons (mBin ixA (mVar 7) (mC (.int 0))) (mNil)))
def begE : ME := mBin dAdd (mVar 2) (mLc (mItr (mBin ixA (mVar 4) (mC (.int 5)))) (gN 7) (mYes) begF [7])
def bareF : ME := mBin dAdd (mBin dAdd (mSl slA (mVar 7) (mNo) (mPart (mC (.int 2)))) (mTup (mCons (mTup (mNil)) (mNil)))) (mSl slA (mVar 7) (mPart (mC (.int 3))) (mNo))
def bareE : ME := mBlt gTuple (mCons (mLc (mItr (mBin ixA (mVar 4) (mC (.int 5)))) (gN 7) (mYes) bareF [7]) (mNil))
def lastA : ME := mBin dAdd (mSl slA (mVar 4) (mNo) (mPart (mC (.int 5)))) (mTup (mCons (mVar 9) (mCons (mBin ixA (mVar 4) (mC (.int 6))) (mNil))))
def halfE : ME := mBin dAdd (mSl slA (mBin ixA (mVar 4) (mC (.int 5))) (mNo) (mPart (mC (.int 1)))) (mSl slA (mVar 9) (mPart (mC (.int 1))) (mNo))
def lastB : ME := mBin dAdd (mSl slA (mVar 4) (mNo) (mPart (mC (.int 5)))) (mTup (mCons halfE (mCons (mBin ixA (mVar 4) (mC (.int 6))) (mNil))))
def addE2 : ME := mBin dAdd (mVar 2) (mLst (mCons lastA (mCons lastB (mNil))))
def loop2B (C : Nat → MF) : MS := mSeq (mAsg (mCall 2 (C 15) (mCons (mVar 1) (mCons (mC (.int 6)) (mNil)))) (gN 4)) (mSeq (mAsg begE (gN 2)) (mSeq (mAsg bareE (gN 9)) (mAsg addE2 (gN 2))))
theorem sl1to {m : ME} {env : PL.Env} {S S' : Sto} {ds : List D} (e : m env S = some (.tup ds, S')) : mSl slA m mNo (mPart (mC (.int 1))) env S = some (.tup (ds.take 1), S') := sl_to 1 e
theorem sl2to {m : ME} {env : PL.Env} {S S' : Sto} {ds : List D} (e : m env S = some (.tup ds, S')) : mSl slA m mNo (mPart (mC (.int 2))) env S = some (.tup (ds.take 2), S') := sl_to 2 e
theorem sl1from {m : ME} {env : PL.Env} {S S' : Sto} {ds : List D} (e : m env S = some (.tup ds, S')) : mSl slA m (mPart (mC (.int 1))) mNo env S = some (.tup (ds.drop 1), S') := sl_from 1 e
theorem sl3from {m : ME} {env : PL.Env} {S S' : Sto} {ds : List D} (e : m env S = some (.tup ds, S')) : mSl slA m (mPart (mC (.int 3))) mNo env S = some (.tup (ds.drop 3), S') := sl_from 3 e
def gBg (t : Tale) : D → D
  | .tup (.str x :: _) => ({ t with bg := x } : Tale).toD
  | d => d
def gBare : D → D
  | .tup ds => .tup (ds.take 2 ++ [.tup []] ++ ds.drop 3)
  | d => d
def begs (t : Tale) : List Tale := t.ss.map fun s => { t with bg := s.nm }
def bares (t : Tale) : List Scn := t.ss.map bareS
def bareT (t : Tale) : Tale := { t with ss := bares t, bg := t.bg }
def halfT (t : Tale) : Tale := { t with ss := t.ss.take 1 ++ (bares t).drop 1, bg := t.bg }
theorem filt_true (xs : List D) : xs.filter (fun _ => true) = xs := List.filter_eq_self.mpr (fun _ _ => rfl)
theorem wipe7 {env : PL.Env} (h : 7 < env.length) (d : D) : ((wipeE env [7]).set 7 (some d))[7]? = some (some d) := by
  have : (wipeE env [7]).length = env.length := by simp [wipeE]
  rw [List.getElem?_set_self (by omega)]
theorem wipe4 {env : PL.Env} {x : Option D} (h : env[4]? = some x) (d : D) : ((wipeE env [7]).set 7 (some d))[4]? = some x := by
  rw [List.getElem?_set_ne (by omega)]
  show (env.set 7 none)[4]? = some x
  rw [List.getElem?_set_ne (by omega)]
  exact h
theorem begE_ok {t : Tale} (w : t.Whole) {n : Nat} {ts : List Tale} {env : PL.Env} {S : Sto} (h2 : env[2]? = some (some (.ref n))) (h4 : env[4]? = some (some t.toD)) (hl : 7 < env.length) (hn : S[n]? = some (Ob.lst (ts.map Tale.toD))) (ht : ts.length ≤ 100) :
    begE env S = some (.ref (S.length + 1), S ++ [Ob.lst ((begs t).map Tale.toD), Ob.lst ((ts ++ begs t).map Tale.toD)]) := by
  have hf := w.few
  have hz : 1000 ≤ sizeLine := by decide
  have e := lc_tup (m := mBin ixA (mVar 4) (mC (.int 5))) (t := mYes) (el := begF) (v := 7) (vs := [7]) (f := fun _ => true) (g := gBg t) (env := env) (S := S) (ss_ok t h4) (by rw [List.length_map]; omega) (fun x hx acc => by simp [mYes])
    (fun x hx _ acc => by
      obtain ⟨s, _, rfl⟩ := List.mem_map.mp hx
      unfold begF
      exact tup_add (sl6to (var_ok (wipe4 h4 _))) (by simp [mTup, mCons, mC, mNil, sz1, mBin, mVar, wipe7 hl, scn0]) (by simp))
  rw [filt_true] at e
  have hm : (t.ss.map Scn.toD).map (gBg t) = (begs t).map Tale.toD := by
    unfold begs
    rw [List.map_map, List.map_map]
    rfl
  rw [hm] at e
  have hb : (begs t).length = t.ss.length := by simp [begs]
  have ec := cat_ref (S := S ++ [Ob.lst ((begs t).map Tale.toD)]) (b := S.length) (ys := (begs t).map Tale.toD) (at_app hn) (by simp) (by simp; omega)
  rw [List.length_append, List.append_assoc, ← List.map_append] at ec
  simp only [List.length_singleton, List.singleton_append] at ec
  unfold begE
  generalize mLc (mItr (mBin ixA (mVar 4) (mC (.int 5)))) (gN 7) (mYes) begF [7] = X at e ⊢
  generalize dAdd = A at ec ⊢
  simp [mBin, mVar, h2, e, ec]
theorem bareE_ok {t : Tale} (w : t.Whole) {env : PL.Env} {S : Sto} (h4 : env[4]? = some (some t.toD)) (hl : 7 < env.length) :
    bareE env S = some (.tup ((bares t).map Scn.toD), S ++ [Ob.lst ((bares t).map Scn.toD)]) := by
  have hf := w.few
  have hz : 1000 ≤ sizeLine := by decide
  have e := lc_tup (m := mBin ixA (mVar 4) (mC (.int 5))) (t := mYes) (el := bareF) (v := 7) (vs := [7]) (f := fun _ => true) (g := gBare) (env := env) (S := S) (ss_ok t h4) (by rw [List.length_map]; omega) (fun x hx acc => by simp [mYes])
    (fun x hx _ acc => by
      obtain ⟨s, _, rfl⟩ := List.mem_map.mp hx
      unfold bareF
      exact tup_add (tup_add (sl2to (var_ok (wipe7 hl _))) (by simp [mTup, mCons, mC, mNil, sz0, sz1]) (by simp)) (sl3from (var_ok (wipe7 hl _))) (by simp))
  rw [filt_true] at e
  have hm : (t.ss.map Scn.toD).map gBare = (bares t).map Scn.toD := by
    unfold bares
    rw [List.map_map, List.map_map]
    rfl
  rw [hm] at e
  have et := tuple_new S ((bares t).map Scn.toD)
  unfold bareE
  generalize mLc (mItr (mBin ixA (mVar 4) (mC (.int 5)))) (gN 7) (mYes) bareF [7] = X at e ⊢
  simp [mBlt, mCons, mNil, e, et]
theorem addE2_ok {t : Tale} (w : t.Whole) {n : Nat} {ts : List Tale} {env : PL.Env} {S : Sto} (h2 : env[2]? = some (some (.ref n))) (h4 : env[4]? = some (some t.toD)) (h9 : env[9]? = some (some (.tup ((bares t).map Scn.toD)))) (hn : S[n]? = some (Ob.lst (ts.map Tale.toD))) (ht : ts.length ≤ 100) :
    addE2 env S = some (.ref (S.length + 1), S ++ [Ob.lst ([bareT t, halfT t].map Tale.toD), Ob.lst ((ts ++ [bareT t, halfT t]).map Tale.toD)]) := by
  have hf := w.few
  have hz : 1000 ≤ sizeLine := by decide
  have e6 : mBin ixA (mVar 4) (mC (.int 6)) env S = some (.str t.bg, S) := by simp [mBin, mVar, mC, h4, tale6]
  have eA : lastA env S = some ((bareT t).toD, S) := by
    unfold lastA
    generalize mBin ixA (mVar 4) (mC (.int 6)) = X at e6 ⊢
    exact tup_add (sl5to (var_ok h4)) (by simp [mTup, mCons, mNil, sz2, mVar, h9, e6]; exact ⟨rfl, rfl⟩) (by simp)
  have eH : halfE env S = some (.tup ((t.ss.take 1 ++ (bares t).drop 1).map Scn.toD), S) := by
    unfold halfE
    rw [List.map_append, List.map_take, List.map_drop]
    refine tup_add (sl1to (ss_ok t h4)) (sl1from (var_ok h9)) ?_
    simp [bares]
    omega
  have eB : lastB env S = some ((halfT t).toD, S) := by
    unfold lastB
    generalize mBin ixA (mVar 4) (mC (.int 6)) = X at e6 ⊢
    generalize halfE = Y at eH ⊢
    exact tup_add (sl5to (var_ok h4)) (by simp only [mTup, mCons, mNil, eH, e6, Option.bind_some, List.length_cons, List.length_nil, sz2, if_true]; rfl) (by simp)
  have ec := cat_ref (S := S ++ [Ob.lst ([bareT t, halfT t].map Tale.toD)]) (b := S.length) (ys := [bareT t, halfT t].map Tale.toD) (at_app hn) (by simp) (by simp; omega)
  rw [List.length_append, List.append_assoc, ← List.map_append] at ec
  generalize (ts ++ [bareT t, halfT t]).map Tale.toD = TS at ec ⊢
  simp only [List.map_cons, List.map_nil, List.length_singleton, List.singleton_append] at ec ⊢
  unfold addE2
  generalize lastA = X1 at eA ⊢
  generalize lastB = X2 at eB ⊢
  generalize dAdd = A at ec ⊢
  simp [mBin, mVar, h2, mLst, mCons, mNil, newL, sz2, eA, eB, ec]
theorem more_good {t : Tale} {p : PyData} (h : Ok 3000000 14 t.toD p) (w : t.Whole) : ∀ u ∈ begs t ++ [bareT t, halfT t], Good u := by
  intro u hu
  rcases List.mem_append.mp hu with hu | hu
  · obtain ⟨s, hs, rfl⟩ := List.mem_map.mp hu
    exact re_good h w (Thn.refl t.ss) (List.mem_map.mpr ⟨s, hs, rfl⟩)
  · simp only [List.mem_cons, List.not_mem_nil, or_false] at hu
    rcases hu with rfl | rfl
    · exact re_good h w (Thn.all t.ss) w.bg
    · exact re_good h w (Thn.half t.ss) w.bg
theorem turn2b_ok {ns : List Int} {k : Nat} (j : Nat) {n : Nat} {ts : List Tale} {S : Sto} (F : FeedAt ns k S) (hk : k + 210000 < 1000000000) (hn : S[n]? = some (Ob.lst (ts.map Tale.toD))) (h2 : 2 < n) (hl : ts.length ≤ 80) (hg : ∀ t ∈ ts, Good t) (x0 x3 x4 x5 x6 x7 x8 x9 x10 x11 x12 : Option D) :
    ∃ (y4 y9 : Option D) (n' : Nat) (ts' : List Tale) (S' : Sto), loop2B (lv (j + 14)) [x0, some (.ref 2), some (.ref n), x3, x4, x5, x6, x7, x8, x9, x10, x11, x12] S = some (.nx, [x0, some (.ref 2), some (.ref n'), x3, y4, x5, x6, x7, x8, y9, x10, x11, x12], S') ∧
      S'[n']? = some (Ob.lst (ts'.map Tale.toD)) ∧ 2 < n' ∧ (∀ t ∈ ts', Good t) ∧ ts'.length ≤ ts.length + 10 ∧ FeedAt ns (k + 160000) S' := by
  obtain ⟨t, S1, e1, w, ⟨p, hp⟩, F1, G1⟩ := tale_ok (j := j) F hk
  have hn1 := G1.keep n _ (by omega) (by simp) hn
  have l3 := F.len
  have l31 := G1.len
  have e2 := begE_ok w (env := [x0, some (.ref 2), some (.ref n), x3, some t.toD, x5, x6, x7, x8, x9, x10, x11, x12]) (S := S1) rfl rfl (by simp) hn1 (by omega)
  have F2 : FeedAt ns (k + 160000) (S1 ++ [Ob.lst ((begs t).map Tale.toD), Ob.lst ((ts ++ begs t).map Tale.toD)]) := F1.new
  have n2 : (S1 ++ [Ob.lst ((begs t).map Tale.toD), Ob.lst ((ts ++ begs t).map Tale.toD)])[S1.length + 1]? = some (Ob.lst ((ts ++ begs t).map Tale.toD)) := by simp
  have len2 : (S1 ++ [Ob.lst ((begs t).map Tale.toD), Ob.lst ((ts ++ begs t).map Tale.toD)]).length = S1.length + 2 := by simp
  generalize S1 ++ [Ob.lst ((begs t).map Tale.toD), Ob.lst ((ts ++ begs t).map Tale.toD)] = S2 at e2 F2 n2 len2
  have e3 := bareE_ok w (env := [x0, some (.ref 2), some (.ref (S1.length + 1)), x3, some t.toD, x5, x6, x7, x8, x9, x10, x11, x12]) (S := S2) rfl (by simp)
  have F3 : FeedAt ns (k + 160000) (S2 ++ [Ob.lst ((bares t).map Scn.toD)]) := F2.new
  have n3 := at_app (T := [Ob.lst ((bares t).map Scn.toD)]) n2
  have len3 : (S2 ++ [Ob.lst ((bares t).map Scn.toD)]).length = S1.length + 3 := by simp [len2]
  generalize S2 ++ [Ob.lst ((bares t).map Scn.toD)] = S3 at e3 F3 n3 len3
  have hf := w.few
  have hb : (begs t).length = t.ss.length := by simp [begs]
  have e4 := addE2_ok w (env := [x0, some (.ref 2), some (.ref (S1.length + 1)), x3, some t.toD, x5, x6, x7, x8, some (.tup ((bares t).map Scn.toD)), x10, x11, x12]) (S := S3) rfl rfl rfl n3 (by rw [List.length_append]; omega)
  have F4 : FeedAt ns (k + 160000) (S3 ++ [Ob.lst ([bareT t, halfT t].map Tale.toD), Ob.lst ((ts ++ begs t ++ [bareT t, halfT t]).map Tale.toD)]) := F3.new
  have n4 : (S3 ++ [Ob.lst ([bareT t, halfT t].map Tale.toD), Ob.lst ((ts ++ begs t ++ [bareT t, halfT t]).map Tale.toD)])[S3.length + 1]? = some (Ob.lst ((ts ++ begs t ++ [bareT t, halfT t]).map Tale.toD)) := by simp
  generalize S3 ++ [Ob.lst ([bareT t, halfT t].map Tale.toD), Ob.lst ((ts ++ begs t ++ [bareT t, halfT t]).map Tale.toD)] = S4 at e4 F4 n4
  have hg4 : ∀ u ∈ ts ++ begs t ++ [bareT t, halfT t], Good u := by
    intro u hu
    rw [List.append_assoc] at hu
    rcases List.mem_append.mp hu with hu | hu
    · exact hg u hu
    · exact more_good hp w u hu
  refine ⟨some t.toD, some (.tup ((bares t).map Scn.toD)), S3.length + 1, _, S4, ?_, n4, by omega, hg4, by simp; omega, F4⟩
  unfold loop2B
  generalize begE = X2 at e2 ⊢
  generalize bareE = X3 at e3 ⊢
  generalize addE2 = X4 at e4 ⊢
  generalize lv (j + 14) = C at e1 ⊢
  generalize t.toD = d1 at *
  generalize D.tup ((bares t).map Scn.toD) = d2 at *
  simp [mBody, startE, mSeq, mAsg, mBin, mVar, mC, mCall, mCons, mNil, gN, mIfS, mIf, mTru, dTru, mRet, mTup, mAndT, mOrT, asB, dLt, dGt, dEq, sEq, PL.alt, iiI, iiB, mLst, newL, mNext, mNeg, mBlt, dSub, sz0, sz1, sz2, sz3, sz4, sz5, sz6, sz8, yd_some, e1, e2, e3, e4]
theorem feed_bd {k i : Nat} (h : k ≤ 160000 * i) (hi : i < 4) : k + 210000 < 1000000000 ∧ k + 160000 ≤ 160000 * (i + 1) := by
  constructor <;> omega
theorem loop2b_ok {ns : List Int} (j : Nat) (x0 x3 x5 x6 x7 x10 x11 x12 : Option D) : ∀ (m i n k : Nat) (ts : List Tale) (S : Sto) (x4 x8 x9 : Option D), i + m = 4 → FeedAt ns k S → k ≤ 160000 * i → S[n]? = some (Ob.lst (ts.map Tale.toD)) → 2 < n → (∀ t ∈ ts, Good t) → ts.length ≤ 20 + 10 * i →
    ∃ (y4 y8 y9 : Option D) (n' : Nat) (ts' : List Tale) (S' : Sto), mForL (nxR 0 4) (gN 8) (loop2B (lv (j + 14))) (m + 1) i [x0, some (.ref 2), some (.ref n), x3, x4, x5, x6, x7, x8, x9, x10, x11, x12] S = some (.nx, [x0, some (.ref 2), some (.ref n'), x3, y4, x5, x6, x7, y8, y9, x10, x11, x12], S') ∧
      S'[n']? = some (Ob.lst (ts'.map Tale.toD)) ∧ (∀ t ∈ ts', Good t) ∧ ts'.length ≤ 100 := by
  intro m
  induction m with
  | zero =>
    intro i n k ts S x4 x8 x9 hi F hk hn h2 hg hl
    refine ⟨x4, x8, x9, n, ts, S, ?_, hn, hg, by omega⟩
    have h : ¬ i < 4 := by omega
    unfold mForL
    show (nxR 0 4 i S).bind _ = _
    unfold nxR
    rw [if_neg h, Option.bind_some]
  | succ m ih =>
    intro i n k ts S x4 x8 x9 hi F hk hn h2 hg hl
    have h : i < 4 := by omega
    obtain ⟨hk1, hk2⟩ := feed_bd hk h
    obtain ⟨y4, y9, n1, ts1, S1, e1, n1', b1, g1, l1, F1⟩ := turn2b_ok j F hk1 hn h2 (by omega) hg x0 x3 x4 x5 x6 x7 (some (.int (i : Int))) x9 x10 x11 x12
    obtain ⟨z4, z8, z9, n2, ts2, S2, e2, n2', g2, l2⟩ := ih (i + 1) n1 (k + 160000) ts1 S1 y4 (some (.int (i : Int))) y9 (by omega) F1 hk2 n1' b1 g1 (by omega)
    refine ⟨z4, z8, z9, n2, ts2, S2, ?_, n2', g2, l2⟩
    unfold mForL
    show (nxR 0 4 i S).bind _ = _
    unfold nxR
    rw [if_pos h, Option.bind_some]
    dsimp only
    have hz : (0 : Int) + (i : Int) = (i : Int) := by omega
    rw [hz]
    show (gN 8 _ _ S).bind _ = _
    unfold gN
    rw [Option.bind_some]
    dsimp only [List.set]
    rw [e1, Option.bind_some]
    exact e2
end K11
end

section
set_option Elab.async false
set_option linter.all false
set_option maxRecDepth 100000
set_option maxHeartbeats 800000
namespace K11
open PySem PySem.Spec PyProof.Rows L2 PL
def dueE : ME := mBlt gTuple (mCons (mLc (mItr (mBin ixA (mVar 4) (mC (.int 5)))) (gN 7) (asB (mBin (inA not) (mBin ixA (mVar 7) (mC (.int 0))) (mVar 11))) (mBin ixA (mVar 7) (mC (.int 0))) [7]) (mNil))
def keptS (C : Nat → MF) : MS := mAsg (mTup (mCons (mBlt gRepr (mCons (mVar 4) (mNil))) (mCons (mCall 1 (C 16) (mCons (mVar 4) (mNil))) (mNil)))) (gT 2 (gsC (gN 10) (gsC (gN 11) (gsN))))
def cond3 (C : Nat → MF) : MT := mOrT (asB (mBin dNe (mBlt gRepr (mCons (mCall 1 (C 1) (mCons (mVar 4) (mNil))) (mNil))) (mBlt gRepr (mCons (mVar 12) (mNil))))) (asB (mBin dNe (mBlt gRepr (mCons (mVar 4) (mNil))) (mVar 10)))
def loop3B (C : Nat → MF) : MS := mSeq (keptS C) (mSeq (mAsg dueE (gN 12)) (mIfS (cond3 C) (mRet (mC (.bl false))) (mNext)))
theorem in_lst {S : Sto} {n : Nat} {K : List Str} (h : S[n]? = some (Ob.lst (K.map D.str))) (y : Str) : inA not (.str y) (.ref n) S = some (.bl (decide (y ∉ K)), S) := by
  have hf : flatDs (K.map D.str) = some (K.map V.str) := by
    clear h
    induction K with
    | nil => rfl
    | cons x xs ih => simp [flatDs, flatD, ih]
  have hi : inV (.str y) (K.map V.str) = decide (y ∈ K) := by
    clear h hf
    unfold inV
    induction K with
    | nil => rfl
    | cons x xs ih =>
      rw [List.map_cons, List.any_cons, ih]
      have he : eqV (.str x) (.str y) = decide (x = y) := rfl
      rw [he]
      by_cases c : x = y
      · simp [c]
      · have c' : ¬ y = x := fun e => c e.symm
        simp [c, c']
  have hs : inSeq not (.str y) (.ref n) S = some (.bl (decide (y ∉ K)), S) := by
    simp [inSeq, flatD, seqD, seqAt, h, hf, hi]
  unfold inA
  rw [hs]
  rfl
def nameP (f : Str → Bool) : D → Bool
  | .tup (.str x :: _) => f x
  | _ => false
def fstD : D → D
  | .tup (d :: _) => d
  | d => d
theorem filter_scn (f : Str → Bool) (ss : List Scn) : ((ss.map Scn.toD).filter (nameP f)).map fstD = ((ss.map Scn.nm).filter f).map D.str := by
  induction ss with
  | nil => rfl
  | cons s ss ih =>
    rw [List.map_cons, List.map_cons, List.filter_cons, List.filter_cons]
    have : nameP f s.toD = f s.nm := rfl
    rw [this]
    by_cases c : f s.nm = true
    · rw [if_pos c, if_pos c, List.map_cons, List.map_cons, ih]
      rfl
    · rw [if_neg c, if_neg c, ih]
theorem dueE_ok {t : Tale} (w : t.Whole) {n : Nat} {K : List Str} {env : PL.Env} {S : Sto} (h4 : env[4]? = some (some t.toD)) (h11 : env[11]? = some (some (.ref n))) (hl : 7 < env.length) (hn : S[n]? = some (Ob.lst (K.map D.str))) :
    dueE env S = some (.tup ((t.names.filter fun x => decide (x ∉ K)).map D.str), S ++ [Ob.lst ((t.names.filter fun x => decide (x ∉ K)).map D.str)]) := by
  have hf := w.few
  have hz : 1000 ≤ sizeLine := by decide
  have wipe11 : ∀ d : D, ((wipeE env [7]).set 7 (some d))[11]? = some (some (.ref n)) := fun d => by
    rw [List.getElem?_set_ne (by omega)]
    show (env.set 7 none)[11]? = _
    rw [List.getElem?_set_ne (by omega)]
    exact h11
  have e := lc_tup (m := mBin ixA (mVar 4) (mC (.int 5))) (t := asB (mBin (inA not) (mBin ixA (mVar 7) (mC (.int 0))) (mVar 11))) (el := mBin ixA (mVar 7) (mC (.int 0))) (v := 7) (vs := [7]) (f := nameP fun x => decide (x ∉ K)) (g := fstD) (env := env) (S := S) (ss_ok t h4) (by rw [List.length_map]; omega)
    (fun x hx acc => by
      obtain ⟨s, _, rfl⟩ := List.mem_map.mp hx
      have hk : nameP (fun x => decide (x ∉ K)) s.toD = decide (s.nm ∉ K) := rfl
      have hi := in_lst (at_app (T := [Ob.lst acc]) hn) s.nm
      rw [hk]
      generalize decide (s.nm ∉ K) = b at hi ⊢
      generalize inA not = N at hi ⊢
      simp [asB, mBin, mVar, mC, wipe7 hl, scn0, wipe11, hi])
    (fun x hx _ acc => by
      obtain ⟨s, _, rfl⟩ := List.mem_map.mp hx
      simp [mBin, mVar, mC, wipe7 hl, scn0]
      rfl)
  rw [filter_scn] at e
  have et := tuple_new S ((t.names.filter fun x => decide (x ∉ K)).map D.str)
  have hnm : t.ss.map Scn.nm = t.names := rfl
  rw [hnm] at e
  generalize (t.names.filter fun x => decide (x ∉ K)).map D.str = R at e et ⊢
  unfold dueE
  generalize mLc (mItr (mBin ixA (mVar 4) (mC (.int 5)))) (gN 7) (asB (mBin (inA not) (mBin ixA (mVar 7) (mC (.int 0))) (mVar 11))) (mBin ixA (mVar 7) (mC (.int 0))) [7] = X at e ⊢
  simp [mBlt, mCons, mNil, e, et]
theorem ne_str (x : Str) (S : Sto) : dNe (.str x) (.str x) S = some (.bl false, S) := by
  simp [dNe, PL.alt, sEq]
theorem turn3_ok {t : Tale} (g : Good t) (j : Nat) (S : Sto) (x0 x1 x2 x3 x5 x6 x7 x8 x9 x10 x11 x12 : Option D) :
    ∃ y10 y11 y12 S', loop3B (lv (j + 2)) [x0, x1, x2, x3, some t.toD, x5, x6, x7, x8, x9, x10, x11, x12] S = some (.nx, [x0, x1, x2, x3, some t.toD, x5, x6, x7, x8, x9, y10, y11, y12], S') ∧ Kp S S' := by
  obtain ⟨w, p, hp⟩ := g
  have hr : ∀ T : Sto, gRepr [t.toD] T = some (.str p.shown, T) := fun T => Ok.repr hp (by decide) (by decide) T
  obtain ⟨n, K, S1, e1, n1, hK, _, _, k1⟩ := come_ok w (j + 1) S
  have e1' : lv (j + 2) 16 [t.toD] S = some (.ref n, S1) := e1
  have ek : keptS (lv (j + 2)) [x0, x1, x2, x3, some t.toD, x5, x6, x7, x8, x9, x10, x11, x12] S = some (.nx, [x0, x1, x2, x3, some t.toD, x5, x6, x7, x8, x9, some (.str p.shown), some (.ref n), x12], S1) := by
    have hr0 := hr S
    unfold keptS
    generalize gRepr = G at hr0 ⊢
    generalize lv (j + 2) = C at e1' ⊢
    simp [mBody, startE, mSeq, mAsg, mBin, mVar, mC, mCall, mCons, mNil, gN, mIfS, mIf, mTru, dTru, mRet, mTup, mAndT, mOrT, asB, dLt, dGt, dEq, sEq, PL.alt, iiI, iiB, mLst, newL, mNext, mNeg, mBlt, dSub, sz0, sz1, sz2, sz3, sz4, sz5, sz6, sz8, yd_some, hr0, e1', gT, gsC, gsN]
  have e2 := dueE_ok w (env := [x0, x1, x2, x3, some t.toD, x5, x6, x7, x8, x9, some (.str p.shown), some (.ref n), x12]) (S := S1) rfl rfl (by simp) n1
  obtain ⟨K2, S3, e3, hK2, k3⟩ := loose_ok w j (S1 ++ [Ob.lst ((t.names.filter fun x => decide (x ∉ K)).map D.str)])
  have hfe : (t.names.filter fun x => decide (x ∉ K2)) = t.names.filter fun x => decide (x ∉ K) := filter_iff fun x => (hK2 x).trans (hK x).symm
  rw [hfe] at e3
  have k2 : Kp S1 (S1 ++ [Ob.lst ((t.names.filter fun x => decide (x ∉ K)).map D.str)]) := Kp.new
  have hlen : (t.names.filter fun x => decide (x ∉ K)).length ≤ 8 := Nat.le_trans (List.length_filter_le ..) (names_few w)
  have hso : ∀ x ∈ (t.names.filter fun x => decide (x ∉ K)), okB 12 (.str x) = true := fun x hx => by
    have := w.ok x (List.mem_filter.mp hx).1
    simp [okN] at this
    exact this.1
  generalize (t.names.filter fun x => decide (x ∉ K)) = R at *
  obtain ⟨q, hq⟩ := ok_strs hso
  have hq2 : ∀ T : Sto, gRepr [.tup (R.map D.str)] T = some (.str q.shown, T) := fun T => Ok.repr hq (by
    have : 200 ≤ sizeLine := by decide
    omega) (by decide) T
  generalize S1 ++ [Ob.lst (R.map D.str)] = S2 at *
  refine ⟨some (.str p.shown), some (.ref n), some (.tup (R.map D.str)), S3, ?_, (k1.trans k2).trans k3⟩
  have ec : cond3 (lv (j + 2)) [x0, x1, x2, x3, some t.toD, x5, x6, x7, x8, x9, some (.str p.shown), some (.ref n), some (.tup (R.map D.str))] S2 = some (false, S3) := by
    have r1 := hq2 S3
    have r2 := hr S3
    have d1 := ne_str q.shown S3
    have d2 := ne_str p.shown S3
    unfold cond3
    generalize gRepr = G at r1 r2 ⊢
    generalize dNe = N at d1 d2 ⊢
    generalize lv (j + 2) = C at e3 ⊢
    generalize D.tup (R.map D.str) = dR at *
    simp [mOrT, asB, mBin, mCall, mCons, mNil, mVar, mBlt, e3, r1, d1, r2, d2]
  unfold loop3B
  generalize keptS (lv (j + 2)) = X1 at ek ⊢
  generalize dueE = X2 at e2 ⊢
  generalize cond3 (lv (j + 2)) = X3 at ec ⊢
  generalize t.toD = d1 at *
  generalize D.tup (R.map D.str) = d2 at *
  simp [mBody, startE, mSeq, mAsg, mBin, mVar, mC, mCall, mCons, mNil, gN, mIfS, mIf, mTru, dTru, mRet, mTup, mAndT, mOrT, asB, dLt, dGt, dEq, sEq, PL.alt, iiI, iiB, mLst, newL, mNext, mNeg, mBlt, dSub, sz0, sz1, sz2, sz3, sz4, sz5, sz6, sz8, yd_some, ek, e2, ec]
theorem loop3_ok (j : Nat) (x0 x1 x2 x3 x5 x6 x7 x8 x9 : Option D) {n : Nat} {ts : List Tale} (hg : ∀ t ∈ ts, Good t) : ∀ (us pre : List Tale) (i : Nat) (S : Sto) (x4 x10 x11 x12 : Option D), ts = pre ++ us → i = pre.length → S[n]? = some (Ob.lst (ts.map Tale.toD)) →
    ∃ y4 y10 y11 y12 S', mForL (nxL n) (gN 4) (loop3B (lv (j + 2))) (us.length + 1) i [x0, x1, x2, x3, x4, x5, x6, x7, x8, x9, x10, x11, x12] S = some (.nx, [x0, x1, x2, x3, y4, x5, x6, x7, x8, x9, y10, y11, y12], S') := by
  intro us
  induction us with
  | nil =>
    intro pre i S x4 x10 x11 x12 ht hi hn
    refine ⟨x4, x10, x11, x12, S, ?_⟩
    have h : (ts.map Tale.toD)[i]? = none := List.getElem?_eq_none (by rw [hi, ht]; simp)
    have e : nxL n i S = some none := by simp only [nxL, seqAt, hn, Option.bind_some, h]
    unfold mForL
    show (nxL n i S).bind _ = _
    rw [e, Option.bind_some]
  | cons t us ih =>
    intro pre i S x4 x10 x11 x12 ht hi hn
    have h : (ts.map Tale.toD)[i]? = some t.toD := by
      rw [hi, ht, List.map_append, List.getElem?_append_right (by simp)]
      simp
    have e : nxL n i S = some (some t.toD) := by simp only [nxL, seqAt, hn, Option.bind_some, h]
    obtain ⟨y10, y11, y12, S1, e1, k1⟩ := turn3_ok (hg t (by rw [ht]; simp)) j S x0 x1 x2 x3 x5 x6 x7 x8 x9 x10 x11 x12
    obtain ⟨z4, z10, z11, z12, S2, e2⟩ := ih (pre ++ [t]) (i + 1) S1 (some t.toD) y10 y11 y12 (by rw [ht]; simp) (by simp [hi]) (k1.keep _ _ hn)
    refine ⟨z4, z10, z11, z12, S2, ?_⟩
    unfold mForL
    rw [List.length_cons]
    show (nxL n i S).bind _ = _
    rw [e, Option.bind_some]
    dsimp only
    show (gN 4 _ _ S).bind _ = _
    unfold gN
    rw [Option.bind_some]
    dsimp only [List.set]
    rw [e1, Option.bind_some]
    exact e2
def oneE : ME := mTup (mCons (mTup (mNil)) (mCons (mTup (mNil)) (mCons (mTup (mNil)) (mCons (mTup (mNil)) (mCons (mTup (mNil)) (mCons (mTup (mCons (mTup (mCons (mC (.str (Str.ofString "a"))) (mCons (mTup (mNil)) (mCons (mTup (mNil)) (mCons (mTup (mNil)) (mCons (mC (.str (Str.ofString "x"))) (mNil))))))) (mNil))) (mCons (mC (.str (Str.ofString "a"))) (mNil))))))))
theorem m18_def (C : Nat → MF) : m18 C = mBody 13 (mSeq (mAsg (mCall 1 (C 3) (mCons (mVar 0) (mNil))) (gN 1)) (mSeq (mAsg (mLst (mCons oneE (mNil))) (gN 2)) (mSeq (mFor (mR1 (mCons (mC (.int 4)) (mNil))) (gN 3) (loop1B C)) (mSeq (mFor (mR1 (mCons (mC (.int 4)) (mNil))) (gN 8) (loop2B C)) (mSeq (mFor (mItr (mVar 2)) (gN 4) (loop3B C)) (mRet (mC (.bl true)))))))) := rfl
theorem feed_ok (j : Nat) (ns : List Int) (h : ns.length ≤ 63) : lv (j + 1) 3 [.ref 0] [Ob.cst (ns.map D.int)] = some (.ref 2, [Ob.cst (ns.map D.int), Ob.lst (ns.map D.int), Ob.lst [.ref 1, .int 0, .int 0, .int 0]]) := by
  have e4 := part_gen 63 (by decide +kernel) [some (.ref 0)] [Ob.cst (ns.map D.int)]
  have hc : PL.cutD (ns.map D.int) none (some 63) = ns.map D.int := by
    have := cut_to (ds := ns.map D.int) 63
    rw [List.take_of_length_le (by rw [List.length_map]; exact h)] at this
    exact this
  show m3 (lv j) [.ref 0] [Ob.cst (ns.map D.int)] = _
  unfold m3
  generalize mPart (mC (.int 63)) = Y at e4 ⊢
  simp [mBody, startE, mSeq, mAsg, mBin, mVar, mC, mCall, mCons, mNil, gN, mIfS, mIf, mTru, dTru, mRet, mTup, mAndT, mOrT, asB, dLt, dGt, dEq, sEq, PL.alt, iiI, iiB, mLst, newL, mNext, mNeg, mBlt, dSub, sz0, sz1, sz2, sz3, sz4, sz5, sz6, sz8, yd_some, List.replicate, mSl, mNo, e4, slA, seqAt, hc]
theorem r14 (env : PL.Env) (T : Sto) : mR1 (mCons (mC (.int 4)) (mNil)) env T = some ((4 + 1, nxR 0 4), T) := by
  simp only [mR1, mCons, mC, mNil, Option.bind_some, r1Of]
  rw [if_pos (by decide)]
  rfl
theorem hm : ∀ ns : List Int, ns.length ≤ 63 → ∃ S', lv 30 18 [.ref 0] [.cst (ns.map D.int)] = some (.bl true, S') := by
  intro ns hns
  have e0 : lv 29 3 [.ref 0] [Ob.cst (ns.map D.int)] = some (.ref 2, [Ob.cst (ns.map D.int), Ob.lst (ns.map D.int), Ob.lst [.ref 1, .int 0, .int 0, .int 0]]) := feed_ok 28 ns hns
  have F0 : FeedAt ns 0 [Ob.cst (ns.map D.int), Ob.lst (ns.map D.int), Ob.lst [.ref 1, .int 0, .int 0, .int 0], Ob.lst [oneT.toD]] := ⟨Ob.cst (ns.map D.int), 0, 0, 0, [Ob.lst [oneT.toD]], rfl, Nat.le_refl _⟩
  have n0 : ([Ob.cst (ns.map D.int), Ob.lst (ns.map D.int), Ob.lst [.ref 1, .int 0, .int 0, .int 0], Ob.lst [oneT.toD]] : Sto)[3]? = some (Ob.lst ([oneT].map Tale.toD)) := rfl
  have eo : mLst (mCons oneE (mNil)) [some (.ref 0), some (.ref 2), none, none, none, none, none, none, none, none, none, none, none] [Ob.cst (ns.map D.int), Ob.lst (ns.map D.int), Ob.lst [.ref 1, .int 0, .int 0, .int 0]] = some (.ref 3, [Ob.cst (ns.map D.int), Ob.lst (ns.map D.int), Ob.lst [.ref 1, .int 0, .int 0, .int 0], Ob.lst [oneT.toD]]) := by
    have h1 : ∀ (env : PL.Env) (T : Sto), oneE env T = some (oneT.toD, T) := fun env T => by
      have sz7 : 7 ≤ sizeLine := by decide
      have ho : oneT.toD = .tup [.tup [], .tup [], .tup [], .tup [], .tup [], .tup [.tup [.str (Str.ofString "a"), .tup [], .tup [], .tup [], .str (Str.ofString "x")]], .str (Str.ofString "a")] := rfl
      rw [ho]
      unfold oneE
      simp [mBody, startE, mSeq, mAsg, mBin, mVar, mC, mCall, mCons, mNil, gN, mIfS, mIf, mTru, dTru, mRet, mTup, mAndT, mOrT, asB, dLt, dGt, dEq, sEq, PL.alt, iiI, iiB, mLst, newL, mNext, mNeg, mBlt, dSub, sz0, sz1, sz2, sz3, sz4, sz5, sz6, sz8, yd_some, sz7]
    generalize oneE = X at h1 ⊢
    simp [mBody, startE, mSeq, mAsg, mBin, mVar, mC, mCall, mCons, mNil, gN, mIfS, mIf, mTru, dTru, mRet, mTup, mAndT, mOrT, asB, dLt, dGt, dEq, sEq, PL.alt, iiI, iiB, mLst, newL, mNext, mNeg, mBlt, dSub, sz0, sz1, sz2, sz3, sz4, sz5, sz6, sz8, yd_some, h1]
  generalize [Ob.cst (ns.map D.int), Ob.lst (ns.map D.int), Ob.lst [.ref 1, .int 0, .int 0, .int 0], Ob.lst [oneT.toD]] = S0 at F0 n0 eo
  obtain ⟨y3, y4, y5, y6, n1, ts1, S1, e1, n1', b1, g1, l1, k1⟩ := loop1_ok 27 (some (.ref 0)) (some (.ref 2)) none none none none none none 4 0 3 [oneT] S0 none none none none rfl n0 (by decide) (by
    intro t ht
    rw [List.mem_singleton] at ht
    rw [ht]
    exact one_good) rfl
  have F1 : FeedAt ns 0 S1 := by
    obtain ⟨x0, a, b, n, rest, rfl, hn⟩ := F0
    have q0 := k1.keep 0 _ rfl
    have q1 := k1.keep 1 _ rfl
    have q2 := k1.keep 2 _ rfl
    match S1, q0, q1, q2 with
    | a0 :: a1 :: a2 :: r, q0, q1, q2 =>
      have z0 : a0 = x0 := Option.some.inj q0
      have z1 : a1 = Ob.lst (ns.map D.int) := Option.some.inj q1
      have z2 : a2 = Ob.lst [.ref 1, .int a, .int b, .int n] := Option.some.inj q2
      rw [z0, z1, z2]
      exact ⟨x0, a, b, n, r, rfl, hn⟩
  obtain ⟨u4, u8, u9, n2, ts2, S2, e2, n2', g2, l2⟩ := loop2b_ok 15 (some (.ref 0)) y3 y5 y6 none none none none 4 0 n1 0 ts1 S1 y4 none none rfl F1 (by decide) n1' b1 g1 (by omega)
  obtain ⟨v4, v10, v11, v12, S3, e3⟩ := loop3_ok 27 (some (.ref 0)) (some (.ref 2)) (some (.ref n2)) y3 y5 y6 none u8 u9 (n := n2) g2 ts2 [] 0 S2 u4 none none none rfl rfl n2'
  refine ⟨S3, ?_⟩
  show m18 (lv 29) [.ref 0] [.cst (ns.map D.int)] = _
  rw [m18_def]
  have f1 : mFor (mR1 (mCons (mC (.int 4)) (mNil))) (gN 3) (loop1B (lv 29)) [some (.ref 0), some (.ref 2), some (.ref 3), none, none, none, none, none, none, none, none, none, none] S0 = some (.nx, [some (.ref 0), some (.ref 2), some (.ref n1), y3, y4, y5, y6, none, none, none, none, none, none], S1) := by
    unfold mFor
    rw [r14, Option.bind_some]
    exact e1
  have f2 : mFor (mR1 (mCons (mC (.int 4)) (mNil))) (gN 8) (loop2B (lv 29)) [some (.ref 0), some (.ref 2), some (.ref n1), y3, y4, y5, y6, none, none, none, none, none, none] S1 = some (.nx, [some (.ref 0), some (.ref 2), some (.ref n2), y3, u4, y5, y6, none, u8, u9, none, none, none], S2) := by
    unfold mFor
    rw [r14, Option.bind_some]
    exact e2
  have f3 : mFor (mItr (mVar 2)) (gN 4) (loop3B (lv 29)) [some (.ref 0), some (.ref 2), some (.ref n2), y3, u4, y5, y6, none, u8, u9, none, none, none] S2 = some (.nx, [some (.ref 0), some (.ref 2), some (.ref n2), y3, v4, y5, y6, none, u8, u9, v10, v11, v12], S3) := by
    have hi : mItr (mVar 2) [some (.ref 0), some (.ref 2), some (.ref n2), y3, u4, y5, y6, none, u8, u9, none, none, none] S2 = some ((ts2.length + 1, nxL n2), S2) := by
      simp [mItr, mVar, itrOf, seqAt, n2']
    unfold mFor
    rw [hi, Option.bind_some]
    exact e3
  generalize mFor (mR1 (mCons (mC (.int 4)) (mNil))) (gN 3) (loop1B (lv 29)) = X1 at f1 ⊢
  generalize mFor (mR1 (mCons (mC (.int 4)) (mNil))) (gN 8) (loop2B (lv 29)) = X2 at f2 ⊢
  generalize mFor (mItr (mVar 2)) (gN 4) (loop3B (lv 29)) = X3 at f3 ⊢
  generalize mLst (mCons oneE (mNil)) = X4 at eo ⊢
  generalize lv 29 = C at e0 ⊢
  simp [mBody, startE, mSeq, mAsg, mBin, mVar, mC, mCall, mCons, mNil, gN, mIfS, mIf, mTru, dTru, mRet, mTup, mAndT, mOrT, asB, dLt, dGt, dEq, sEq, PL.alt, iiI, iiB, mLst, newL, mNext, mNeg, mBlt, dSub, sz0, sz1, sz2, sz3, sz4, sz5, sz6, sz8, yd_some, List.replicate, e0, eo, f1, f2, f3]
end K11
end

section
set_option Elab.async false
set_option linter.all false
set_option maxRecDepth 100000
set_option maxHeartbeats 0
namespace K11
open PySem PySem.Spec PyProof.Rows L2 PL
section
variable {w : World} {K : PySem.W.Frag} {h : Heap} {mg : Str → Option Value} {fa : Addr} {l : PySem.W.OpenLaw}
theorem fin_mk (X : K.In h) (G : h.Ns mainGlobals mg) (hfa : mg (Str.ofString "law") = some (.ref fa))
  {f0 : Addr} {od0 an0 : Option Addr} {sl0 : Array (Option Value)} {oc0 kV0 dc0 pm0 cd0 ct0 : Value}
  {f1 : Addr} {od1 an1 : Option Addr} {sl1 : Array (Option Value)} {oc1 kV1 dc1 pm1 cd1 ct1 : Value}
  {f2 : Addr} {od2 an2 : Option Addr} {sl2 : Array (Option Value)} {oc2 kV2 dc2 pm2 cd2 ct2 : Value}
  {f3 : Addr} {od3 an3 : Option Addr} {sl3 : Array (Option Value)} {oc3 kV3 dc3 pm3 cd3 ct3 : Value}
  {f4 : Addr} {od4 an4 : Option Addr} {sl4 : Array (Option Value)} {oc4 kV4 dc4 pm4 cd4 ct4 : Value}
  {f5 : Addr} {od5 an5 : Option Addr} {sl5 : Array (Option Value)} {oc5 kV5 dc5 pm5 cd5 ct5 : Value}
  {f6 : Addr} {od6 an6 : Option Addr} {sl6 : Array (Option Value)} {oc6 kV6 dc6 pm6 cd6 ct6 : Value}
  {f7 : Addr} {od7 an7 : Option Addr} {sl7 : Array (Option Value)} {oc7 kV7 dc7 pm7 cd7 ct7 : Value}
  {f8 : Addr} {od8 an8 : Option Addr} {sl8 : Array (Option Value)} {oc8 kV8 dc8 pm8 cd8 ct8 : Value}
  {f9 : Addr} {od9 an9 : Option Addr} {sl9 : Array (Option Value)} {oc9 kV9 dc9 pm9 cd9 ct9 : Value}
  {f10 : Addr} {od10 an10 : Option Addr} {sl10 : Array (Option Value)} {oc10 kV10 dc10 pm10 cd10 ct10 : Value}
  {f11 : Addr} {od11 an11 : Option Addr} {sl11 : Array (Option Value)} {oc11 kV11 dc11 pm11 cd11 ct11 : Value}
  {f12 : Addr} {od12 an12 : Option Addr} {sl12 : Array (Option Value)} {oc12 kV12 dc12 pm12 cd12 ct12 : Value}
  {f13 : Addr} {od13 an13 : Option Addr} {sl13 : Array (Option Value)} {oc13 kV13 dc13 pm13 cd13 ct13 : Value}
  {f14 : Addr} {od14 an14 : Option Addr} {sl14 : Array (Option Value)} {oc14 kV14 dc14 pm14 cd14 ct14 : Value}
  {f15 : Addr} {od15 an15 : Option Addr} {sl15 : Array (Option Value)} {oc15 kV15 dc15 pm15 cd15 ct15 : Value}
  {f16 : Addr} {od16 an16 : Option Addr} {sl16 : Array (Option Value)} {oc16 kV16 dc16 pm16 cd16 ct16 : Value}
  {f17 : Addr} {od17 an17 : Option Addr} {sl17 : Array (Option Value)} {oc17 kV17 dc17 pm17 cd17 ct17 : Value}
  {f18 : Addr} {od18 an18 : Option Addr} {sl18 : Array (Option Value)} {oc18 kV18 dc18 pm18 cd18 ct18 : Value}
  (a0 : PySem.W.nsIn K mainGlobals (Str.ofString "scenes_by_name") = some (some (.ref f0))) (l0 : K.lookup f0 = some ⟨oc0, od0, .func (PySem.W.fnOf (Str.ofString "scenes_by_name") (Str.ofString "scenes_by_name") (defArgs s0) (defBody s0) (defScope s0) .none kV0 dc0 pm0 an0 cd0 ct0), sl0⟩) (c0 : PySem.W.codeIn K cd0 (Str.ofString "scenes_by_name") = true) (k0 : PySem.W.keepIn K (.ref f0) = true)
  (a1 : PySem.W.nsIn K mainGlobals (Str.ofString "loose_ends") = some (some (.ref f1))) (l1 : K.lookup f1 = some ⟨oc1, od1, .func (PySem.W.fnOf (Str.ofString "loose_ends") (Str.ofString "loose_ends") (defArgs s1) (defBody s1) (defScope s1) .none kV1 dc1 pm1 an1 cd1 ct1), sl1⟩) (c1 : PySem.W.codeIn K cd1 (Str.ofString "loose_ends") = true) (k1 : PySem.W.keepIn K (.ref f1) = true)
  (a2 : PySem.W.nsIn K mainGlobals (Str.ofString "_led_to") = some (some (.ref f2))) (l2 : K.lookup f2 = some ⟨oc2, od2, .func (PySem.W.fnOf (Str.ofString "_led_to") (Str.ofString "_led_to") (defArgs s2) (defBody s2) (defScope s2) .none kV2 dc2 pm2 an2 cd2 ct2), sl2⟩) (c2 : PySem.W.codeIn K cd2 (Str.ofString "_led_to") = true) (k2 : PySem.W.keepIn K (.ref f2) = true)
  (a3 : PySem.W.nsIn K mainGlobals (Str.ofString "_law_feed") = some (some (.ref f3))) (l3 : K.lookup f3 = some ⟨oc3, od3, .func (PySem.W.fnOf (Str.ofString "_law_feed") (Str.ofString "_law_feed") (defArgs s3) (defBody s3) (defScope s3) .none kV3 dc3 pm3 an3 cd3 ct3), sl3⟩) (c3 : PySem.W.codeIn K cd3 (Str.ofString "_law_feed") = true) (k3 : PySem.W.keepIn K (.ref f3) = true)
  (a4 : PySem.W.nsIn K mainGlobals (Str.ofString "_law_draw") = some (some (.ref f4))) (l4 : K.lookup f4 = some ⟨oc4, od4, .func (PySem.W.fnOf (Str.ofString "_law_draw") (Str.ofString "_law_draw") (defArgs s4) (defBody s4) (defScope s4) .none kV4 dc4 pm4 an4 cd4 ct4), sl4⟩) (c4 : PySem.W.codeIn K cd4 (Str.ofString "_law_draw") = true) (k4 : PySem.W.keepIn K (.ref f4) = true)
  (a5 : PySem.W.nsIn K mainGlobals (Str.ofString "_law_pick") = some (some (.ref f5))) (l5 : K.lookup f5 = some ⟨oc5, od5, .func (PySem.W.fnOf (Str.ofString "_law_pick") (Str.ofString "_law_pick") (defArgs s5) (defBody s5) (defScope s5) .none kV5 dc5 pm5 an5 cd5 ct5), sl5⟩) (c5 : PySem.W.codeIn K cd5 (Str.ofString "_law_pick") = true) (k5 : PySem.W.keepIn K (.ref f5) = true)
  (a6 : PySem.W.nsIn K mainGlobals (Str.ofString "_law_spent") = some (some (.ref f6))) (l6 : K.lookup f6 = some ⟨oc6, od6, .func (PySem.W.fnOf (Str.ofString "_law_spent") (Str.ofString "_law_spent") (defArgs s6) (defBody s6) (defScope s6) .none kV6 dc6 pm6 an6 cd6 ct6), sl6⟩) (c6 : PySem.W.codeIn K cd6 (Str.ofString "_law_spent") = true) (k6 : PySem.W.keepIn K (.ref f6) = true)
  (a7 : PySem.W.nsIn K mainGlobals (Str.ofString "_law_sum") = some (some (.ref f7))) (l7 : K.lookup f7 = some ⟨oc7, od7, .func (PySem.W.fnOf (Str.ofString "_law_sum") (Str.ofString "_law_sum") (defArgs s7) (defBody s7) (defScope s7) .none kV7 dc7 pm7 an7 cd7 ct7), sl7⟩) (c7 : PySem.W.codeIn K cd7 (Str.ofString "_law_sum") = true) (k7 : PySem.W.keepIn K (.ref f7) = true)
  (a8 : PySem.W.nsIn K mainGlobals (Str.ofString "_law_test") = some (some (.ref f8))) (l8 : K.lookup f8 = some ⟨oc8, od8, .func (PySem.W.fnOf (Str.ofString "_law_test") (Str.ofString "_law_test") (defArgs s8) (defBody s8) (defScope s8) .none kV8 dc8 pm8 an8 cd8 ct8), sl8⟩) (c8 : PySem.W.codeIn K cd8 (Str.ofString "_law_test") = true) (k8 : PySem.W.keepIn K (.ref f8) = true)
  (a9 : PySem.W.nsIn K mainGlobals (Str.ofString "_law_pieces") = some (some (.ref f9))) (l9 : K.lookup f9 = some ⟨oc9, od9, .func (PySem.W.fnOf (Str.ofString "_law_pieces") (Str.ofString "_law_pieces") (defArgs s9) (defBody s9) (defScope s9) .none kV9 dc9 pm9 an9 cd9 ct9), sl9⟩) (c9 : PySem.W.codeIn K cd9 (Str.ofString "_law_pieces") = true) (k9 : PySem.W.keepIn K (.ref f9) = true)
  (a10 : PySem.W.nsIn K mainGlobals (Str.ofString "_law_piece") = some (some (.ref f10))) (l10 : K.lookup f10 = some ⟨oc10, od10, .func (PySem.W.fnOf (Str.ofString "_law_piece") (Str.ofString "_law_piece") (defArgs s10) (defBody s10) (defScope s10) .none kV10 dc10 pm10 an10 cd10 ct10), sl10⟩) (c10 : PySem.W.codeIn K cd10 (Str.ofString "_law_piece") = true) (k10 : PySem.W.keepIn K (.ref f10) = true)
  (a11 : PySem.W.nsIn K mainGlobals (Str.ofString "_law_act") = some (some (.ref f11))) (l11 : K.lookup f11 = some ⟨oc11, od11, .func (PySem.W.fnOf (Str.ofString "_law_act") (Str.ofString "_law_act") (defArgs s11) (defBody s11) (defScope s11) .none kV11 dc11 pm11 an11 cd11 ct11), sl11⟩) (c11 : PySem.W.codeIn K cd11 (Str.ofString "_law_act") = true) (k11 : PySem.W.keepIn K (.ref f11) = true)
  (a12 : PySem.W.nsIn K mainGlobals (Str.ofString "_law_next") = some (some (.ref f12))) (l12 : K.lookup f12 = some ⟨oc12, od12, .func (PySem.W.fnOf (Str.ofString "_law_next") (Str.ofString "_law_next") (defArgs s12) (defBody s12) (defScope s12) .none kV12 dc12 pm12 an12 cd12 ct12), sl12⟩) (c12 : PySem.W.codeIn K cd12 (Str.ofString "_law_next") = true) (k12 : PySem.W.keepIn K (.ref f12) = true)
  (a13 : PySem.W.nsIn K mainGlobals (Str.ofString "_law_choice") = some (some (.ref f13))) (l13 : K.lookup f13 = some ⟨oc13, od13, .func (PySem.W.fnOf (Str.ofString "_law_choice") (Str.ofString "_law_choice") (defArgs s13) (defBody s13) (defScope s13) .none kV13 dc13 pm13 an13 cd13 ct13), sl13⟩) (c13 : PySem.W.codeIn K cd13 (Str.ofString "_law_choice") = true) (k13 : PySem.W.keepIn K (.ref f13) = true)
  (a14 : PySem.W.nsIn K mainGlobals (Str.ofString "_law_scene") = some (some (.ref f14))) (l14 : K.lookup f14 = some ⟨oc14, od14, .func (PySem.W.fnOf (Str.ofString "_law_scene") (Str.ofString "_law_scene") (defArgs s14) (defBody s14) (defScope s14) .none kV14 dc14 pm14 an14 cd14 ct14), sl14⟩) (c14 : PySem.W.codeIn K cd14 (Str.ofString "_law_scene") = true) (k14 : PySem.W.keepIn K (.ref f14) = true)
  (a15 : PySem.W.nsIn K mainGlobals (Str.ofString "_law_tale") = some (some (.ref f15))) (l15 : K.lookup f15 = some ⟨oc15, od15, .func (PySem.W.fnOf (Str.ofString "_law_tale") (Str.ofString "_law_tale") (defArgs s15) (defBody s15) (defScope s15) .none kV15 dc15 pm15 an15 cd15 ct15), sl15⟩) (c15 : PySem.W.codeIn K cd15 (Str.ofString "_law_tale") = true) (k15 : PySem.W.keepIn K (.ref f15) = true)
  (a16 : PySem.W.nsIn K mainGlobals (Str.ofString "_law_come_to") = some (some (.ref f16))) (l16 : K.lookup f16 = some ⟨oc16, od16, .func (PySem.W.fnOf (Str.ofString "_law_come_to") (Str.ofString "_law_come_to") (defArgs s16) (defBody s16) (defScope s16) .none kV16 dc16 pm16 an16 cd16 ct16), sl16⟩) (c16 : PySem.W.codeIn K cd16 (Str.ofString "_law_come_to") = true) (k16 : PySem.W.keepIn K (.ref f16) = true)
  (a17 : PySem.W.nsIn K mainGlobals (Str.ofString "_law_chain") = some (some (.ref f17))) (l17 : K.lookup f17 = some ⟨oc17, od17, .func (PySem.W.fnOf (Str.ofString "_law_chain") (Str.ofString "_law_chain") (defArgs s17) (defBody s17) (defScope s17) .none kV17 dc17 pm17 an17 cd17 ct17), sl17⟩) (c17 : PySem.W.codeIn K cd17 (Str.ofString "_law_chain") = true) (k17 : PySem.W.keepIn K (.ref f17) = true)
  (a18 : PySem.W.nsIn K mainGlobals (Str.ofString "law") = some (some (.ref f18))) (l18 : K.lookup f18 = some ⟨oc18, od18, .func (PySem.W.fnOf (Str.ofString "law") (Str.ofString "law") (defArgs s18) (defBody s18) (defScope s18) .none kV18 dc18 pm18 an18 cd18 ct18), sl18⟩) (c18 : PySem.W.codeIn K cd18 (Str.ofString "law") = true) (k18 : PySem.W.keepIn K (.ref f18) = true)
  (z_dict : PySem.W.nsIn K mainGlobals (Str.ofString "dict") = some none) (z_enumerate : PySem.W.nsIn K mainGlobals (Str.ofString "enumerate") = some none) (z_len : PySem.W.nsIn K mainGlobals (Str.ofString "len") = some none) (z_list : PySem.W.nsIn K mainGlobals (Str.ofString "list") = some none) (z_range : PySem.W.nsIn K mainGlobals (Str.ofString "range") = some none) (z_repr : PySem.W.nsIn K mainGlobals (Str.ofString "repr") = some none) (z_set : PySem.W.nsIn K mainGlobals (Str.ofString "set") = some none) (z_sorted : PySem.W.nsIn K mainGlobals (Str.ofString "sorted") = some none) (z_tuple : PySem.W.nsIn K mainGlobals (Str.ofString "tuple") = some none)  :
  ∃ fd : FuncData, Binds K fd (dP 18) [] ∧ ∀ base : Heap, K.In base → base.Ns mainGlobals mg → FnG l.prog w K mg base 30 fa fd (dP 18) (spM K mg (dN 18) (lv 30 18)) := by
  have e := hfa.symm.trans (PySem.W.mg_of X G a18)
  cases e
  have F0 := fun_mk (st := s0) l0 c0 k0
  have b0 := F0.binds (ps := P0) fun _ _ _ _ _ _ us hl => match us, hl with | [_], _ => rfl
  have F1 := fun_mk (st := s1) l1 c1 k1
  have b1 := F1.binds (ps := P1) fun _ _ _ _ _ _ us hl => match us, hl with | [_], _ => rfl
  have F2 := fun_mk (st := s2) l2 c2 k2
  have b2 := F2.binds (ps := P2) fun _ _ _ _ _ _ us hl => match us, hl with | [_], _ => rfl
  have F3 := fun_mk (st := s3) l3 c3 k3
  have b3 := F3.binds (ps := P3) fun _ _ _ _ _ _ us hl => match us, hl with | [_], _ => rfl
  have F4 := fun_mk (st := s4) l4 c4 k4
  have b4 := F4.binds (ps := P4) fun _ _ _ _ _ _ us hl => match us, hl with | [_, _], _ => rfl
  have F5 := fun_mk (st := s5) l5 c5 k5
  have b5 := F5.binds (ps := P5) fun _ _ _ _ _ _ us hl => match us, hl with | [_, _], _ => rfl
  have F6 := fun_mk (st := s6) l6 c6 k6
  have b6 := F6.binds (ps := P6) fun _ _ _ _ _ _ us hl => match us, hl with | [_], _ => rfl
  have F7 := fun_mk (st := s7) l7 c7 k7
  have b7 := F7.binds (ps := P7) fun _ _ _ _ _ _ us hl => match us, hl with | [_, _, _], _ => rfl
  have F8 := fun_mk (st := s8) l8 c8 k8
  have b8 := F8.binds (ps := P8) fun _ _ _ _ _ _ us hl => match us, hl with | [_, _, _], _ => rfl
  have F9 := fun_mk (st := s9) l9 c9 k9
  have b9 := F9.binds (ps := P9) fun _ _ _ _ _ _ us hl => match us, hl with | [_, _, _, _], _ => rfl
  have F10 := fun_mk (st := s10) l10 c10 k10
  have b10 := F10.binds (ps := P10) fun _ _ _ _ _ _ us hl => match us, hl with | [_, _, _, _], _ => rfl
  have F11 := fun_mk (st := s11) l11 c11 k11
  have b11 := F11.binds (ps := P11) fun _ _ _ _ _ _ us hl => match us, hl with | [_, _], _ => rfl
  have F12 := fun_mk (st := s12) l12 c12 k12
  have b12 := F12.binds (ps := P12) fun _ _ _ _ _ _ us hl => match us, hl with | [_, _], _ => rfl
  have F13 := fun_mk (st := s13) l13 c13 k13
  have b13 := F13.binds (ps := P13) fun _ _ _ _ _ _ us hl => match us, hl with | [_, _, _], _ => rfl
  have F14 := fun_mk (st := s14) l14 c14 k14
  have b14 := F14.binds (ps := P14) fun _ _ _ _ _ _ us hl => match us, hl with | [_, _, _], _ => rfl
  have F15 := fun_mk (st := s15) l15 c15 k15
  have b15 := F15.binds (ps := P15) fun _ _ _ _ _ _ us hl => match us, hl with | [_, _], _ => rfl
  have F16 := fun_mk (st := s16) l16 c16 k16
  have b16 := F16.binds (ps := P16) fun _ _ _ _ _ _ us hl => match us, hl with | [_], _ => rfl
  have F17 := fun_mk (st := s17) l17 c17 k17
  have b17 := F17.binds (ps := P17) fun _ _ _ _ _ _ us hl => match us, hl with | [_], _ => rfl
  have F18 := fun_mk (st := s18) l18 c18 k18
  have b18 := F18.binds (ps := P18) fun _ _ _ _ _ _ us hl => match us, hl with | [_], _ => rfl
  let ff : Nat → Addr := (fun i => match i with | 0 => f0 | 1 => f1 | 2 => f2 | 3 => f3 | 4 => f4 | 5 => f5 | 6 => f6 | 7 => f7 | 8 => f8 | 9 => f9 | 10 => f10 | 11 => f11 | 12 => f12 | 13 => f13 | 14 => f14 | 15 => f15 | 16 => f16 | 17 => f17 | 18 => fa | _ => f0)
  let fd : Nat → FuncData := (fun i => match i with | 0 => PySem.W.fnOf (Str.ofString "scenes_by_name") (Str.ofString "scenes_by_name") (defArgs s0) (defBody s0) (defScope s0) .none kV0 dc0 pm0 an0 cd0 ct0 | 1 => PySem.W.fnOf (Str.ofString "loose_ends") (Str.ofString "loose_ends") (defArgs s1) (defBody s1) (defScope s1) .none kV1 dc1 pm1 an1 cd1 ct1 | 2 => PySem.W.fnOf (Str.ofString "_led_to") (Str.ofString "_led_to") (defArgs s2) (defBody s2) (defScope s2) .none kV2 dc2 pm2 an2 cd2 ct2 | 3 => PySem.W.fnOf (Str.ofString "_law_feed") (Str.ofString "_law_feed") (defArgs s3) (defBody s3) (defScope s3) .none kV3 dc3 pm3 an3 cd3 ct3 | 4 => PySem.W.fnOf (Str.ofString "_law_draw") (Str.ofString "_law_draw") (defArgs s4) (defBody s4) (defScope s4) .none kV4 dc4 pm4 an4 cd4 ct4 | 5 => PySem.W.fnOf (Str.ofString "_law_pick") (Str.ofString "_law_pick") (defArgs s5) (defBody s5) (defScope s5) .none kV5 dc5 pm5 an5 cd5 ct5 | 6 => PySem.W.fnOf (Str.ofString "_law_spent") (Str.ofString "_law_spent") (defArgs s6) (defBody s6) (defScope s6) .none kV6 dc6 pm6 an6 cd6 ct6 | 7 => PySem.W.fnOf (Str.ofString "_law_sum") (Str.ofString "_law_sum") (defArgs s7) (defBody s7) (defScope s7) .none kV7 dc7 pm7 an7 cd7 ct7 | 8 => PySem.W.fnOf (Str.ofString "_law_test") (Str.ofString "_law_test") (defArgs s8) (defBody s8) (defScope s8) .none kV8 dc8 pm8 an8 cd8 ct8 | 9 => PySem.W.fnOf (Str.ofString "_law_pieces") (Str.ofString "_law_pieces") (defArgs s9) (defBody s9) (defScope s9) .none kV9 dc9 pm9 an9 cd9 ct9 | 10 => PySem.W.fnOf (Str.ofString "_law_piece") (Str.ofString "_law_piece") (defArgs s10) (defBody s10) (defScope s10) .none kV10 dc10 pm10 an10 cd10 ct10 | 11 => PySem.W.fnOf (Str.ofString "_law_act") (Str.ofString "_law_act") (defArgs s11) (defBody s11) (defScope s11) .none kV11 dc11 pm11 an11 cd11 ct11 | 12 => PySem.W.fnOf (Str.ofString "_law_next") (Str.ofString "_law_next") (defArgs s12) (defBody s12) (defScope s12) .none kV12 dc12 pm12 an12 cd12 ct12 | 13 => PySem.W.fnOf (Str.ofString "_law_choice") (Str.ofString "_law_choice") (defArgs s13) (defBody s13) (defScope s13) .none kV13 dc13 pm13 an13 cd13 ct13 | 14 => PySem.W.fnOf (Str.ofString "_law_scene") (Str.ofString "_law_scene") (defArgs s14) (defBody s14) (defScope s14) .none kV14 dc14 pm14 an14 cd14 ct14 | 15 => PySem.W.fnOf (Str.ofString "_law_tale") (Str.ofString "_law_tale") (defArgs s15) (defBody s15) (defScope s15) .none kV15 dc15 pm15 an15 cd15 ct15 | 16 => PySem.W.fnOf (Str.ofString "_law_come_to") (Str.ofString "_law_come_to") (defArgs s16) (defBody s16) (defScope s16) .none kV16 dc16 pm16 an16 cd16 ct16 | 17 => PySem.W.fnOf (Str.ofString "_law_chain") (Str.ofString "_law_chain") (defArgs s17) (defBody s17) (defScope s17) .none kV17 dc17 pm17 an17 cd17 ct17 | 18 => PySem.W.fnOf (Str.ofString "law") (Str.ofString "law") (defArgs s18) (defBody s18) (defScope s18) .none kV18 dc18 pm18 an18 cd18 ct18 | _ => PySem.W.fnOf (Str.ofString "scenes_by_name") (Str.ofString "scenes_by_name") (defArgs s0) (defBody s0) (defScope s0) .none kV0 dc0 pm0 an0 cd0 ct0)
  have T : Txt K mg ff fd := { d := ?_, b_dict := PySem.W.mg_none_of X G z_dict, b_enumerate := PySem.W.mg_none_of X G z_enumerate, b_len := PySem.W.mg_none_of X G z_len, b_list := PySem.W.mg_none_of X G z_list, b_range := PySem.W.mg_none_of X G z_range, b_repr := PySem.W.mg_none_of X G z_repr, b_set := PySem.W.mg_none_of X G z_set, b_sorted := PySem.W.mg_none_of X G z_sorted, b_tuple := PySem.W.mg_none_of X G z_tuple }
  · refine ⟨fd 18, b18, fun base _ _ => all_ok T 30 18 (by decide)⟩
  · intro i hi
    match i, hi with
    | 0, _ => exact ⟨F0, PySem.W.mg_of X G a0, b0⟩
    | 1, _ => exact ⟨F1, PySem.W.mg_of X G a1, b1⟩
    | 2, _ => exact ⟨F2, PySem.W.mg_of X G a2, b2⟩
    | 3, _ => exact ⟨F3, PySem.W.mg_of X G a3, b3⟩
    | 4, _ => exact ⟨F4, PySem.W.mg_of X G a4, b4⟩
    | 5, _ => exact ⟨F5, PySem.W.mg_of X G a5, b5⟩
    | 6, _ => exact ⟨F6, PySem.W.mg_of X G a6, b6⟩
    | 7, _ => exact ⟨F7, PySem.W.mg_of X G a7, b7⟩
    | 8, _ => exact ⟨F8, PySem.W.mg_of X G a8, b8⟩
    | 9, _ => exact ⟨F9, PySem.W.mg_of X G a9, b9⟩
    | 10, _ => exact ⟨F10, PySem.W.mg_of X G a10, b10⟩
    | 11, _ => exact ⟨F11, PySem.W.mg_of X G a11, b11⟩
    | 12, _ => exact ⟨F12, PySem.W.mg_of X G a12, b12⟩
    | 13, _ => exact ⟨F13, PySem.W.mg_of X G a13, b13⟩
    | 14, _ => exact ⟨F14, PySem.W.mg_of X G a14, b14⟩
    | 15, _ => exact ⟨F15, PySem.W.mg_of X G a15, b15⟩
    | 16, _ => exact ⟨F16, PySem.W.mg_of X G a16, b16⟩
    | 17, _ => exact ⟨F17, PySem.W.mg_of X G a17, b17⟩
    | 18, _ => exact ⟨F18, PySem.W.mg_of X G a18, b18⟩
    | n + 19, h => exact absurd h (by omega)
end
end K11
open PySem PySem.W PyProof.Rows
set_option maxHeartbeats 0 in
theorem PySem.Challenge.cw_forktales_k11_loose_ends_told_holds : PySem.Challenge.rw_forktales_k11_loose_ends_told.Holds := by
  w_on; o_law; k_head; (case hw => w_witness2)
  k_fill
  refine PL.law_end (l := PySem.Challenge.rw_forktales_k11_loose_ends_told) (n := 63) (k := 30) (x := (Str.ofString "_law_script")) (m := K11.lv 30 18) rfl (by decide) rfl ⟨rfl, by decide, by decide⟩ (fun w h Y => PySem.W.kIn_of Y) ?F K11.hm
  case F =>
    intro w mg fa h KX G hmg
    refine' K11.fin_mk KX G hmg ?a0 ?l0 ?c0 ?k0 ?a1 ?l1 ?c1 ?k1 ?a2 ?l2 ?c2 ?k2 ?a3 ?l3 ?c3 ?k3 ?a4 ?l4 ?c4 ?k4 ?a5 ?l5 ?c5 ?k5 ?a6 ?l6 ?c6 ?k6 ?a7 ?l7 ?c7 ?k7 ?a8 ?l8 ?c8 ?k8 ?a9 ?l9 ?c9 ?k9 ?a10 ?l10 ?c10 ?k10 ?a11 ?l11 ?c11 ?k11 ?a12 ?l12 ?c12 ?k12 ?a13 ?l13 ?c13 ?k13 ?a14 ?l14 ?c14 ?k14 ?a15 ?l15 ?c15 ?k15 ?a16 ?l16 ?c16 ?k16 ?a17 ?l17 ?c17 ?k17 ?a18 ?l18 ?c18 ?k18 ?z_dict ?z_enumerate ?z_len ?z_list ?z_range ?z_repr ?z_set ?z_sorted ?z_tuple
    (case a0 => k_is); (case l0 => k_is); (case c0 => k_is); (case k0 => k_is); (case a1 => k_is); (case l1 => k_is); (case c1 => k_is); (case k1 => k_is); (case a2 => k_is); (case l2 => k_is); (case c2 => k_is); (case k2 => k_is); (case a3 => k_is); (case l3 => k_is); (case c3 => k_is); (case k3 => k_is); (case a4 => k_is); (case l4 => k_is); (case c4 => k_is); (case k4 => k_is); (case a5 => k_is); (case l5 => k_is); (case c5 => k_is); (case k5 => k_is); (case a6 => k_is); (case l6 => k_is); (case c6 => k_is); (case k6 => k_is); (case a7 => k_is); (case l7 => k_is); (case c7 => k_is); (case k7 => k_is); (case a8 => k_is); (case l8 => k_is); (case c8 => k_is); (case k8 => k_is); (case a9 => k_is); (case l9 => k_is); (case c9 => k_is); (case k9 => k_is); (case a10 => k_is); (case l10 => k_is); (case c10 => k_is); (case k10 => k_is); (case a11 => k_is); (case l11 => k_is); (case c11 => k_is); (case k11 => k_is); (case a12 => k_is); (case l12 => k_is); (case c12 => k_is); (case k12 => k_is); (case a13 => k_is); (case l13 => k_is); (case c13 => k_is); (case k13 => k_is); (case a14 => k_is); (case l14 => k_is); (case c14 => k_is); (case k14 => k_is); (case a15 => k_is); (case l15 => k_is); (case c15 => k_is); (case k15 => k_is); (case a16 => k_is); (case l16 => k_is); (case c16 => k_is); (case k16 => k_is); (case a17 => k_is); (case l17 => k_is); (case c17 => k_is); (case k17 => k_is); (case a18 => k_is); (case l18 => k_is); (case c18 => k_is); (case k18 => k_is); (case z_dict => k_is); (case z_enumerate => k_is); (case z_len => k_is); (case z_list => k_is); (case z_range => k_is); (case z_repr => k_is); (case z_set => k_is); (case z_sorted => k_is); (case z_tuple => k_is)
end
