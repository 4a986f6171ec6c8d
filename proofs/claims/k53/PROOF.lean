import PyProof.Rows.All
import HandS.ForMost
import HandS.TupAny
import HandS.TupMul
import HandS.Style
import HandS.Flow
import HandS.Zip
import HandS.Deep
import HandS.Small
import HandS.DictComp
import KE.SortData
import HandS.IsInst
import HandS.Conv
import HandS.Set
import HandS.TupSets
import PyProof.Rows.SetFrom
import HandS.SetFor
import KE.SortLaws
import PyProof.MeetsDict
import HandS.CallLocal
import PyProof.CallFns
import PyProof.P3In
import HandS.DictTup
import KE.KDictCopyH
import KE.KDictPairs
import KE.DataCmp
import HandS.StrMore
import KE.DatumOrd
import PySem.Challenge.RW_forktales_k53_whole_calls_lead_back
section
set_option Elab.async false
set_option linter.all false
set_option maxRecDepth 100000
/-! PL0: deep values, stores, what stands for what, the judgements of shallow mirrors -/
namespace PL
open PySem PySem.Spec PyProof.Rows L2

/-- a deep value: tuples by content, what may change by its number in the store -/
inductive D where
  | non | bl (b : Bool) | int (i : Int) | str (x : Str) | tup (xs : List D) | ref (n : Nat) | fn (x : Str) | ty (n : String) | ktup (xs : List D)

/-- what may change -/
inductive Ob where
  | lst (xs : List D)
  | cst (xs : List D)
  | dK (kvs : List (Key × D))
  | dT (kvs : List (List Key × D))
  /-- a dict that is being walked -/
  | lkK (kvs : List (Key × D))

def Ob.own : Ob → Bool
  | .cst _ => false
  | _ => true
def Ob.mut : Ob → Bool
  | .cst _ => false
  | .lkK _ => false
  | _ => true
theorem Ob.own_of {o : Ob} (h : o.mut = true) : o.own = true := by
  cases o <;> first | rfl | cases h
abbrev Sto := List Ob
abbrev Env := List (Option D)

section
variable (K : PySem.W.Frag) (mg : Str → Option Value)

/-- a tuple that was made -/
def TupAt (H : Hp) (a : Addr) (xs : List V) : Prop := H a = some (.tup xs)
omit K mg in
theorem TupAt.sq {K : PySem.W.Frag} {H : Hp} {a : Addr} {xs : List V} (h : TupAt H a xs) : SqT K H a xs := .inl (.inl h)
/-- a tuple of the module -/
def KtAt (a : Addr) (xs : List V) : Prop := ∃ (o : Obj) (its : Array Value) (n : Nat), K.lookup a = some o ∧ o.cls = .type "tuple" ∧ o.data = .seq its n ∧ its.size ≤ sizeLine ∧ Vals xs its.toList
theorem KtAt.sq {K : PySem.W.Frag} {H : Hp} {a : Addr} {xs : List V} (h : KtAt K a xs) : SqT K H a xs := .inr h
/-- a list that is read alone -/
def CstAt (H : Hp) (a : Addr) (xs : List V) : Prop :=
  (∃ o, H a = some (.frz o (.lst xs))) ∨ ∃ (o : Obj) (its : Array Value) (n : Nat), K.lookup a = some o ∧ o.cls = .type "list" ∧ o.dict = none ∧ o.data = .seq its n ∧ its.size ≤ sizeLine ∧ Vals xs its.toList
theorem CstAt.sq {K : PySem.W.Frag} {H : Hp} {a : Addr} {xs : List V} (h : CstAt K H a xs) : SqL K H a xs := by
  rcases h with ⟨o, h⟩ | h
  · exact .inl (.inr ⟨o, h⟩)
  · exact .inr h

mutual
inductive RepV (r : List Addr) (H : Hp) : D → V → Prop
  | non : RepV r H .non .non
  | bl (b : Bool) : RepV r H (.bl b) (.bl b)
  | int (i : Int) : RepV r H (.int i) (.int i)
  | str (x : Str) : RepV r H (.str x) (.str x)
  | ty (n : String) : RepV r H (.ty n) (.ty n)
  | tup {a : Addr} {vs : List V} {ds : List D} : TupAt H a vs → RepL r H ds vs → RepV r H (.tup ds) (.ref a)
  | ktup {a : Addr} {vs : List V} {ds : List D} : KtAt K a vs → RepL r H ds vs → RepV r H (.ktup ds) (.ref a)
  | ref {n : Nat} {a : Addr} : r[n]? = some a → RepV r H (.ref n) (.ref a)
  | fn {x : Str} {f : Addr} : mg x = some (.ref f) → RepV r H (.fn x) (.ref f)
inductive RepL (r : List Addr) (H : Hp) : List D → List V → Prop
  | nil : RepL r H [] []
  | cons {d : D} {v : V} {ds : List D} {vs : List V} : RepV r H d v → RepL r H ds vs → RepL r H (d :: ds) (v :: vs)
end

/-- what is kept: the numbers' addresses, the tuples, the locked lists -/
structure Lat (r : List Addr) (H : Hp) (r' : List Addr) (H' : Hp) : Prop where
  pre : ∀ (n : Nat) (a : Addr), r[n]? = some a → r'[n]? = some a
  tup : ∀ a xs, H a = some (.tup xs) → H' a = some (.tup xs)
  frz : ∀ a o u, H a = some (.frz o u) → H' a = some (.frz o u)

variable {K mg}
theorem Lat.refl {r : List Addr} {H : Hp} : Lat r H r H := ⟨fun _ _ h => h, fun _ _ h => h, fun _ _ _ h => h⟩
theorem Lat.trans {r r1 r2 : List Addr} {H H1 H2 : Hp} (a : Lat r H r1 H1) (b : Lat r1 H1 r2 H2) : Lat r H r2 H2 :=
  ⟨fun n x h => b.pre n x (a.pre n x h), fun x y h => b.tup x y (a.tup x y h), fun x o u h => b.frz x o u (a.frz x o u h)⟩
theorem TupAt.lat {r r' : List Addr} {H H' : Hp} {a : Addr} {xs : List V} (l : Lat r H r' H') (h : TupAt H a xs) : TupAt H' a xs := l.tup _ _ h
theorem CstAt.lat {r r' : List Addr} {H H' : Hp} {a : Addr} {xs : List V} (l : Lat r H r' H') (h : CstAt K H a xs) : CstAt K H' a xs := by
  rcases h with ⟨o, h⟩ | h
  · exact .inl ⟨o, l.frz _ _ _ h⟩
  · exact .inr h
mutual
theorem RepV.lat {r r' : List Addr} {H H' : Hp} (l : Lat r H r' H') : ∀ {d : D} {v : V}, RepV K mg r H d v → RepV K mg r' H' d v
  | _, _, .non => .non
  | _, _, .bl b => .bl b
  | _, _, .int i => .int i
  | _, _, .str x => .str x
  | _, _, .ty n => .ty n
  | _, _, .tup h q => .tup (h.lat l) (RepL.lat l q)
  | _, _, .ktup h q => .ktup h (RepL.lat l q)
  | _, _, .ref h => .ref (l.pre _ _ h)
  | _, _, .fn h => .fn h
theorem RepL.lat {r r' : List Addr} {H H' : Hp} (l : Lat r H r' H') : ∀ {ds : List D} {vs : List V}, RepL K mg r H ds vs → RepL K mg r' H' ds vs
  | _, _, .nil => .nil
  | _, _, .cons h q => .cons (RepV.lat l h) (RepL.lat l q)
end
theorem RepL.length {r : List Addr} {H : Hp} : ∀ {ds : List D} {vs : List V}, RepL K mg r H ds vs → ds.length = vs.length
  | _, _, .nil => rfl
  | _, _, .cons _ q => congrArg Nat.succ q.length
theorem RepL.get {r : List Addr} {H : Hp} : ∀ {ds : List D} {vs : List V} {i : Nat} {d : D}, RepL K mg r H ds vs → ds[i]? = some d → ∃ v, vs[i]? = some v ∧ RepV K mg r H d v
  | _, _, _, _, .nil, e => by simp at e
  | _, _, 0, _, .cons h _, e => by simp at e; subst e; exact ⟨_, rfl, h⟩
  | _, _, i + 1, d, .cons _ q, e => by
    obtain ⟨v, h1, h2⟩ := RepL.get (i := i) (d := d) q (by simpa using e)
    exact ⟨v, by simpa using h1, h2⟩
theorem RepL.getV {r : List Addr} {H : Hp} : ∀ {ds : List D} {vs : List V} {i : Nat} {v : V}, RepL K mg r H ds vs → vs[i]? = some v → ∃ d, ds[i]? = some d ∧ RepV K mg r H d v
  | _, _, _, _, .nil, e => by simp at e
  | _, _, 0, _, .cons h _, e => by simp at e; subst e; exact ⟨_, rfl, h⟩
  | _, _, i + 1, d, .cons _ q, e => by
    obtain ⟨v, h1, h2⟩ := RepL.getV (i := i) (v := d) q (by simpa using e)
    exact ⟨v, by simpa using h1, h2⟩
theorem RepL.append {r : List Addr} {H : Hp} : ∀ {ds es : List D} {vs ws : List V}, RepL K mg r H ds vs → RepL K mg r H es ws → RepL K mg r H (ds ++ es) (vs ++ ws)
  | _, _, _, _, .nil, q => q
  | _, _, _, _, .cons h t, q => .cons h (t.append q)
theorem RepL.take {r : List Addr} {H : Hp} : ∀ {ds : List D} {vs : List V} (n : Nat), RepL K mg r H ds vs → RepL K mg r H (ds.take n) (vs.take n)
  | _, _, 0, _ => .nil
  | _, _, _ + 1, .nil => .nil
  | _, _, n + 1, .cons h t => .cons h (t.take n)
theorem RepL.drop {r : List Addr} {H : Hp} : ∀ {ds : List D} {vs : List V} (n : Nat), RepL K mg r H ds vs → RepL K mg r H (ds.drop n) (vs.drop n)
  | _, _, 0, q => q
  | _, _, _ + 1, .nil => .nil
  | _, _, n + 1, .cons _ t => t.drop n
theorem RepL.set {r : List Addr} {H : Hp} {d : D} {v : V} (h : RepV K mg r H d v) : ∀ {ds : List D} {vs : List V} (n : Nat), RepL K mg r H ds vs → RepL K mg r H (ds.set n d) (vs.set n v)
  | _, _, _, .nil => .nil
  | _, _, 0, .cons _ t => .cons h t
  | _, _, n + 1, .cons q t => .cons q (t.set h n)
theorem RepL.reverse {r : List Addr} {H : Hp} {ds : List D} {vs : List V} (q : RepL K mg r H ds vs) : RepL K mg r H ds.reverse vs.reverse := by
  induction ds generalizing vs with
  | nil => cases q; exact .nil
  | cons d ds ih =>
    cases q with
    | cons h t =>
      rw [List.reverse_cons, List.reverse_cons]
      exact (ih t).append (.cons h .nil)
end

section
variable (K : PySem.W.Frag) (mg : Str → Option Value)
def RepKs {k : Type} (r : List Addr) (H : Hp) : List (k × D) → List (k × V) → Prop := Paired fun (p : k × D) (q : k × V) => p.1 = q.1 ∧ RepV K mg r H p.2 q.2
/-- an object of the store stands at a -/
def RepO (r : List Addr) (H : Hp) : Ob → Addr → Prop
  | .lst xs, a => ∃ vs, H a = some (.lst vs) ∧ RepL K mg r H xs vs
  | .cst xs, a => ∃ vs, CstAt K H a vs ∧ RepL K mg r H xs vs
  | .dK kvs, a => ∃ ws, H a = some (.dK ws) ∧ RepKs K mg r H kvs ws
  | .dT kvs, a => ∃ ws, H a = some (.dT ws) ∧ RepKs K mg r H kvs ws
  | .lkK kvs, a => ∃ od ws, H a = some (.frz od (.dK ws)) ∧ RepKs K mg r H kvs ws
structure Sim (r : List Addr) (S : Sto) (H : Hp) : Prop where
  len : r.length = S.length
  nd : ∀ (i j : Nat) (a : Addr) (o u : Ob), r[i]? = some a → r[j]? = some a → S[i]? = some o → S[j]? = some u → o.own = true → u.own = true → i = j
  ob : ∀ (n : Nat) (o : Ob) (a : Addr), S[n]? = some o → r[n]? = some a → RepO K mg r H o a
/-- the slots -/
structure REnv (r : List Addr) (H : Hp) (env : Env) (s : L2.St) : Prop where
  len : s.length = env.length
  at_ : ∀ (i : Nat) (d : D), env[i]? = some (some d) → ∃ v, s[i]? = some (some v) ∧ RepV K mg r H d v
variable {K mg}
theorem RepKs.lat {k : Type} {r r' : List Addr} {H H' : Hp} (l : Lat r H r' H') {ks : List (k × D)} {ws : List (k × V)} (h : RepKs K mg r H ks ws) : RepKs K mg r' H' ks ws :=
  Paired.mapP h fun _ _ q => ⟨q.1, q.2.lat l⟩
theorem RepO.lat {r r' : List Addr} {H H' : Hp} {o : Ob} {a : Addr} (l : Lat r H r' H') (he : H' a = H a) (h : RepO K mg r H o a) : RepO K mg r' H' o a := by
  cases o with
  | lst xs => obtain ⟨vs, e, q⟩ := h; exact ⟨vs, he.trans e, q.lat l⟩
  | cst xs => obtain ⟨vs, e, q⟩ := h; exact ⟨vs, e.lat l, q.lat l⟩
  | dK xs => obtain ⟨vs, e, q⟩ := h; exact ⟨vs, he.trans e, q.lat l⟩
  | dT xs => obtain ⟨vs, e, q⟩ := h; exact ⟨vs, he.trans e, q.lat l⟩
  | lkK xs => obtain ⟨od, vs, e, q⟩ := h; exact ⟨od, vs, he.trans e, q.lat l⟩
theorem REnv.lat {r r' : List Addr} {H H' : Hp} {env : Env} {s : L2.St} (l : Lat r H r' H') (h : REnv K mg r H env s) : REnv K mg r' H' env s :=
  ⟨h.len, fun i d e => let ⟨v, e1, q⟩ := h.at_ i d e; ⟨v, e1, q.lat l⟩⟩
theorem REnv.set {r : List Addr} {H : Hp} {env : Env} {s : L2.St} {i : Nat} {d : D} {v : V} (h : REnv K mg r H env s) (q : RepV K mg r H d v) : REnv K mg r H (env.set i (some d)) (s.set i (some v)) := by
  refine ⟨by simpa using h.len, fun j e hj => ?_⟩
  by_cases hij : i = j
  · subst hij
    by_cases hi : i < env.length
    · rw [List.getElem?_set_self hi] at hj
      cases hj
      exact ⟨v, List.getElem?_set_self (by rw [h.len]; exact hi), q⟩
    · rw [List.getElem?_eq_none (by simpa using hi)] at hj
      cases hj
  · rw [List.getElem?_set_ne hij] at hj
    obtain ⟨w, e1, q1⟩ := h.at_ j e hj
    exact ⟨w, by rw [List.getElem?_set_ne hij]; exact e1, q1⟩
theorem Sim.addr {r : List Addr} {S : Sto} {H : Hp} (h : Sim K mg r S H) {n : Nat} {o : Ob} (e : S[n]? = some o) : ∃ a, r[n]? = some a ∧ RepO K mg r H o a := by
  have hn : n < r.length := by rw [h.len]; exact (List.getElem?_eq_some_iff.mp e).1
  exact ⟨r[n], List.getElem?_eq_getElem hn, h.ob n o _ e (List.getElem?_eq_getElem hn)⟩
theorem RepO.there {r : List Addr} {H : Hp} {o : Ob} {a : Addr} (h : RepO K mg r H o a) (hc : o.mut = true) : ∃ u, H a = some u ∧ Mut (some u) := by
  cases o with
  | lst xs => obtain ⟨vs, e, q⟩ := h; exact ⟨_, e, trivial⟩
  | cst xs => cases hc
  | lkK xs => cases hc
  | dK xs => obtain ⟨vs, e, q⟩ := h; exact ⟨_, e, trivial⟩
  | dT xs => obtain ⟨vs, e, q⟩ := h; exact ⟨_, e, trivial⟩
theorem RepO.some {r : List Addr} {H : Hp} {o : Ob} {a : Addr} (h : RepO K mg r H o a) (hc : o.own = true) : ∃ u, H a = some u := by
  cases o with
  | lst xs => obtain ⟨vs, e, q⟩ := h; exact ⟨_, e⟩
  | cst xs => cases hc
  | lkK xs => obtain ⟨od, vs, e, q⟩ := h; exact ⟨_, e⟩
  | dK xs => obtain ⟨vs, e, q⟩ := h; exact ⟨_, e⟩
  | dT xs => obtain ⟨vs, e, q⟩ := h; exact ⟨_, e⟩
/-- a tuple is laid -/
theorem lat_tup {r : List Addr} {H : Hp} {p : Addr} {vs : List V} (np : H p = none) : Lat r H r (upd H p (.tup vs)) :=
  ⟨fun _ _ h => h, fun b xs e => by rw [upd_ne (ne_of_none e np)]; exact e, fun b o u e => by rw [upd_ne (ne_of_none e np)]; exact e⟩
theorem Sim.tup {r : List Addr} {S : Sto} {H : Hp} {p : Addr} {vs : List V} (h : Sim K mg r S H) (np : H p = none) : Sim K mg r S (upd H p (.tup vs)) := by
  refine ⟨h.len, h.nd, fun n o a e1 e2 => ?_⟩
  have q := h.ob n o a e1 e2
  cases o with
  | cst xs => obtain ⟨ws, e, z⟩ := q; exact ⟨ws, e.lat (lat_tup (r := r) np), z.lat (lat_tup np)⟩
  | lst xs => obtain ⟨ws, e, _⟩ := id q; exact q.lat (lat_tup np) (upd_ne (ne_of_none e np))
  | dK xs => obtain ⟨ws, e, _⟩ := id q; exact q.lat (lat_tup np) (upd_ne (ne_of_none e np))
  | dT xs => obtain ⟨ws, e, _⟩ := id q; exact q.lat (lat_tup np) (upd_ne (ne_of_none e np))
  | lkK xs => obtain ⟨od, ws, e, _⟩ := id q; exact q.lat (lat_tup np) (upd_ne (ne_of_none e np))
/-- a list, a dict is laid -/
theorem lat_new {r : List Addr} {H : Hp} {p : Addr} {u : HO} (np : H p = none) : Lat r H (r ++ [p]) (upd H p u) :=
  ⟨fun n a h => by rw [List.getElem?_append_left (List.getElem?_eq_some_iff.mp h).1]; exact h, fun b xs e => by rw [upd_ne (ne_of_none e np)]; exact e, fun b o u e => by rw [upd_ne (ne_of_none e np)]; exact e⟩
theorem Sim.new {r : List Addr} {S : Sto} {H : Hp} {p : Addr} {u : HO} {o : Ob} (h : Sim K mg r S H) (np : H p = none) (q : RepO K mg (r ++ [p]) (upd H p u) o p) : Sim K mg (r ++ [p]) (S ++ [o]) (upd H p u) := by
  have hz : ∀ (i : Nat) (a : Addr), (r ++ [p])[i]? = some a → (i < r.length ∧ r[i]? = some a) ∨ (i = r.length ∧ a = p) := fun i a e => by
    by_cases hi : i < r.length
    · rw [List.getElem?_append_left hi] at e
      exact .inl ⟨hi, e⟩
    · rw [List.getElem?_append_right (by omega)] at e
      by_cases h0 : i = r.length
      · subst h0
        rw [Nat.sub_self] at e
        exact .inr ⟨rfl, (Option.some.inj e).symm⟩
      · obtain ⟨m, hm⟩ : ∃ m, i - r.length = m + 1 := ⟨i - r.length - 1, by omega⟩
        rw [hm] at e
        simp at e
  have old : ∀ (i : Nat) (o' : Ob), i < r.length → (S ++ [o])[i]? = some o' → S[i]? = some o' := fun i o' hi e => by
    rw [List.getElem?_append_left (by rw [← h.len]; exact hi)] at e
    exact e
  have keep : ∀ (i : Nat) (a : Addr) (o' : Ob), r[i]? = some a → S[i]? = some o' → o'.own = true → a ≠ p := fun i a o' e1 e2 hm z => by
    obtain ⟨w, e3⟩ := (h.ob i o' a e2 e1).some hm
    rw [z, np] at e3
    cases e3
  refine ⟨by rw [List.length_append, List.length_append, h.len]; rfl, fun i j a o1 o2 ei ej e1 e2 m1 m2 => ?_, fun n o' a e1 e2 => ?_⟩
  · rcases hz i a ei with ⟨li, fi⟩ | ⟨li, fi⟩
    · rcases hz j a ej with ⟨lj, fj⟩ | ⟨lj, fj⟩
      · exact h.nd i j a o1 o2 fi fj (old i _ li e1) (old j _ lj e2) m1 m2
      · exact absurd fj (keep i a o1 fi (old i _ li e1) m1)
    · rcases hz j a ej with ⟨lj, fj⟩ | ⟨lj, fj⟩
      · exact absurd fi (keep j a o2 fj (old j _ lj e2) m2)
      · rw [li, lj]
  · rcases hz n a e2 with ⟨li, fi⟩ | ⟨li, fi⟩
    · have q1 := h.ob n o' a (old n _ li e1) fi
      cases hm : o'.own with
      | true => exact q1.lat (lat_new np) (upd_ne (keep n a o' fi (old n _ li e1) hm))
      | false =>
        cases o' with
        | cst xs => obtain ⟨ws, e, z⟩ := q1; exact ⟨ws, e.lat (lat_new (r := r) np), z.lat (lat_new np)⟩
        | lst xs => cases hm
        | dK xs => cases hm
        | dT xs => cases hm
        | lkK xs => cases hm
    · subst fi
      subst li
      rw [h.len, List.getElem?_append_right (Nat.le_refl _), Nat.sub_self] at e1
      cases e1
      exact q
/-- an object is written -/
theorem lat_upd {r : List Addr} {H : Hp} {a : Addr} {u v : HO} (e : H a = some u) (hm : Mut (some u)) : Lat r H r (upd H a v) := by
  refine ⟨fun _ _ h => h, fun b xs eb => ?_, fun b o w eb => ?_⟩
  · have : b ≠ a := fun z => by rw [z, e] at eb; cases eb; exact hm
    rw [upd_ne this]; exact eb
  · have : b ≠ a := fun z => by rw [z, e] at eb; cases eb; exact hm
    rw [upd_ne this]; exact eb
theorem Sim.put {r : List Addr} {S : Sto} {H : Hp} {a : Addr} {n : Nat} {o o' : Ob} {v : HO} (h : Sim K mg r S H) (eo : S[n]? = some o) (ea : r[n]? = some a) (hm : o.mut = true) (hm' : o'.own = true)
    (q : RepO K mg r (upd H a v) o' a) : Sim K mg r (S.set n o') (upd H a v) ∧ Lat r H r (upd H a v) := by
  obtain ⟨u, eu, mu⟩ := (h.ob n o a eo ea).there hm
  have L : Lat r H r (upd H a v) := lat_upd eu mu
  have hn : n < S.length := (List.getElem?_eq_some_iff.mp eo).1
  have back : ∀ (i : Nat) (w : Ob), (S.set n o')[i]? = some w → (i = n ∧ w = o') ∨ (i ≠ n ∧ S[i]? = some w) := fun i w e => by
    by_cases hi : n = i
    · subst hi
      rw [List.getElem?_set_self hn] at e
      exact .inl ⟨rfl, (Option.some.inj e).symm⟩
    · rw [List.getElem?_set_ne hi] at e
      exact .inr ⟨fun z => hi z.symm, e⟩
  refine ⟨⟨by rw [h.len, List.length_set], fun i j b o1 o2 ei ej e1 e2 m1 m2 => ?_, fun m w b e1 e2 => ?_⟩, L⟩
  · rcases back i o1 e1 with ⟨i1, i2⟩ | ⟨i1, i2⟩
    · rcases back j o2 e2 with ⟨j1, j2⟩ | ⟨j1, j2⟩
      · rw [i1, j1]
      · exact h.nd i j b o o2 ei ej (by rw [i1]; exact eo) j2 (Ob.own_of hm) m2
    · rcases back j o2 e2 with ⟨j1, j2⟩ | ⟨j1, j2⟩
      · exact h.nd i j b o1 o ei ej i2 (by rw [j1]; exact eo) m1 (Ob.own_of hm)
      · exact h.nd i j b o1 o2 ei ej i2 j2 m1 m2
  · rcases back m w e1 with ⟨i1, i2⟩ | ⟨i1, i2⟩
    · subst i1
      subst i2
      rw [ea] at e2
      cases e2
      exact q
    · have q1 := h.ob m w b i2 e2
      cases hw : w.own with
      | true =>
        refine q1.lat L (upd_ne fun z => ?_)
        subst z
        exact i1 (h.nd m n b w o e2 ea i2 eo hw (Ob.own_of hm))
      | false =>
        cases w with
        | cst xs => obtain ⟨ws, e, z⟩ := q1; exact ⟨ws, e.lat L, z.lat L⟩
        | lst xs => cases hw
        | dK xs => cases hw
        | dT xs => cases hw
        | lkK xs => cases hw

/-! ### the largest readings -/
section
variable {X : Cx}
def TM (X : Cx) (e : Expr) : TE := fun σ H Q => ∀ pins s, Inv X pins σ H s → wpAny (model X.prog X.w) X.A (eval e X.env) (EP X pins σ Q) X.xe s
theorem pe_tm {e : Expr} : PE X e (TM X e) := ⟨fun pins s _ _ _ I h => h pins s I⟩
theorem tm_of {e : Expr} {t : TE} {σ : L2.St} {H : Hp} {Q : VK} (h : PE X e t) (q : t σ H Q) : TM X e σ H Q := fun pins s I => h.run pins s σ H Q I q
def TMt (X : Cx) (e : Expr) : TT := fun σ H Q => ∀ pins s, Inv X pins σ H s → wpAny (model X.prog X.w) X.A (isTrue e X.env (eval e X.env)) (TP X pins σ Q) X.xe s
theorem pt_tm {e : Expr} : PT X e (TMt X e) := ⟨fun pins s _ _ _ I h => h pins s I⟩
theorem tmt_of {e : Expr} {t : TT} {σ : L2.St} {H : Hp} {Q : Bool → Hp → Prop} (h : PT X e t) (q : t σ H Q) : TMt X e σ H Q := fun pins s I => h.run pins s σ H Q I q
def TMw (X : Cx) (e : Expr) : TT := fun σ H Q => ∀ (whole : Sem Value) pins s, Inv X pins σ H s → wpAny (model X.prog X.w) X.A (isTrue e X.env whole) (TP X pins σ Q) X.xe s
theorem pw_tm {e : Expr} : PW X e (TMw X e) := ⟨fun wh pins s _ _ _ I h => h wh pins s I⟩
theorem tmw_of {e : Expr} {t : TT} {σ : L2.St} {H : Hp} {Q : Bool → Hp → Prop} (h : PW X e t) (q : t σ H Q) : TMw X e σ H Q := fun wh pins s I => h.run wh pins s σ H Q I q
def TMa (X : Cx) (es : List Expr) : TA := fun σ H Q => ∀ (pos : Pos) pins s, Inv X pins σ H s → wpAny (model X.prog X.w) X.A (spliced (backTo pos (starEach es X.env))) (AP X pins σ Q) X.xe s
theorem pa_tm {es : List Expr} : PA X es (TMa X es) := ⟨fun pos pins s _ _ _ I h => h pos pins s I⟩
theorem tma_of {es : List Expr} {t : TA} {σ : L2.St} {H : Hp} {Q : List V → Hp → Prop} (h : PA X es t) (q : t σ H Q) : TMa X es σ H Q := fun pos pins s I => h.run pos pins s σ H Q I q
def TMs (X : Cx) (st : Stmt) : TS := fun D σ H => ∀ pins s, Inv X pins σ H s → wpAny (model X.prog X.w) X.A (exec st X.env) (SP X pins D) X.xe s
theorem ps_tm {st : Stmt} : PS X st (TMs X st) := ⟨fun pins s _ _ _ I h => h pins s I⟩
theorem tms_of {st : Stmt} {t : TS} {σ : L2.St} {H : Hp} {D : Ends} (h : PS X st t) (q : t D σ H) : TMs X st D σ H := fun pins s I => h.run pins s σ H D I q
def TMss (X : Cx) (st : List Stmt) : TS := fun D σ H => ∀ pins s, Inv X pins σ H s → wpAny (model X.prog X.w) X.A (execs st X.env) (SP X pins D) X.xe s
theorem pss_tm {st : List Stmt} : PSs X st (TMss X st) := ⟨fun pins s _ _ _ I h => h pins s I⟩
theorem tmss_of {st : List Stmt} {t : TS} {σ : L2.St} {H : Hp} {D : Ends} (h : PSs X st t) (q : t D σ H) : TMss X st D σ H := fun pins s I => h.run pins s σ H D I q
def TMg (X : Cx) (tg : Expr) : TG := fun v σ H Q => ∀ pins s u, Inv X pins σ H s → RelV v u → wpAny (model X.prog X.w) X.A (assign tg X.env u) (fun _ s' => ∃ σ' H', Inv X pins σ' H' s' ∧ Q σ' H') X.xe s
theorem pg_tm {tg : Expr} : PG X tg (TMg X tg) := ⟨fun pins s _ _ _ u _ I r h => h pins s u I r⟩
theorem tmg_of {tg : Expr} {t : TG} {σ : L2.St} {H : Hp} {v : V} {Q : L2.St → Hp → Prop} (h : PG X tg t) (q : t v σ H Q) : TMg X tg v σ H Q := fun pins s u I r => h.run pins s σ H v u Q I r q
end

/-! ### mirrors and what they promise -/
abbrev ME := Env → Sto → Option (D × Sto)
abbrev MT := Env → Sto → Option (Bool × Sto)
abbrev MA := Env → Sto → Option (List D × Sto)
inductive Flw where | nx | rt (d : D) | bk | ct
abbrev MS := Env → Sto → Option (Flw × Env × Sto)
abbrev MG := D → Env → Sto → Option (Env × Sto)
abbrev MF := List D → Sto → Option (D × Sto)

structure At (X : Cx) (r : List Addr) (env : Env) (S : Sto) (σ : L2.St) (H : Hp) : Prop where
  sim : Sim X.K X.mg r S H
  env : REnv X.K X.mg r H env σ

/-- e does what m says -/
def CE0 (X : Cx) (e : Expr) (m : ME) : Prop := ∀ env S d S', m env S = some (d, S') → ∀ r σ H (Q : VK), At X r env S σ H →
  (∀ r' H' v, Sim X.K X.mg r' S' H' → Lat r H r' H' → RepV X.K X.mg r' H' d v → Q v H') → TM X e σ H Q
structure CE (X : Cx) (e : Expr) (m : ME) : Prop where
  run : ∀ env S d S', m env S = some (d, S') → ∀ r σ H (Q : VK), At X r env S σ H →
  (∀ r' H' v, Sim X.K X.mg r' S' H' → Lat r H r' H' → RepV X.K X.mg r' H' d v → Q v H') → TM X e σ H Q
instance {X : Cx} {e : Expr} {m : ME} : CoeFun (CE X e m) (fun _ => ∀ env S d S', m env S = some (d, S') → ∀ r σ H (Q : VK), At X r env S σ H →
  (∀ r' H' v, Sim X.K X.mg r' S' H' → Lat r H r' H' → RepV X.K X.mg r' H' d v → Q v H') → TM X e σ H Q
) := ⟨CE.run⟩
def CT0 (X : Cx) (e : Expr) (m : MT) : Prop := ∀ env S b S', m env S = some (b, S') → ∀ r σ H (Q : Bool → Hp → Prop), At X r env S σ H →
  (∀ r' H', Sim X.K X.mg r' S' H' → Lat r H r' H' → Q b H') → TMt X e σ H Q
structure CT (X : Cx) (e : Expr) (m : MT) : Prop where
  run : ∀ env S b S', m env S = some (b, S') → ∀ r σ H (Q : Bool → Hp → Prop), At X r env S σ H →
  (∀ r' H', Sim X.K X.mg r' S' H' → Lat r H r' H' → Q b H') → TMt X e σ H Q
instance {X : Cx} {e : Expr} {m : MT} : CoeFun (CT X e m) (fun _ => ∀ env S b S', m env S = some (b, S') → ∀ r σ H (Q : Bool → Hp → Prop), At X r env S σ H →
  (∀ r' H', Sim X.K X.mg r' S' H' → Lat r H r' H' → Q b H') → TMt X e σ H Q
) := ⟨CT.run⟩
def CW0 (X : Cx) (e : Expr) (m : MT) : Prop := ∀ env S b S', m env S = some (b, S') → ∀ r σ H (Q : Bool → Hp → Prop), At X r env S σ H →
  (∀ r' H', Sim X.K X.mg r' S' H' → Lat r H r' H' → Q b H') → TMw X e σ H Q
structure CW (X : Cx) (e : Expr) (m : MT) : Prop where
  run : ∀ env S b S', m env S = some (b, S') → ∀ r σ H (Q : Bool → Hp → Prop), At X r env S σ H →
  (∀ r' H', Sim X.K X.mg r' S' H' → Lat r H r' H' → Q b H') → TMw X e σ H Q
instance {X : Cx} {e : Expr} {m : MT} : CoeFun (CW X e m) (fun _ => ∀ env S b S', m env S = some (b, S') → ∀ r σ H (Q : Bool → Hp → Prop), At X r env S σ H →
  (∀ r' H', Sim X.K X.mg r' S' H' → Lat r H r' H' → Q b H') → TMw X e σ H Q
) := ⟨CW.run⟩
def CA0 (X : Cx) (es : List Expr) (m : MA) : Prop := ∀ env S ds S', m env S = some (ds, S') → ∀ r σ H (Q : List V → Hp → Prop), At X r env S σ H →
  (∀ r' H' vs, Sim X.K X.mg r' S' H' → Lat r H r' H' → RepL X.K X.mg r' H' ds vs → Q vs H') → TMa X es σ H Q
structure CA (X : Cx) (es : List Expr) (m : MA) : Prop where
  run : ∀ env S ds S', m env S = some (ds, S') → ∀ r σ H (Q : List V → Hp → Prop), At X r env S σ H →
  (∀ r' H' vs, Sim X.K X.mg r' S' H' → Lat r H r' H' → RepL X.K X.mg r' H' ds vs → Q vs H') → TMa X es σ H Q
instance {X : Cx} {es : List Expr} {m : MA} : CoeFun (CA X es m) (fun _ => ∀ env S ds S', m env S = some (ds, S') → ∀ r σ H (Q : List V → Hp → Prop), At X r env S σ H →
  (∀ r' H' vs, Sim X.K X.mg r' S' H' → Lat r H r' H' → RepL X.K X.mg r' H' ds vs → Q vs H') → TMa X es σ H Q
) := ⟨CA.run⟩
/-- what a statement's end is asked -/
def EndsOk (X : Cx) (r : List Addr) (H : Hp) (f : Flw) (env' : Env) (S' : Sto) (D : Ends) : Prop :=
  match f with
  | .nx => ∀ r' σ' H', At X r' env' S' σ' H' → Lat r H r' H' → D.nx σ' H'
  | .bk => ∀ r' σ' H', At X r' env' S' σ' H' → Lat r H r' H' → D.bk σ' H'
  | .ct => ∀ r' σ' H', At X r' env' S' σ' H' → Lat r H r' H' → D.ct σ' H'
  | .rt d => ∀ r' H' v, Sim X.K X.mg r' S' H' → Lat r H r' H' → RepV X.K X.mg r' H' d v → D.rt v H'
def CS0 (X : Cx) (st : Stmt) (m : MS) : Prop := ∀ env S f env' S', m env S = some (f, env', S') → ∀ r σ H (D : Ends), At X r env S σ H → EndsOk X r H f env' S' D → TMs X st D σ H
structure CS (X : Cx) (st : Stmt) (m : MS) : Prop where
  run : ∀ env S f env' S', m env S = some (f, env', S') → ∀ r σ H (D : Ends), At X r env S σ H → EndsOk X r H f env' S' D → TMs X st D σ H
instance {X : Cx} {st : Stmt} {m : MS} : CoeFun (CS X st m) (fun _ => ∀ env S f env' S', m env S = some (f, env', S') → ∀ r σ H (D : Ends), At X r env S σ H → EndsOk X r H f env' S' D → TMs X st D σ H
) := ⟨CS.run⟩
def CSs0 (X : Cx) (st : List Stmt) (m : MS) : Prop := ∀ env S f env' S', m env S = some (f, env', S') → ∀ r σ H (D : Ends), At X r env S σ H → EndsOk X r H f env' S' D → TMss X st D σ H
structure CSs (X : Cx) (st : List Stmt) (m : MS) : Prop where
  run : ∀ env S f env' S', m env S = some (f, env', S') → ∀ r σ H (D : Ends), At X r env S σ H → EndsOk X r H f env' S' D → TMss X st D σ H
instance {X : Cx} {st : List Stmt} {m : MS} : CoeFun (CSs X st m) (fun _ => ∀ env S f env' S', m env S = some (f, env', S') → ∀ r σ H (D : Ends), At X r env S σ H → EndsOk X r H f env' S' D → TMss X st D σ H
) := ⟨CSs.run⟩
theorem EndsOk.lat {X : Cx} {r r1 : List Addr} {H H1 : Hp} {f : Flw} {env' : Env} {S' : Sto} {D : Ends} (l : Lat r H r1 H1) (h : EndsOk X r H f env' S' D) : EndsOk X r1 H1 f env' S' D := by
  cases f with
  | nx => exact fun r' σ' H' a b => h r' σ' H' a (l.trans b)
  | bk => exact fun r' σ' H' a b => h r' σ' H' a (l.trans b)
  | ct => exact fun r' σ' H' a b => h r' σ' H' a (l.trans b)
  | rt d => exact fun r' H' v a b c => h r' H' v a (l.trans b) c
end
end PL
end

section
set_option Elab.async false
set_option linter.all false
set_option maxRecDepth 100000
/-! PL1: the rules of expressions -/
namespace PL
open PySem PySem.Spec PyProof.Rows L2

abbrev R := Option (D × Sto)
section
variable {X : Cx}

/-! ### names, constants -/
def mVar (i : Nat) : ME := fun env S => match env[i]? with
  | some (some d) => some (d, S)
  | _ => none
def mC (d : D) : ME := fun _ S => some (d, S)
theorem cE_var {i : Nat} {x : Str} {pos : Pos} (hN : X.N[i]? = some x) (hv : Vis X.env.scope x) (hd : (x == ("__debug__" : Str)) = false := by decide) (hcd : (x == ("__classdict__" : Str)) = false := by decide) : CE X (.Name x pos) (mVar i) := by
  refine ⟨?_⟩
  intro env S d S' h r σ H Q A hq
  unfold mVar at h
  split at h
  · rename_i d' e
    cases h
    obtain ⟨v, e1, q⟩ := A.env.at_ i d e
    exact tm_of (pe_var hN hv hd hcd) ⟨v, e1, hq r H v A.sim .refl q⟩
  · cases h
theorem cE_const {e : Expr} {d : D} {v : V} (h : PE X e (tC v)) (q : ∀ r H, RepV X.K X.mg r H d v) : CE X e (mC d) := by
  refine ⟨?_⟩
  intro env S d' S' hm r σ H Q A hq
  cases hm
  exact tm_of h (hq r H v A.sim .refl (q r H))
theorem cE_int {i j pos} : CE X (.Constant (.int i) j pos) (mC (.int i)) := cE_const pe_int fun _ _ => .int i
theorem cE_bl {i j pos} : CE X (.Constant (.bool i) j pos) (mC (.bl i)) := cE_const pe_bl fun _ _ => .bl i
theorem cE_non {j pos} : CE X (.Constant .none j pos) (mC .non) := cE_const pe_non fun _ _ => .non
theorem cE_str {x j pos} : CE X (.Constant (.str x) j pos) (mC (.str x)) := cE_const pe_str fun _ _ => .str x
/-- a def of the module as a value -/
theorem cE_fn {x : Str} {f : Addr} {pos : Pos} (hg : Gl X x) (hm : X.mg x = some (.ref f)) (hd : (x == ("__debug__" : Str)) = false := by decide) : CE X (.Name x pos) (mC (.fn x)) :=
  cE_const (pe_glob hg hm (v := .ref f) rfl hd) fun _ _ => .fn hm
/-- a constant of the module -/
theorem cE_glob {x : Str} {u : Value} {v : V} {d : D} {pos : Pos} (hg : Gl X x) (hm : X.mg x = some u) (rv : RelV v u) (q : ∀ r H, RepV X.K X.mg r H d v) (hd : (x == ("__debug__" : Str)) = false := by decide) : CE X (.Name x pos) (mC d) :=
  cE_const (pe_glob hg hm rv hd) q

/-! ### argument lists, displays -/
def mNil : MA := fun _ S => some ([], S)
def mCons (a : ME) (b : MA) : MA := fun env S => (a env S).bind fun p => (b env p.2).bind fun q => some (p.1 :: q.1, q.2)
theorem cA_nil : CA X [] mNil := by
  refine ⟨?_⟩
  intro env S ds S' h r σ H Q A hq
  cases h
  exact tma_of pa_nil (hq r H [] A.sim .refl .nil)
theorem At.lat {r r' : List Addr} {env : Env} {S S' : Sto} {σ : L2.St} {H H' : Hp} (A : At X r env S σ H) (s : Sim X.K X.mg r' S' H') (l : Lat r H r' H') : At X r' env S' σ H' := ⟨s, A.env.lat l⟩
theorem cA_cons {e : Expr} {es : List Expr} {a : ME} {b : MA} (ha : CE X e a) (hb : CA X es b) (hs : starEach (e :: es) X.env = (false, eval e X.env) :: starEach es X.env := by rfl) : CA X (e :: es) (mCons a b) := by
  refine ⟨?_⟩
  intro env S ds S' h r σ H Q A hq
  obtain ⟨⟨d, S1⟩, e1, h⟩ := Option.bind_eq_some_iff.mp h
  obtain ⟨⟨ds', S2⟩, e2, h⟩ := Option.bind_eq_some_iff.mp h
  cases h
  refine tma_of (pa_cons pe_tm pa_tm hs) (ha env S d S1 e1 r σ H _ A fun r1 H1 v s1 l1 q1 => ?_)
  refine hb env S1 ds' S2 e2 r1 σ H1 _ (A.lat s1 l1) fun r2 H2 vs s2 l2 q2 => ?_
  exact hq r2 H2 (v :: vs) s2 (l1.trans l2) (.cons (q1.lat l2) q2)
def newL (xs : List D) (S : Sto) : R := some (.ref S.length, S ++ [.lst xs])
theorem newL_ok {r : List Addr} {S : Sto} {H : Hp} {xs : List D} {vs : List V} {d : D} {S' : Sto} {p : Addr} (s : Sim X.K X.mg r S H) (np : H p = none) (q : RepL X.K X.mg r H xs vs) (h : newL xs S = some (d, S')) :
    Sim X.K X.mg (r ++ [p]) S' (upd H p (.lst vs)) ∧ Lat r H (r ++ [p]) (upd H p (.lst vs)) ∧ RepV X.K X.mg (r ++ [p]) (upd H p (.lst vs)) d (.ref p) := by
  cases h
  refine ⟨s.new np ⟨vs, upd_same, q.lat (lat_new np)⟩, lat_new np, .ref ?_⟩
  rw [← s.len, List.getElem?_append_right (Nat.le_refl _), Nat.sub_self]
  rfl
def mLst (a : MA) : ME := fun env S => (a env S).bind fun p => if p.1.length ≤ sizeLine then newL p.1 p.2 else none
def mTup (a : MA) : ME := fun env S => (a env S).bind fun p => if p.1.length ≤ sizeLine then some (.tup p.1, p.2) else none
theorem cE_lst {es : List Expr} {a : MA} {pos : Pos} (ha : CA X es a) : CE X (.List es pos) (mLst a) := by
  refine ⟨?_⟩
  intro env S d S' h r σ H Q A hq
  obtain ⟨⟨ds, S1⟩, e1, h⟩ := Option.bind_eq_some_iff.mp h
  split at h
  · rename_i hz
    refine tm_of (pe_lst pa_tm) (ha env S ds S1 e1 r σ H _ A fun r1 H1 vs s1 l1 q1 => ⟨by rw [← q1.length]; exact hz, fun p np => ?_⟩)
    obtain ⟨a1, a2, a3⟩ := newL_ok (X := X) s1 np q1 h
    exact hq _ _ _ a1 (l1.trans a2) a3
  · cases h
theorem cE_tup {es : List Expr} {a : MA} {x1} {pos : Pos} (ha : CA X es a) : CE X (.Tuple es x1 pos) (mTup a) := by
  refine ⟨?_⟩
  intro env S d S' h r σ H Q A hq
  obtain ⟨⟨ds, S1⟩, e1, h⟩ := Option.bind_eq_some_iff.mp h
  split at h
  · rename_i hz
    cases h
    refine tm_of (pe_tup pa_tm) (ha env S ds S1 e1 r σ H _ A fun r1 H1 vs s1 l1 q1 => ⟨by rw [← q1.length]; exact hz, fun p np => ?_⟩)
    exact hq r1 _ _ (s1.tup np) (l1.trans (lat_tup np)) (.tup upd_same (q1.lat (lat_tup np)))
  · cases h

/-! ### operators by values -/
/-- what rr asks is given where g tells -/
def OpS (X : Cx) (rr : R2) (g : D → D → Sto → R) : Prop := ∀ x y S d S', g x y S = some (d, S') → ∀ r H u v (Q : VK), Sim X.K X.mg r S H → RepV X.K X.mg r H x u → RepV X.K X.mg r H y v →
  (∀ r' H' w, Sim X.K X.mg r' S' H' → Lat r H r' H' → RepV X.K X.mg r' H' d w → Q w H') → rr u v H Q
def mBin (g : D → D → Sto → R) (a b : ME) : ME := fun env S => (a env S).bind fun p => (b env p.2).bind fun q => g p.1 q.1 q.2
theorem bin_ok {a b : Expr} {ma mb : ME} {rr : R2} {g : D → D → Sto → R} (ha : CE X a ma) (hb : CE X b mb) (hg : OpS X rr g) {env : Env} {S : Sto} {d : D} {S' : Sto} (h : mBin g ma mb env S = some (d, S')) {r : List Addr} {σ : L2.St} {H : Hp} {Q : VK} (A : At X r env S σ H)
    (hq : ∀ r' H' v, Sim X.K X.mg r' S' H' → Lat r H r' H' → RepV X.K X.mg r' H' d v → Q v H') : tOp rr (TM X a) (TM X b) σ H Q := by
  obtain ⟨⟨x, S1⟩, e1, h⟩ := Option.bind_eq_some_iff.mp h
  obtain ⟨⟨y, S2⟩, e2, h⟩ := Option.bind_eq_some_iff.mp h
  refine ha env S x S1 e1 r σ H _ A fun r1 H1 u s1 l1 q1 => ?_
  refine hb env S1 y S2 e2 r1 σ H1 _ (A.lat s1 l1) fun r2 H2 v s2 l2 q2 => ?_
  exact hg x y S2 d S' h r2 H2 u v Q s2 (q1.lat l2) q2 fun r3 H3 w s3 l3 q3 => hq r3 H3 w s3 (l1.trans (l2.trans l3)) q3
theorem cE_bin {a b : Expr} {op : Operator} {pos : Pos} {ma mb : ME} {rr : R2} {g : D → D → Sto → R} (ho : OpR X (binaryOp op) rr) (hg : OpS X rr g) (ha : CE X a ma) (hb : CE X b mb) : CE X (.BinOp a op b pos) (mBin g ma mb) :=
  ⟨fun env S d S' h r σ H Q A hq => tm_of (pe_op ho pe_tm pe_tm) (bin_ok ha hb hg h A hq)⟩
theorem cE_cmp {a b : Expr} {op : CmpOp} {pos : Pos} {ma mb : ME} {rr : R2} {g : D → D → Sto → R} (ho : OpR X (compareOp op) rr) (hg : OpS X rr g) (ha : CE X a ma) (hb : CE X b mb) (hm : behindInMarks op b = false) : CE X (.Compare a [op] [b] pos) (mBin g ma mb) :=
  ⟨fun env S d S' h r σ H Q A hq => tm_of (pe_cmpR ho pe_tm pe_tm hm) (bin_ok ha hb hg h A hq)⟩
/-- a value as a truth -/
def asB (m : ME) : MT := fun env S => (m env S).bind fun p => match p.1 with
  | .bl b => some (b, p.2)
  | _ => none
theorem cT_cmp {a b : Expr} {op : CmpOp} {pos : Pos} {ma mb : ME} {rr : R2} {g : D → D → Sto → R} (ho : OpR X (compareOp op) rr) (hg : OpS X rr g) (ha : CE X a ma) (hb : CE X b mb) (hm : behindInMarks op b = false) : CT X (.Compare a [op] [b] pos) (asB (mBin g ma mb)) := by
  refine ⟨?_⟩
  intro env S c S' h r σ H Q A hq
  obtain ⟨⟨d, S1⟩, e1, h⟩ := Option.bind_eq_some_iff.mp h
  split at h
  · rename_i b' eb
    cases h
    have eb' : d = .bl c := eb
    subst eb'
    refine tmt_of (pt_cmpR ho pe_tm pe_tm hm) (bin_ok (Q := fun x H' => ∃ k, x = .bl k ∧ Q k H') ha hb hg e1 A fun r' H' v s l q => ?_)
    cases q
    exact ⟨c, rfl, hq r' H' s l⟩
  · cases h

/-! ### truth -/
def dTru : D → Sto → Option Bool
  | .non, _ => some false
  | .bl b, _ => some b
  | .int i, _ => some (i != 0)
  | .str x, _ => if x.length ≤ sizeLine then some ((x.length : Int) != 0) else none
  | .tup xs, _ => some (!xs.isEmpty)
  | .ktup xs, _ => some (!xs.isEmpty)
  | .ref n, S => match S[n]? with
    | some (.lst xs) => some (!xs.isEmpty)
    | some (.cst xs) => some (!xs.isEmpty)
    | some (.dK xs) => some (!xs.isEmpty)
    | _ => none
  | _, _ => none
theorem isEmpty_len {α β : Type} {xs : List α} {ys : List β} (h : xs.length = ys.length) : xs.isEmpty = ys.isEmpty := by
  cases xs <;> cases ys <;> simp at h ⊢
theorem Paired.len {α β : Type} {P : α → β → Prop} : ∀ {xs : List α} {ys : List β}, Paired P xs ys → xs.length = ys.length
  | _, _, .nil => rfl
  | _, _, .cons _ t => congrArg Nat.succ (Paired.len t)
theorem dTru_ok {r : List Addr} {S : Sto} {H : Hp} {d : D} {v : V} {b : Bool} (s : Sim X.K X.mg r S H) (q : RepV X.K X.mg r H d v) (h : dTru d S = some b) : TruV X.K v H b := by
  cases q with
  | non => cases h; rfl
  | bl k => cases h; rfl
  | int i => cases h; rfl
  | str x =>
    have h' : (if x.length ≤ sizeLine then some ((x.length : Int) != 0) else none) = some b := h
    split at h'
    · rename_i hz
      cases h'
      exact ⟨hz, rfl⟩
    · cases h'
  | ty n => cases h
  | tup ht hl => cases h; exact .inr (.inl ⟨_, ht.sq, by rw [isEmpty_len hl.length]⟩)
  | ktup ht hl => cases h; exact .inr (.inl ⟨_, ht.sq, by rw [isEmpty_len hl.length]⟩)
  | fn _ => cases h
  | ref e =>
    rename_i n a
    simp only [dTru] at h
    split at h <;> first | (rename_i xs he; cases h; have o := s.ob n _ a he e) | cases h
    · obtain ⟨vs, e1, q1⟩ := o
      exact .inl ⟨vs, SqL.of e1, by rw [isEmpty_len q1.length]⟩
    · obtain ⟨vs, e1, q1⟩ := o
      exact .inl ⟨vs, e1.sq, by rw [isEmpty_len q1.length]⟩
    · obtain ⟨vs, e1, q1⟩ := o
      exact .inr (.inr ⟨vs, e1, by rw [isEmpty_len (Paired.len q1)]⟩)
def mTru (m : ME) : MT := fun env S => (m env S).bind fun p => (dTru p.1 p.2).bind fun b => some (b, p.2)
theorem cT_tru {a : Expr} {m : ME} (ha : CE X a m) (he : ∀ whole, isTrue a X.env whole = (do let v ← whole; standAt a.pos; holding [v] (truthy v))) : CT X a (mTru m) := by
  refine ⟨?_⟩
  intro env S c S' h r σ H Q A hq
  obtain ⟨⟨d, S1⟩, e1, h⟩ := Option.bind_eq_some_iff.mp h
  obtain ⟨k, e2, h⟩ := Option.bind_eq_some_iff.mp h
  cases h
  refine tmt_of (pt_truth pe_tm he) (ha env S d S1 e1 r σ H _ A fun r1 H1 v s1 l1 q1 => ⟨_, dTru_ok (X := X) s1 q1 e2, hq r1 H1 s1 l1⟩)
def mNotT (m : MT) : MT := fun env S => (m env S).bind fun p => some (!p.1, p.2)
theorem cT_not {a : Expr} {m : MT} {pos : Pos} (ha : CT X a m) : CT X (.UnaryOp .Not a pos) (mNotT m) := by
  refine ⟨?_⟩
  intro env S c S' h r σ H Q A hq
  obtain ⟨⟨d, S1⟩, e1, h⟩ := Option.bind_eq_some_iff.mp h
  cases h
  exact tmt_of (pt_not pt_tm) (ha env S d S1 e1 r σ H _ A fun r1 H1 s1 l1 => hq r1 H1 s1 l1)
def mAndT (a b : MT) : MT := fun env S => (a env S).bind fun p => if p.1 = true then b env p.2 else some (false, p.2)
def mOrT (a b : MT) : MT := fun env S => (a env S).bind fun p => if p.1 = true then some (true, p.2) else b env p.2
theorem cT_w {e : Expr} {m : MT} (h : CW X e m) : CT X e m := ⟨fun env S c S' hm r σ H Q A hq => tmt_of (pw_tm.pt) (h env S c S' hm r σ H Q A hq)⟩
theorem cW_and1 {a : Expr} {m : MT} {pos : Pos} (h : CT X a m) : CW X (.BoolOp .And [a] pos) m := ⟨fun env S c S' hm r σ H Q A hq => tmw_of (pw_and1 pt_tm) (h env S c S' hm r σ H Q A hq)⟩
theorem cW_or1 {a : Expr} {m : MT} {pos : Pos} (h : CT X a m) : CW X (.BoolOp .Or [a] pos) m := ⟨fun env S c S' hm r σ H Q A hq => tmw_of (pw_or1 pt_tm) (h env S c S' hm r σ H Q A hq)⟩
theorem cW_and {a b : Expr} {rest : List Expr} {m n : MT} {pos : Pos} (ha : CT X a m) (hb : CW X (.BoolOp .And (b :: rest) pos) n) : CW X (.BoolOp .And (a :: b :: rest) pos) (mAndT m n) := by
  refine ⟨?_⟩
  intro env S c S' h r σ H Q A hq
  obtain ⟨⟨d, S1⟩, e1, h⟩ := Option.bind_eq_some_iff.mp h
  refine tmw_of (pw_and pt_tm pw_tm) (ha env S d S1 e1 r σ H _ A fun r1 H1 s1 l1 => ?_)
  cases d with
  | true => exact hb env S1 c S' h r1 σ H1 Q (A.lat s1 l1) fun r2 H2 s2 l2 => hq r2 H2 s2 (l1.trans l2)
  | false => cases h; exact hq r1 H1 s1 l1
theorem cW_or {a b : Expr} {rest : List Expr} {m n : MT} {pos : Pos} (ha : CT X a m) (hb : CW X (.BoolOp .Or (b :: rest) pos) n) : CW X (.BoolOp .Or (a :: b :: rest) pos) (mOrT m n) := by
  refine ⟨?_⟩
  intro env S c S' h r σ H Q A hq
  obtain ⟨⟨d, S1⟩, e1, h⟩ := Option.bind_eq_some_iff.mp h
  refine tmw_of (pw_or pt_tm pw_tm) (ha env S d S1 e1 r σ H _ A fun r1 H1 s1 l1 => ?_)
  cases d with
  | false => exact hb env S1 c S' h r1 σ H1 Q (A.lat s1 l1) fun r2 H2 s2 l2 => hq r2 H2 s2 (l1.trans l2)
  | true => cases h; exact hq r1 H1 s1 l1
/-- x or y, x and y, not x as values, by truth -/
def mOrV (a b : ME) : ME := fun env S => (a env S).bind fun p => (dTru p.1 p.2).bind fun k => if k = true then some p else b env p.2
def mAndV (a b : ME) : ME := fun env S => (a env S).bind fun p => (dTru p.1 p.2).bind fun k => if k = true then b env p.2 else some p
def mNotV (a : ME) : ME := fun env S => (a env S).bind fun p => (dTru p.1 p.2).bind fun k => some (.bl (!k), p.2)
theorem cE_one {op} {a : Expr} {m : ME} {pos : Pos} (h : CE X a m) : CE X (.BoolOp op [a] pos) m := ⟨fun env S c S' hm r σ H Q A hq => tm_of (pe_one pe_tm) (h env S c S' hm r σ H Q A hq)⟩
theorem cE_or {a b : Expr} {rest : List Expr} {m n : ME} {pos : Pos} (ha : CE X a m) (hb : CE X (.BoolOp .Or (b :: rest) pos) n) : CE X (.BoolOp .Or (a :: b :: rest) pos) (mOrV m n) := by
  refine ⟨?_⟩
  intro env S c S' h r σ H Q A hq
  obtain ⟨⟨d, S1⟩, e1, h⟩ := Option.bind_eq_some_iff.mp h
  obtain ⟨k, e2, h⟩ := Option.bind_eq_some_iff.mp h
  refine tm_of (pe_orT pe_tm pe_tm) (ha env S d S1 e1 r σ H _ A fun r1 H1 v s1 l1 q1 => ⟨k, dTru_ok (X := X) s1 q1 e2, ?_⟩)
  cases k with
  | false => exact hb env S1 c S' h r1 σ H1 Q (A.lat s1 l1) fun r2 H2 w s2 l2 q2 => hq r2 H2 w s2 (l1.trans l2) q2
  | true => cases h; exact hq r1 H1 v s1 l1 q1
theorem cE_and {a b : Expr} {rest : List Expr} {m n : ME} {pos : Pos} (ha : CE X a m) (hb : CE X (.BoolOp .And (b :: rest) pos) n) : CE X (.BoolOp .And (a :: b :: rest) pos) (mAndV m n) := by
  refine ⟨?_⟩
  intro env S c S' h r σ H Q A hq
  obtain ⟨⟨d, S1⟩, e1, h⟩ := Option.bind_eq_some_iff.mp h
  obtain ⟨k, e2, h⟩ := Option.bind_eq_some_iff.mp h
  refine tm_of (pe_andT pe_tm pe_tm) (ha env S d S1 e1 r σ H _ A fun r1 H1 v s1 l1 q1 => ⟨k, dTru_ok (X := X) s1 q1 e2, ?_⟩)
  cases k with
  | true => exact hb env S1 c S' h r1 σ H1 Q (A.lat s1 l1) fun r2 H2 w s2 l2 q2 => hq r2 H2 w s2 (l1.trans l2) q2
  | false => cases h; exact hq r1 H1 v s1 l1 q1
theorem cE_not {a : Expr} {m : ME} {pos : Pos} (ha : CE X a m) : CE X (.UnaryOp .Not a pos) (mNotV m) := by
  refine ⟨?_⟩
  intro env S c S' h r σ H Q A hq
  obtain ⟨⟨d, S1⟩, e1, h⟩ := Option.bind_eq_some_iff.mp h
  obtain ⟨k, e2, h⟩ := Option.bind_eq_some_iff.mp h
  cases h
  exact tm_of (pe_notT pe_tm) (ha env S d S1 e1 r σ H _ A fun r1 H1 v s1 l1 q1 => ⟨k, dTru_ok (X := X) s1 q1 e2, hq r1 H1 _ s1 l1 (.bl _)⟩)
/-- a if c else b -/
def mIf (c : MT) (a b : ME) : ME := fun env S => (c env S).bind fun p => if p.1 = true then a env p.2 else b env p.2
theorem cE_if {c a b : Expr} {mc : MT} {ma mb : ME} {pos : Pos} (hc : CT X c mc) (ha : CE X a ma) (hb : CE X b mb) : CE X (.IfExp c a b pos) (mIf mc ma mb) := by
  refine ⟨?_⟩
  intro env S d S' h r σ H Q A hq
  obtain ⟨⟨k, S1⟩, e1, h⟩ := Option.bind_eq_some_iff.mp h
  refine tm_of (pe_ifExp pt_tm pe_tm pe_tm) (hc env S k S1 e1 r σ H _ A fun r1 H1 s1 l1 => ?_)
  cases k with
  | true => exact ha env S1 d S' h r1 σ H1 Q (A.lat s1 l1) fun r2 H2 w s2 l2 q2 => hq r2 H2 w s2 (l1.trans l2) q2
  | false => exact hb env S1 d S' h r1 σ H1 Q (A.lat s1 l1) fun r2 H2 w s2 l2 q2 => hq r2 H2 w s2 (l1.trans l2) q2

/-! ### calls of defs -/
def spM (K : PySem.W.Frag) (mg : Str → Option Value) (n : Nat) (m : MF) : Sp := fun vs H Q _ => ∃ r S ds d S', ds.length = n ∧ Sim K mg r S H ∧ RepL K mg r H ds vs ∧ m ds S = some (d, S') ∧
  ∀ r' H' v, Sim K mg r' S' H' → Lat r H r' H' → RepV K mg r' H' d v → Q v H'
def mCall (n : Nat) (m : MF) (a : MA) : ME := fun env S => (a env S).bind fun p => if p.1.length = n then m p.1 p.2 else none
theorem cE_call {f : Addr} {fd : FuncData} {ps : List Str} {k n : Nat} {m : MF} {x : Str} {p pos : Pos} {e : Expr} {es : List Expr} {a : MA} (F : FnOk X.prog X.w X.K X.mg X.base CX0 k f fd ps (spM X.K X.mg n m)) (hr : Room k X.A) (hg : Gl X x) (hm : X.mg x = some (.ref f))
    (hk : PySem.W.keepIn X.K (.ref f) = true) (hb : Binds X.K fd ps []) (ha : CA X (e :: es) a) (hdb : (x == ("__debug__" : Str)) = false := by decide) (he : starEach (e :: es) X.env = (false, eval e X.env) :: starEach es X.env := by rfl)
    (hpl : (backTo pos (starEach es X.env)).any (·.1) = false := by rfl) : CE X (.Call (.Name x p) (e :: es) [] pos) (mCall n m a) := by
  refine ⟨?_⟩
  intro env S d S' h r σ H Q A hq
  obtain ⟨⟨ds, S1⟩, e1, h⟩ := Option.bind_eq_some_iff.mp h
  split at h
  · rename_i hl
    refine tm_of (pe_call F hr hg hm hk hb .nil pass0 pa_tm hdb he hpl) (ha env S ds S1 e1 r σ H _ A fun r1 H1 vs s1 l1 q1 => ?_)
    rw [List.append_nil]
    exact ⟨r1, S1, ds, d, S', hl, s1, q1, h, fun r2 H2 v s2 l2 q2 => hq r2 H2 v s2 (l1.trans l2) q2⟩
  · cases h
theorem cE_call0 {f : Addr} {fd : FuncData} {ps : List Str} {k : Nat} {m : MF} {x : Str} {p pos : Pos} (F : FnOk X.prog X.w X.K X.mg X.base CX0 k f fd ps (spM X.K X.mg 0 m)) (hr : Room k X.A) (hg : Gl X x) (hm : X.mg x = some (.ref f))
    (hk : PySem.W.keepIn X.K (.ref f) = true) (hb : Binds X.K fd ps []) (hdb : (x == ("__debug__" : Str)) = false := by decide) : CE X (.Call (.Name x p) [] [] pos) (mCall 0 m mNil) := by
  refine ⟨?_⟩
  intro env S d S' h r σ H Q A hq
  refine tm_of (pe_call0 F hr hg hm hk hb .nil pass0 hdb) ?_
  exact ⟨r, S, [], d, S', rfl, A.sim, .nil, h, fun r2 H2 v s2 l2 q2 => hq r2 H2 v s2 l2 q2⟩
/-- built-ins by values -/
def CallS (X : Cx) (rr : List V → Hp → VK → Prop) (g : List D → Sto → R) : Prop := ∀ xs S d S', g xs S = some (d, S') → ∀ r H vs (Q : VK), Sim X.K X.mg r S H → RepL X.K X.mg r H xs vs →
  (∀ r' H' w, Sim X.K X.mg r' S' H' → Lat r H r' H' → RepV X.K X.mg r' H' d w → Q w H') → rr vs H Q
def mBlt (g : List D → Sto → R) (a : MA) : ME := fun env S => (a env S).bind fun p => g p.1 p.2
section
variable {x : Str} {p pos : Pos} {e : Expr} {es : List Expr} {a : MA} {rr : List V → Hp → VK → Prop} {g : List D → Sto → R} {id T : String}
theorem cE_callB (hc : CallR X (.builtin id) rr) (hs : CallS X rr g) (hg : Gl X x) (hm : X.mg x = none) (hv : bootBuiltins x = some (.builtin id)) (ha : CA X (e :: es) a) (hn : x ≠ "__name__" := by decide) (hdb : (x == ("__debug__" : Str)) = false := by decide)
    (he : starEach (e :: es) X.env = (false, eval e X.env) :: starEach es X.env := by rfl) (hpl : (backTo pos (starEach es X.env)).any (·.1) = false := by rfl) : CE X (.Call (.Name x p) (e :: es) [] pos) (mBlt g a) := by
  refine ⟨?_⟩
  intro env S d S' h r σ H Q A hq
  obtain ⟨⟨ds, S1⟩, e1, h⟩ := Option.bind_eq_some_iff.mp h
  refine tm_of (pe_callB hc hg hm hv pa_tm hn hdb he hpl) (ha env S ds S1 e1 r σ H _ A fun r1 H1 vs s1 l1 q1 => ?_)
  exact hs ds S1 d S' h r1 H1 vs Q s1 q1 fun r2 H2 w s2 l2 q2 => hq r2 H2 w s2 (l1.trans l2) q2
theorem cE_callTy (hc : CallR X (.type T) rr) (hs : CallS X rr g) (hg : Gl X x) (hm : X.mg x = none) (hv : bootBuiltins x = some (.type T)) (ha : CA X (e :: es) a) (hn : x ≠ "__name__" := by decide) (hdb : (x == ("__debug__" : Str)) = false := by decide)
    (he : starEach (e :: es) X.env = (false, eval e X.env) :: starEach es X.env := by rfl) (hpl : (backTo pos (starEach es X.env)).any (·.1) = false := by rfl) : CE X (.Call (.Name x p) (e :: es) [] pos) (mBlt g a) := by
  refine ⟨?_⟩
  intro env S d S' h r σ H Q A hq
  obtain ⟨⟨ds, S1⟩, e1, h⟩ := Option.bind_eq_some_iff.mp h
  refine tm_of (pe_callTy hc hg hm hv pa_tm hn hdb he hpl) (ha env S ds S1 e1 r σ H _ A fun r1 H1 vs s1 l1 q1 => ?_)
  exact hs ds S1 d S' h r1 H1 vs Q s1 q1 fun r2 H2 w s2 l2 q2 => hq r2 H2 w s2 (l1.trans l2) q2
end
/-- methods of built-in types by values -/
def MtS (X : Cx) (T : String) (rr : V → List V → Hp → VK → Prop) (g : D → List D → Sto → R) : Prop := ∀ x xs S d S', g x xs S = some (d, S') → ∀ r H u vs (Q : VK), Sim X.K X.mg r S H → RepV X.K X.mg r H x u → RepL X.K X.mg r H xs vs →
  (∀ r' H' w, Sim X.K X.mg r' S' H' → Lat r H r' H' → RepV X.K X.mg r' H' d w → Q w H') → rr u vs H Q
/-- x is of the type T in the store -/
def dIs (T : String) : D → Sto → Bool
  | .str _, _ => T == "str"
  | .int _, _ => T == "int"
  | .ref n, S => match S[n]? with
    | some (.lst _) => T == "list"
    | some (.cst _) => T == "list"
    | some (.dK _) => T == "dict"
    | some (.dT _) => T == "dict"
    | _ => false
  | _, _ => false
theorem dIs_ok {T : String} {r : List Addr} {S : Sto} {H : Hp} {d : D} {v : V} (s : Sim X.K X.mg r S H) (q : RepV X.K X.mg r H d v) (h : dIs T d S = true) : tyV X.K T v H := by
  cases q with
  | str x => exact eq_of_beq h
  | int i => exact eq_of_beq h
  | ref e =>
    rename_i n a
    simp only [dIs] at h
    split at h <;> first | (rename_i xs he; have o := s.ob n _ a he e; have hT := eq_of_beq h; subst hT) | cases h
    · obtain ⟨vs, e1, q1⟩ := o
      exact .inl ⟨rfl, vs, SqL.of e1⟩
    · obtain ⟨vs, e1, q1⟩ := o
      exact .inl ⟨rfl, vs, e1.sq⟩
    · obtain ⟨vs, e1, q1⟩ := o
      exact .inr (.inr (.inl ⟨rfl, .inl ⟨vs, e1⟩⟩))
    · obtain ⟨vs, e1, q1⟩ := o
      exact .inr (.inr (.inl ⟨rfl, .inr ⟨vs, e1⟩⟩))
  | _ => cases h
def mMt (T : String) (g : D → List D → Sto → R) (o : ME) (a : MA) : ME := fun env S => (o env S).bind fun p => if dIs T p.1 p.2 = true then (a env p.2).bind fun q => g p.1 q.1 q.2 else none
section
variable {T id : String} {name : Str} {apos cpos : Pos} {o e : Expr} {es : List Expr} {a : MA} {mo : ME} {rr : V → List V → Hp → VK → Prop} {g : D → List D → Sto → R}
theorem cE_mt0 (pa : PlainAttrs T) (slot : Slot T name id) (hty : typeOf (.builtin id) = pure (.type "method_descriptor")) (hm : MtR X id rr) (hs : MtS X T rr g) (ho : CE X o mo)
    (hbase : attributeBase o name X.env (eval o X.env) = eval o X.env := by rfl) (hline : (apos.endLine == cpos.line) = true := by rfl) : CE X (.Call (.Attribute o name apos) [] [] cpos) (mMt T g mo mNil) := by
  refine ⟨?_⟩
  intro env S d S' h r σ H Q A hq
  obtain ⟨⟨x, S1⟩, e1, h⟩ := Option.bind_eq_some_iff.mp h
  split at h
  · rename_i hT
    refine tm_of (pe_bm0 pa slot hty hm pe_tm hbase hline) (ho env S x S1 e1 r σ H _ A fun r1 H1 v s1 l1 q1 => ⟨dIs_ok (X := X) s1 q1 hT, ?_⟩)
    exact hs x [] S1 d S' h r1 H1 v [] Q s1 q1 .nil fun r2 H2 w s2 l2 q2 => hq r2 H2 w s2 (l1.trans l2) q2
  · cases h
theorem cE_mt (pa : PlainAttrs T) (slot : Slot T name id) (hty : typeOf (.builtin id) = pure (.type "method_descriptor")) (hm : MtR X id rr) (hs : MtS X T rr g) (ho : CE X o mo) (ha : CA X (e :: es) a)
    (hbase : attributeBase o name X.env (eval o X.env) = eval o X.env := by rfl)
    (hfew : ((backTo cpos (starEach (e :: es) X.env)).all (fun x => !x.1) && (backToKw cpos (keywordEach [] X.env)).all (fun x => x.1.isSome)
      && decide ((e :: es).length + ([] : List Keyword).length + (if ([] : List Keyword).isEmpty then 0 else 1) < 30)) = true := by rfl)
    (hline : (apos.endLine == cpos.line) = true := by rfl) (hst : starEach (e :: es) X.env = (false, eval e X.env) :: starEach es X.env := by rfl) (hplain : (backTo cpos (starEach es X.env)).any (·.1) = false := by rfl) :
    CE X (.Call (.Attribute o name apos) (e :: es) [] cpos) (mMt T g mo a) := by
  refine ⟨?_⟩
  intro env S d S' h r σ H Q A hq
  obtain ⟨⟨x, S1⟩, e1, h⟩ := Option.bind_eq_some_iff.mp h
  split at h
  · rename_i hT
    obtain ⟨⟨ds, S2⟩, e2, h⟩ := Option.bind_eq_some_iff.mp h
    refine tm_of (pe_bm pa slot hty hm pe_tm pa_tm hbase hfew hline hst hplain) (ho env S x S1 e1 r σ H _ A fun r1 H1 v s1 l1 q1 => ⟨dIs_ok (X := X) s1 q1 hT, ?_⟩)
    refine ha env S1 ds S2 e2 r1 σ H1 _ (A.lat s1 l1) fun r2 H2 vs s2 l2 q2 => ?_
    exact hs x ds S2 d S' h r2 H2 v vs Q s2 (q1.lat l2) q2 fun r3 H3 w s3 l3 q3 => hq r3 H3 w s3 (l1.trans (l2.trans l3)) q3
  · cases h
end
/-! ### subscripts, slices -/
theorem cE_ix {a b : Expr} {pos : Pos} {ma mb : ME} {rr : R2} {g : D → D → Sto → R} (hr : IxR X rr) (hg : OpS X rr g) (ha : CE X a ma) (hb : CE X b mb) (hs : PlainIx b) : CE X (.Subscript a b pos) (mBin g ma mb) :=
  ⟨fun env S d S' h r σ H Q A hq => tm_of (pe_ix hr pe_tm pe_tm hs) (bin_ok ha hb hg h A hq)⟩
abbrev MO := Env → Sto → Option (Option Int × Sto)
def CO0 (X : Cx) (e : Option Expr) (m : MO) : Prop := ∃ t, PO X e t ∧ ∀ env S i S', m env S = some (i, S') → ∀ r σ H (Q : Option Int → Hp → Prop), At X r env S σ H →
  (∀ r' H', Sim X.K X.mg r' S' H' → Lat r H r' H' → Q i H') → t σ H Q
structure CO (X : Cx) (e : Option Expr) (m : MO) : Prop where
  run : ∃ t, PO X e t ∧ ∀ env S i S', m env S = some (i, S') → ∀ r σ H (Q : Option Int → Hp → Prop), At X r env S σ H →
  (∀ r' H', Sim X.K X.mg r' S' H' → Lat r H r' H' → Q i H') → t σ H Q
def mNo : MO := fun _ S => some (none, S)
def mPart (m : ME) : MO := fun env S => (m env S).bind fun p => match p.1 with
  | .int i => if -(2 ^ 63) ≤ i ∧ i < 2 ^ 63 then some (some i, p.2) else none
  | _ => none
theorem cO_some {e : Expr} {m : ME} (he : CE X e m) : CO X (some e) (mPart m) := by
  refine ⟨_, po_some pe_tm, fun env S i S' h r σ H Q A hq => ?_⟩
  obtain ⟨⟨x, S1⟩, e1, h⟩ := Option.bind_eq_some_iff.mp h
  split at h
  · rename_i j ej
    have ej' : x = .int j := ej
    subst ej'
    split at h
    · cases h
      refine he env S _ S1 e1 r σ H _ A fun r1 H1 v s1 l1 q1 => ?_
      cases q1
      exact ⟨_, rfl, hq r1 H1 s1 l1⟩
    · cases h
  · cases h
theorem cO_none : CO X none mNo := ⟨_, po_none, fun env S i S' h r σ H Q A hq => by cases h; exact hq r H A.sim .refl⟩
def SlS (X : Cx) (rr : V → Option Int → Option Int → Hp → VK → Prop) (g : D → Option Int → Option Int → Sto → R) : Prop := ∀ x lo hi S d S', g x lo hi S = some (d, S') → ∀ r H u (Q : VK), Sim X.K X.mg r S H → RepV X.K X.mg r H x u →
  (∀ r' H' w, Sim X.K X.mg r' S' H' → Lat r H r' H' → RepV X.K X.mg r' H' d w → Q w H') → rr u lo hi H Q
def mSl (g : D → Option Int → Option Int → Sto → R) (o : ME) (a b : MO) : ME := fun env S => (o env S).bind fun p => (a env p.2).bind fun q => (b env q.2).bind fun t => g p.1 q.1 t.1 t.2
theorem cE_sl {e : Expr} {lo hi : Option Expr} {p2 pos : Pos} {m : ME} {a b : MO} {rr : V → Option Int → Option Int → Hp → VK → Prop} {g : D → Option Int → Option Int → Sto → R} (hr : SlR X rr) (hg : SlS X rr g) (he : CE X e m) (ha : CO X lo a) (hb : CO X hi b) : CE X (.Subscript e (.Slice lo hi none p2) pos) (mSl g m a b) := by
  refine ⟨?_⟩
  intro env S d S' h r σ H Q A hq
  obtain ⟨ta, pa, ha⟩ := ha
  obtain ⟨tb, pb, hb⟩ := hb
  obtain ⟨⟨x, S1⟩, e1, h⟩ := Option.bind_eq_some_iff.mp h
  obtain ⟨⟨i, S2⟩, e2, h⟩ := Option.bind_eq_some_iff.mp h
  obtain ⟨⟨j, S3⟩, e3, h⟩ := Option.bind_eq_some_iff.mp h
  refine tm_of (pe_slice hr pe_tm pa pb) (he env S x S1 e1 r σ H _ A fun r1 H1 v s1 l1 q1 => ?_)
  refine ha env S1 i S2 e2 r1 σ H1 _ (A.lat s1 l1) fun r2 H2 s2 l2 => ?_
  refine hb env S2 j S3 e3 r2 σ H2 _ ((A.lat s1 l1).lat s2 l2) fun r3 H3 s3 l3 => ?_
  exact hg x i j S3 d S' h r3 H3 v Q s3 ((q1.lat l2).lat l3) fun r4 H4 w s4 l4 q4 => hq r4 H4 w s4 (l1.trans (l2.trans (l3.trans l4))) q4
end
end PL
end

section
set_option Elab.async false
set_option linter.all false
set_option maxRecDepth 100000
/-! PL2: statements, targets, loops, comprehensions -/
namespace PL
open PySem PySem.Spec PyProof.Rows L2

section
variable {X : Cx}
/-! ### blocks, small statements -/
def mNext : MS := fun env S => some (.nx, env, S)
def mSeq (a b : MS) : MS := fun env S => (a env S).bind fun p => match p.1 with
  | .nx => b p.2.1 p.2.2
  | _ => some p
theorem cSs_nil : CSs X [] mNext := by
  refine ⟨?_⟩
  intro env S f env' S' h r σ H D A hq
  cases h
  exact tmss_of pss_nil (hq r σ H A .refl)
theorem cSs_cons {st : Stmt} {rest : List Stmt} {a b : MS} (ha : CS X st a) (hb : CSs X rest b) : CSs X (st :: rest) (mSeq a b) := by
  refine ⟨?_⟩
  intro env S f env' S' h r σ H D A hq
  obtain ⟨⟨f1, env1, S1⟩, e1, h⟩ := Option.bind_eq_some_iff.mp h
  refine tmss_of (pss_cons ps_tm pss_tm) (ha env S f1 env1 S1 e1 r σ H _ A ?_)
  cases f1 with
  | nx => exact fun r1 σ1 H1 A1 l1 => hb env1 S1 f env' S' h r1 σ1 H1 D A1 (hq.lat l1)
  | bk => cases h; exact hq
  | ct => cases h; exact hq
  | rt d => cases h; exact hq
theorem cSs_one {st : Stmt} {a : MS} (ha : CS X st a) : CSs X [st] a := by
  refine ⟨?_⟩
  intro env S f env' S' h r σ H D A hq
  exact tmss_of (pss_one ps_tm) (ha env S f env' S' h r σ H D A hq)
theorem cS_pass {pos : Pos} : CS X (.Pass pos) mNext := by
  refine ⟨?_⟩
  intro env S f env' S' h r σ H D A hq
  cases h
  exact tms_of ps_pass (hq r σ H A .refl)
def mBk : MS := fun env S => some (.bk, env, S)
def mCt : MS := fun env S => some (.ct, env, S)
theorem cS_break {pos : Pos} : CS X (.Break pos) mBk := by
  refine ⟨?_⟩
  intro env S f env' S' h r σ H D A hq
  cases h
  exact tms_of ps_break (hq r σ H A .refl)
theorem cS_cont {pos : Pos} : CS X (.Continue pos) mCt := by
  refine ⟨?_⟩
  intro env S f env' S' h r σ H D A hq
  cases h
  exact tms_of ps_continue (hq r σ H A .refl)
def mDrop (m : ME) : MS := fun env S => (m env S).bind fun p => some (.nx, env, p.2)
theorem cS_expr {e : Expr} {m : ME} {pos : Pos} (he : CE X e m) (hs : swapsWith e none pos.line X.env = pure false := by rfl) : CS X (.Expr e pos) (mDrop m) := by
  refine ⟨?_⟩
  intro env S f env' S' h r σ H D A hq
  obtain ⟨⟨d, S1⟩, e1, h⟩ := Option.bind_eq_some_iff.mp h
  cases h
  exact tms_of (ps_expr pe_tm hs) (he env S d S1 e1 r σ H _ A fun r1 H1 v s1 l1 q1 => hq r1 σ H1 (A.lat s1 l1) l1)
def mRet (m : ME) : MS := fun env S => (m env S).bind fun p => some (.rt p.1, env, p.2)
theorem cS_ret {e : Expr} {m : ME} {pos : Pos} (he : CE X e m) : CS X (.Return (some e) pos) (mRet m) := by
  refine ⟨?_⟩
  intro env S f env' S' h r σ H D A hq
  obtain ⟨⟨d, S1⟩, e1, h⟩ := Option.bind_eq_some_iff.mp h
  cases h
  exact tms_of (ps_ret pe_tm) (he env S d S1 e1 r σ H _ A fun r1 H1 v s1 l1 q1 => hq r1 H1 v s1 l1 q1)
def mRetN : MS := fun env S => some (.rt .non, env, S)
theorem cS_retN {pos : Pos} : CS X (.Return none pos) mRetN := by
  refine ⟨?_⟩
  intro env S f env' S' h r σ H D A hq
  cases h
  exact tms_of ps_retN (hq r H .non A.sim .refl .non)
def mIfS (c : MT) (a b : MS) : MS := fun env S => (c env S).bind fun p => if p.1 = true then a env p.2 else b env p.2
theorem cS_if {c : Expr} {x y : List Stmt} {mc : MT} {a b : MS} {pos : Pos} (hc : CT X c mc) (ha : CSs X x a) (hb : CSs X y b) : CS X (.If c x y pos) (mIfS mc a b) := by
  refine ⟨?_⟩
  intro env S f env' S' h r σ H D A hq
  obtain ⟨⟨k, S1⟩, e1, h⟩ := Option.bind_eq_some_iff.mp h
  refine tms_of (ps_if pt_tm pss_tm pss_tm) (hc env S k S1 e1 r σ H _ A fun r1 H1 s1 l1 => ?_)
  cases k with
  | true => exact ha env S1 f env' S' h r1 σ H1 D (A.lat s1 l1) (hq.lat l1)
  | false => exact hb env S1 f env' S' h r1 σ H1 D (A.lat s1 l1) (hq.lat l1)

/-! ### targets: L the slots that they store to -/
def CG0 (X : Cx) (tg : Expr) (L : List Nat) (m : MG) : Prop := ∀ d env S env' S', m d env S = some (env', S') → ∀ r σ H v (Q : L2.St → Hp → Prop), At X r env S σ H → RepV X.K X.mg r H d v →
  (∀ r' σ' H', At X r' env' S' σ' H' → Lat r H r' H' → (∀ vs : List Nat, (∀ i ∈ L, i ∈ vs) → wipe σ' vs = wipe σ vs) → Q σ' H') → TMg X tg v σ H Q
structure CG (X : Cx) (tg : Expr) (L : List Nat) (m : MG) : Prop where
  run : ∀ d env S env' S', m d env S = some (env', S') → ∀ r σ H v (Q : L2.St → Hp → Prop), At X r env S σ H → RepV X.K X.mg r H d v →
  (∀ r' σ' H', At X r' env' S' σ' H' → Lat r H r' H' → (∀ vs : List Nat, (∀ i ∈ L, i ∈ vs) → wipe σ' vs = wipe σ vs) → Q σ' H') → TMg X tg v σ H Q
instance {X : Cx} {tg : Expr} {L : List Nat} {m : MG} : CoeFun (CG X tg L m) (fun _ => ∀ d env S env' S', m d env S = some (env', S') → ∀ r σ H v (Q : L2.St → Hp → Prop), At X r env S σ H → RepV X.K X.mg r H d v →
  (∀ r' σ' H', At X r' env' S' σ' H' → Lat r H r' H' → (∀ vs : List Nat, (∀ i ∈ L, i ∈ vs) → wipe σ' vs = wipe σ vs) → Q σ' H') → TMg X tg v σ H Q
) := ⟨CG.run⟩
def CGs0 (X : Cx) (tgs : List Expr) (L : List Nat) (m : List D → Env → Sto → Option (Env × Sto)) : Prop := ∃ t : TGs, PGs X tgs t ∧ ∀ ds env S env' S', m ds env S = some (env', S') → ∀ r σ H vs (Q : L2.St → Hp → Prop), At X r env S σ H → RepL X.K X.mg r H ds vs →
  (∀ r' σ' H', At X r' env' S' σ' H' → Lat r H r' H' → (∀ vs : List Nat, (∀ i ∈ L, i ∈ vs) → wipe σ' vs = wipe σ vs) → Q σ' H') → t vs σ H Q
structure CGs (X : Cx) (tgs : List Expr) (L : List Nat) (m : List D → Env → Sto → Option (Env × Sto)) : Prop where
  run : ∃ t : TGs, PGs X tgs t ∧ ∀ ds env S env' S', m ds env S = some (env', S') → ∀ r σ H vs (Q : L2.St → Hp → Prop), At X r env S σ H → RepL X.K X.mg r H ds vs →
  (∀ r' σ' H', At X r' env' S' σ' H' → Lat r H r' H' → (∀ vs : List Nat, (∀ i ∈ L, i ∈ vs) → wipe σ' vs = wipe σ vs) → Q σ' H') → t vs σ H Q
theorem wipe_get (σ : L2.St) : ∀ (vs : List Nat) (j : Nat), (wipe σ vs)[j]? = if j < σ.length then (if j ∈ vs then some none else σ[j]?) else none
  | [], j => by
    by_cases h : j < σ.length
    · simp [wipe, h]
    · simp [wipe, h]
  | v :: vs, j => by
    have ih := wipe_get σ vs j
    unfold wipe
    by_cases hv : v = j
    · subst hv
      by_cases h : v < σ.length
      · rw [List.getElem?_set_self (by rw [wipe_length]; exact h), if_pos h, if_pos (List.mem_cons_self ..)]
      · rw [if_neg h, List.getElem?_eq_none (by rw [List.length_set, wipe_length]; omega)]
    · rw [List.getElem?_set_ne hv, ih]
      have e : (j ∈ v :: vs) ↔ j ∈ vs := by simp [Ne.symm hv]
      simp only [e]
theorem wipe_set {σ : L2.St} {vs : List Nat} {i : Nat} {x : Option V} (h : i ∈ vs) : wipe (σ.set i x) vs = wipe σ vs := by
  apply List.ext_getElem?
  intro j
  rw [wipe_get, wipe_get, List.length_set]
  by_cases hj : j ∈ vs
  · simp [hj]
  · have : i ≠ j := fun e => hj (e ▸ h)
    simp [hj, List.getElem?_set_ne this]
def gN (i : Nat) : MG := fun d env S => some (env.set i (some d), S)
theorem cG_name {i : Nat} {x : Str} {pos : Pos} (hN : X.N.Nodup) (hi : X.N[i]? = some x) (hx : Loc X.env.scope x) (hf : X.fn x = true ∨ X.env.scope.names.lookup x = some .local := by first | exact .inl rfl | exact .inr rfl | assumption) : CG X (.Name x pos) [i] (gN i) := by
  refine ⟨?_⟩
  intro d env S env' S' h r σ H v Q A q hq
  cases h
  exact tmg_of (pg_name hN hi hx hf) (hq r _ H ⟨A.sim, A.env.set q⟩ .refl fun vs hv => wipe_set (hv i (by simp)))
def gsN : List D → Env → Sto → Option (Env × Sto) := fun ds env S => match ds with
  | [] => some (env, S)
  | _ => none
def gsC (a : MG) (b : List D → Env → Sto → Option (Env × Sto)) : List D → Env → Sto → Option (Env × Sto) := fun ds env S => match ds with
  | d :: ds => (a d env S).bind fun p => b ds p.1 p.2
  | [] => none
theorem cGs_nil : CGs X [] [] gsN := by
  refine ⟨_, pgs_nil, fun ds env S env' S' h r σ H vs Q A q hq => ?_⟩
  cases q with
  | nil => cases h; exact ⟨rfl, hq r σ H A .refl fun _ _ => rfl⟩
  | cons _ _ => cases h
theorem cGs_cons {e : Expr} {es : List Expr} {L M : List Nat} {a : MG} {b : List D → Env → Sto → Option (Env × Sto)} (ha : CG X e L a) (hb : CGs X es M b) (hs : (assignEach (e :: es) X.env).map (·.2) = assign e X.env :: (assignEach es X.env).map (·.2) := by rfl) :
    CGs X (e :: es) (L ++ M) (gsC a b) := by
  obtain ⟨t, pt, hb⟩ := hb
  refine ⟨_, pgs_cons pg_tm pt hs, fun ds env S env' S' h r σ H vs Q A q hq => ?_⟩
  cases q with
  | nil => cases h
  | cons q1 q2 =>
    obtain ⟨⟨env1, S1⟩, e1, h⟩ := Option.bind_eq_some_iff.mp h
    refine ⟨_, _, rfl, ha _ env S env1 S1 e1 r σ H _ _ A q1 fun r1 σ1 H1 A1 l1 w1 => ?_⟩
    refine hb _ env1 S1 env' S' h r1 σ1 H1 _ Q A1 (q2.lat l1) fun r2 σ2 H2 A2 l2 w2 => ?_
    exact hq r2 σ2 H2 A2 (l1.trans l2) fun vs hv => (w2 vs fun i hi => hv i (List.mem_append_right _ hi)).trans (w1 vs fun i hi => hv i (List.mem_append_left _ hi))
def gT (n : Nat) (b : List D → Env → Sto → Option (Env × Sto)) : MG := fun d env S => match d with
  | .tup ds => if ds.length = n then b ds env S else none
  | _ => none
theorem cG_tup {es : List Expr} {k n : Nat} {L : List Nat} {pos : Pos} {b : List D → Env → Sto → Option (Env × Sto)} (hc : X.calm = true) (hb : CGs X es L b) (hn : (assignEach es X.env).length = n := by rfl) (hst : (assignEach es X.env).findIdx? (·.1) = none := by rfl) : CG X (.Tuple es k pos) L (gT n b) := by
  obtain ⟨t, pt, hb⟩ := hb
  refine ⟨?_⟩
  intro d env S env' S' h r σ H v Q A q hq
  unfold gT at h
  cases q with
  | tup ht hl =>
    simp only at h
    split at h
    · rename_i hz
      exact tmg_of (pg_tup hc pt hn hst) ⟨_, _, rfl, ht.sq, by rw [← hl.length]; exact hz, hb _ env S env' S' h r σ H _ Q A hl hq⟩
    · cases h
  | _ => cases h
/-- o[i] = v by values -/
def SetS (X : Cx) (t : TSet) (g : D → D → D → Sto → Option Sto) : Prop := ∀ o i d S S', g o i d S = some S' → ∀ r H u v w (Q : Hp → Prop), Sim X.K X.mg r S H → RepV X.K X.mg r H o u → RepV X.K X.mg r H i v → RepV X.K X.mg r H d w →
  (∀ r' H', Sim X.K X.mg r' S' H' → Lat r H r' H' → Q H') → t u v w H Q
def gSubM (o i : ME) (g : D → D → D → Sto → Option Sto) : MG := fun d env S => (o env S).bind fun p => (i env p.2).bind fun q => (g p.1 q.1 d q.2).bind fun S' => some (env, S')
theorem cG_sub {o i : Expr} {mo mi : ME} {t : TSet} {g : D → D → D → Sto → Option Sto} {pos : Pos} (hs : PSet X t) (hg : SetS X t g) (ho : CE X o mo) (hi : CE X i mi)
    (ha : ∀ v, assign (.Subscript o i pos) X.env v = (do
      let ov ← holding [v] (eval o X.env)
      let iv ← holding [v, ov] (eval i X.env)
      standAt pos
      holding [v, ov, iv] (setItem ov iv v)
      release [v, ov, iv] []) := by intro _; rfl) : CG X (.Subscript o i pos) [] (gSubM mo mi g) := by
  refine ⟨?_⟩
  intro d env S env' S' h r σ H v Q A q hq
  obtain ⟨⟨x, S1⟩, e1, h⟩ := Option.bind_eq_some_iff.mp h
  obtain ⟨⟨y, S2⟩, e2, h⟩ := Option.bind_eq_some_iff.mp h
  obtain ⟨S3, e3, h⟩ := Option.bind_eq_some_iff.mp h
  cases h
  refine tmg_of (pg_sub pe_tm pe_tm hs ha) (ho env S x S1 e1 r σ H _ A fun r1 H1 u s1 l1 q1 => ?_)
  refine hi env S1 y S2 e2 r1 σ H1 _ (A.lat s1 l1) fun r2 H2 w s2 l2 q2 => ?_
  refine hg x y d S2 S' e3 r2 H2 u w v _ s2 (q1.lat l2) q2 ((q.lat l1).lat l2) fun r3 H3 s3 l3 => ?_
  exact hq r3 σ H3 (((A.lat s1 l1).lat s2 l2).lat s3 l3) (l1.trans (l2.trans l3)) fun _ _ => rfl
def mAsg (m : ME) (g : MG) : MS := fun env S => (m env S).bind fun p => (g p.1 env p.2).bind fun q => some (.nx, q.1, q.2)
theorem cS_asg {tg e : Expr} {m : ME} {g : MG} {L : List Nat} {pos : Pos} (he : CE X e m) (hg : CG X tg L g) (hs : swapsWithSole [tg] e pos.line X.env = pure false := by rfl) (hw : swappedStores [tg] e X.env = pure none := by rfl)
    (h1 : (assignEach [tg] X.env).map (·.2) = [assign tg X.env] := by rfl) : CS X (.Assign [tg] e pos) (mAsg m g) := by
  refine ⟨?_⟩
  intro env S f env' S' h r σ H D A hq
  obtain ⟨⟨d, S1⟩, e1, h⟩ := Option.bind_eq_some_iff.mp h
  obtain ⟨⟨env2, S2⟩, e2, h⟩ := Option.bind_eq_some_iff.mp h
  cases h
  refine tms_of (ps_asg pe_tm pg_tm hs hw h1) (he env S d S1 e1 r σ H _ A fun r1 H1 v s1 l1 q1 => ?_)
  exact hg d env S1 _ _ e2 r1 σ H1 v _ (A.lat s1 l1) q1 fun r2 σ2 H2 A2 l2 _ => hq r2 σ2 H2 A2 (l1.trans l2)
theorem cS_set {i : Nat} {x : Str} {e : Expr} {m : ME} {pos pos' : Pos} (hN : X.N.Nodup) (hi : X.N[i]? = some x) (hx : Loc X.env.scope x) (he : CE X e m) (hs : swapsWith e (some (.Name x pos')) pos.line X.env = pure false := by rfl) (hf : X.fn x = true ∨ X.env.scope.names.lookup x = some .local := by first | exact .inl rfl | exact .inr rfl | assumption) :
    CS X (.Assign [.Name x pos'] e pos) (mAsg m (gN i)) := by
  refine ⟨?_⟩
  intro env S f env' S' h r σ H D A hq
  obtain ⟨⟨d, S1⟩, e1, h⟩ := Option.bind_eq_some_iff.mp h
  cases h
  refine tms_of (ps_set hN hi hx pe_tm hs hf) (he env S d _ e1 r σ H _ A fun r1 H1 v s1 l1 q1 => ?_)
  exact hq r1 _ H1 ⟨s1, (A.env.lat l1).set q1⟩ l1
/-- a, b = x, y -/
def mPar (is : List Nat) (a : MA) : MS := fun env S => (a env S).bind fun p => if p.1.length = is.length then some (.nx, (is.zip p.1).foldl (fun e q => e.set q.1 (some q.2)) env, p.2) else none
theorem cS_par {i j : Nat} {x y : Str} {a b : Expr} {ma : MA} {px py pt pos : Pos} {kt k2 pt2} (hc : X.calm = true) (hN : X.N.Nodup) (hi : X.N[i]? = some x) (hj : X.N[j]? = some y) (hij : i ≠ j)
    (hx : X.env.scope.names.lookup x = some .local) (hy : X.env.scope.names.lookup y = some .local) (ha : CA X [a, b] ma)
    (hw : swappedStores [.Tuple [.Name x px, .Name y py] kt pt] (.Tuple [a, b] k2 pt2) X.env = pure (some [x, y]))
    (hs : swapsWithSole [.Tuple [.Name x px, .Name y py] kt pt] (.Tuple [a, b] k2 pt2) pos.line X.env = pure false := by rfl) :
    CS X (.Assign [.Tuple [.Name x px, .Name y py] kt pt] (.Tuple [a, b] k2 pt2) pos) (mPar [i, j] ma) := by
  refine ⟨?_⟩
  intro env S f env' S' h r σ H D A hq
  obtain ⟨⟨ds, S1⟩, e1, h⟩ := Option.bind_eq_some_iff.mp h
  split at h
  · rename_i hl
    cases h
    refine tms_of (ps_par hc hN hi hj hij hx hy pa_tm hw hs) (ha env S ds _ e1 r σ H _ A fun r1 H1 vs s1 l1 q1 => ?_)
    match ds, hl, q1 with
    | [d1, d2], _, .cons (v := v1) z1 (.cons (v := v2) z2 .nil) => exact ⟨v1, v2, rfl, hq r1 _ H1 ⟨s1, ((A.env.lat l1).set z1).set z2⟩ l1⟩
  · cases h
theorem cS_par3 {i j l : Nat} {x y z : Str} {a b c : Expr} {ma : MA} {px py pz pt pos : Pos} {kt k2 pt2} (hc : X.calm = true) (hN : X.N.Nodup) (hi : X.N[i]? = some x) (hj : X.N[j]? = some y) (hl : X.N[l]? = some z) (hij : i ≠ j) (hil : i ≠ l) (hjl : j ≠ l)
    (hx : X.env.scope.names.lookup x = some .local) (hy : X.env.scope.names.lookup y = some .local) (hz : X.env.scope.names.lookup z = some .local) (ha : CA X [a, b, c] ma)
    (hw : swappedStores [.Tuple [.Name x px, .Name y py, .Name z pz] kt pt] (.Tuple [a, b, c] k2 pt2) X.env = pure (some [x, y, z]))
    (hs : swapsWithSole [.Tuple [.Name x px, .Name y py, .Name z pz] kt pt] (.Tuple [a, b, c] k2 pt2) pos.line X.env = pure false := by rfl) :
    CS X (.Assign [.Tuple [.Name x px, .Name y py, .Name z pz] kt pt] (.Tuple [a, b, c] k2 pt2) pos) (mPar [i, j, l] ma) := by
  refine ⟨?_⟩
  intro env S f env' S' h r σ H D A hq
  obtain ⟨⟨ds, S1⟩, e1, h⟩ := Option.bind_eq_some_iff.mp h
  split at h
  · rename_i hln
    cases h
    refine tms_of (ps_par3 hc hN hi hj hl hij hil hjl hx hy hz pa_tm hw hs) (ha env S ds _ e1 r σ H _ A fun r1 H1 vs s1 l1 q1 => ?_)
    match ds, hln, q1 with
    | [d1, d2, d3], _, .cons (v := v1) z1 (.cons (v := v2) z2 (.cons (v := v3) z3 .nil)) => exact ⟨v1, v2, v3, rfl, hq r1 _ H1 ⟨s1, (((A.env.lat l1).set z1).set z2).set z3⟩ l1⟩
  · cases h

/-! ### while -/
def mWh (c : MT) (b : MS) : Nat → MS
  | 0 => fun _ _ => none
  | n + 1 => fun env S => (c env S).bind fun p => if p.1 = true then (b env p.2).bind fun q => match q.1 with
      | .nx => mWh c b n q.2.1 q.2.2
      | .ct => mWh c b n q.2.1 q.2.2
      | .bk => some (.nx, q.2.1, q.2.2)
      | .rt d => some (.rt d, q.2.1, q.2.2)
    else some (.nx, env, p.2)
theorem cS_while {c : Expr} {body : List Stmt} {mc : MT} {mb : MS} {pos : Pos} (n : Nat) (hp : PassesOwn (model X.prog X.w) X.A X.env X.xe) (hc : CT X c mc) (hb : CSs X body mb) : CS X (.While c body [] pos) (mWh mc mb n) := by
  refine ⟨?_⟩
  intro env S f env' S' h r σ H D A hq
  refine tms_of (ps_while hp pt_tm pss_tm) ⟨fun m σ1 H1 => ∃ r1 env1 S1, At X r1 env1 S1 σ1 H1 ∧ Lat r H r1 H1 ∧ mWh mc mb m env1 S1 = some (f, env', S'), ⟨n, r, env, S, A, .refl, h⟩, ?_⟩
  rintro m σ1 H1 ⟨r1, env1, S1, A1, l1, h1⟩
  cases m with
  | zero => cases h1
  | succ m =>
    obtain ⟨⟨k, S2⟩, e2, h1⟩ := Option.bind_eq_some_iff.mp h1
    refine hc env1 S1 k S2 e2 r1 σ1 H1 _ A1 fun r2 H2 s2 l2 => ?_
    cases k with
    | false =>
      cases h1
      exact iteF (hq r2 σ1 H2 (A1.lat s2 l2) (l1.trans l2))
    | true =>
      refine iteT ⟨fun σ' H' => ∃ m', m' < m + 1 ∧ ∃ r1 env1 S1, At X r1 env1 S1 σ' H' ∧ Lat r H r1 H' ∧ mWh mc mb m' env1 S1 = some (f, env', S'), fun σ' H' z => z, ?_⟩
      obtain ⟨⟨f3, env3, S3⟩, e3, h1⟩ := Option.bind_eq_some_iff.mp h1
      refine hb env1 S2 f3 env3 S3 e3 r2 σ1 H2 _ (A1.lat s2 l2) ?_
      cases f3 with
      | nx => exact fun r4 σ4 H4 A4 l4 => ⟨m, Nat.lt_succ_self m, r4, env3, S3, A4, l1.trans (l2.trans l4), h1⟩
      | ct => exact fun r4 σ4 H4 A4 l4 => ⟨m, Nat.lt_succ_self m, r4, env3, S3, A4, l1.trans (l2.trans l4), h1⟩
      | bk => cases h1; exact fun r4 σ4 H4 A4 l4 => hq r4 σ4 H4 A4 (l1.trans (l2.trans l4))
      | rt d => cases h1; exact fun r4 H4 v s4 l4 q4 => hq r4 H4 v s4 (l1.trans (l2.trans l4)) q4

/-! ### what is walked -/
abbrev Nxt := Nat → Sto → Option (Option D)
structure ItOk (X : Cx) (J : It) (r0 : List Addr) (H0 : Hp) (nx : Nxt) : Prop where
  stop : ∀ i S r H, Sim X.K X.mg r S H → Lat r0 H0 r H → nx i S = some none → J.stop i H
  go : ∀ i S r H d, Sim X.K X.mg r S H → Lat r0 H0 r H → nx i S = some (some d) → J.go i H
  yld : ∀ i S r H d x H', Sim X.K X.mg r S H → Lat r0 H0 r H → nx i S = some (some d) → J.yld i H x H' → Sim X.K X.mg r S H' ∧ Lat r H r H' ∧ RepV X.K X.mg r H' d x
abbrev MI := Env → Sto → Option ((Nat × Nxt) × Sto)
def CI0 (X : Cx) (tg iter : Expr) (m : MI) : Prop := ∃ wi, PI X tg iter wi ∧ ∀ env S k nx S', m env S = some ((k, nx), S') → ∀ r σ H (Q : It → Hp → Prop), At X r env S σ H →
  (∀ r' H' J, Sim X.K X.mg r' S' H' → Lat r H r' H' → ItOk X J r' H' nx → Q J H') → wi σ H Q
structure CI (X : Cx) (tg iter : Expr) (m : MI) : Prop where
  run : ∃ wi, PI X tg iter wi ∧ ∀ env S k nx S', m env S = some ((k, nx), S') → ∀ r σ H (Q : It → Hp → Prop), At X r env S σ H →
  (∀ r' H' J, Sim X.K X.mg r' S' H' → Lat r H r' H' → ItOk X J r' H' nx → Q J H') → wi σ H Q
def mForL (nx : Nxt) (g : MG) (b : MS) : Nat → Nat → MS
  | 0, _ => fun _ _ => none
  | k + 1, i => fun env S => (nx i S).bind fun o => match o with
    | none => some (.nx, env, S)
    | some d => (g d env S).bind fun p => (b p.1 p.2).bind fun q => match q.1 with
      | .nx => mForL nx g b k (i + 1) q.2.1 q.2.2
      | .ct => mForL nx g b k (i + 1) q.2.1 q.2.2
      | .bk => some (.nx, q.2.1, q.2.2)
      | .rt d => some (.rt d, q.2.1, q.2.2)
def mFor (it : MI) (g : MG) (b : MS) : MS := fun env S => (it env S).bind fun p => mForL p.1.2 g b p.1.1 0 env p.2
theorem cS_for {tg iter : Expr} {body : List Stmt} {it : MI} {g : MG} {b : MS} {L : List Nat} {pos : Pos} (hp : PassesOwn (model X.prog X.w) X.A X.env X.xe) (hc : X.calm = true) (hi : CI X tg iter it) (hg : CG X tg L g) (hb : CSs X body b)
    (hs : ∀ x, foldedSetIterable iter X.env x = pure x := by intro _; rfl) : CS X (.For tg iter body [] pos) (mFor it g b) := by
  obtain ⟨wi, pw, hi⟩ := hi
  refine ⟨?_⟩
  intro env S f env' S' h r σ H D A hq
  obtain ⟨⟨⟨k, nx⟩, S0⟩, e0, h⟩ := Option.bind_eq_some_iff.mp h
  refine tms_of (ps_for hp hc pw pg_tm pss_tm hs) (hi env S k nx S0 e0 r σ H _ A fun r0 H0 J s0 l0 ok => ?_)
  refine ⟨fun i m σ1 H1 => ∃ r1 env1 S1, At X r1 env1 S1 σ1 H1 ∧ Lat r0 H0 r1 H1 ∧ mForL nx g b m i env1 S1 = some (f, env', S'), ⟨k, r0, env, S0, A.lat s0 l0, .refl, h⟩, ?_⟩
  rintro i m σ1 H1 ⟨r1, env1, S1, A1, l1, h1⟩
  cases m with
  | zero => cases h1
  | succ m =>
    obtain ⟨o, e2, h1⟩ := Option.bind_eq_some_iff.mp h1
    cases o with
    | none =>
      cases h1
      exact .inl ⟨ok.stop i _ r1 H1 A1.sim l1 e2, hq r1 σ1 H1 A1 (l0.trans l1)⟩
    | some d =>
      refine .inr ⟨ok.go i S1 r1 H1 d A1.sim l1 e2, fun σ' H' => ∃ m', m' < m + 1 ∧ ∃ r1 env1 S1, At X r1 env1 S1 σ' H' ∧ Lat r0 H0 r1 H' ∧ mForL nx g b m' (i + 1) env1 S1 = some (f, env', S'), fun σ' H' z => z, fun x H' y => ?_⟩
      obtain ⟨s2, l2, q2⟩ := ok.yld i S1 r1 H1 d x H' A1.sim l1 e2 y
      obtain ⟨⟨env3, S3⟩, e3, h1⟩ := Option.bind_eq_some_iff.mp h1
      obtain ⟨⟨f4, env4, S4⟩, e4, h1⟩ := Option.bind_eq_some_iff.mp h1
      refine hg d env1 S1 env3 S3 e3 r1 σ1 H' x _ (A1.lat s2 l2) q2 fun r3 σ3 H3 A3 l3 _ => ?_
      have l13 := (l1.trans l2).trans l3
      refine hb env3 S3 f4 env4 S4 e4 r3 σ3 H3 _ A3 ?_
      cases f4 with
      | nx => exact fun r5 σ5 H5 A5 l5 => ⟨m, Nat.lt_succ_self m, r5, env4, S4, A5, l13.trans l5, h1⟩
      | ct => exact fun r5 σ5 H5 A5 l5 => ⟨m, Nat.lt_succ_self m, r5, env4, S4, A5, l13.trans l5, h1⟩
      | bk => cases h1; exact fun r5 σ5 H5 A5 l5 => hq r5 σ5 H5 A5 (l0.trans (l13.trans l5))
      | rt d => cases h1; exact fun r5 H5 v s5 l5 q5 => hq r5 H5 v s5 (l0.trans (l13.trans l5)) q5
end
end PL
end

section
set_option Elab.async false
set_option linter.all false
set_option maxRecDepth 100000
/-! PL3: what is walked; comprehensions; defs -/
namespace PL
open PySem PySem.Spec PyProof.Rows L2

section
variable {X : Cx}
/-- the store's sequence -/
def seqAt (n : Nat) (S : Sto) : Option (List D) := match S[n]? with
  | some (.lst xs) => some xs
  | some (.cst xs) => some xs
  | _ => none
theorem seqAt_ok {r : List Addr} {S : Sto} {H : Hp} {n : Nat} {a : Addr} {xs : List D} (s : Sim X.K X.mg r S H) (ea : r[n]? = some a) (h : seqAt n S = some xs) : ∃ vs, SqL X.K H a vs ∧ RepL X.K X.mg r H xs vs := by
  unfold seqAt at h
  split at h
  · rename_i ys e
    cases h
    obtain ⟨vs, e1, q⟩ := s.ob n _ a e ea
    exact ⟨vs, SqL.of e1, q⟩
  · rename_i ys e
    cases h
    obtain ⟨vs, e1, q⟩ := s.ob n _ a e ea
    exact ⟨vs, e1.sq, q⟩
  · cases h
def nxL (n : Nat) : Nxt := fun i S => (seqAt n S).bind fun xs => some xs[i]?
def nxT (xs : List D) : Nxt := fun i _ => some xs[i]?
def nxS (x : Str) : Nxt := fun i _ => some ((x.cps[i]?).map fun c => .str ⟨#[c]⟩)
def nxR (lo : Int) (n : Nat) : Nxt := fun i _ => some (if i < n then some (.int (lo + i)) else none)
theorem itL {r0 : List Addr} {H0 : Hp} {n : Nat} {a : Addr} (ea : r0[n]? = some a) : ItOk X (Itl X.K a) r0 H0 (nxL n) where
  stop i S r H s l e := by
    obtain ⟨xs, e1, e⟩ := Option.bind_eq_some_iff.mp e
    obtain ⟨vs, h1, q⟩ := seqAt_ok (X := X) s (l.pre _ _ ea) e1
    exact ⟨vs, h1, by rw [← q.length]; exact List.getElem?_eq_none_iff.mp (Option.some.inj e)⟩
  go i S r H d s l e := by
    obtain ⟨xs, e1, e⟩ := Option.bind_eq_some_iff.mp e
    obtain ⟨vs, h1, q⟩ := seqAt_ok (X := X) s (l.pre _ _ ea) e1
    obtain ⟨v, h2, _⟩ := q.get (Option.some.inj e)
    exact ⟨vs, v, h1, h2⟩
  yld i S r H d x H' s l e y := by
    obtain ⟨xs, e1, e⟩ := Option.bind_eq_some_iff.mp e
    obtain ⟨vs, h1, q⟩ := seqAt_ok (X := X) s (l.pre _ _ ea) e1
    obtain ⟨v, h2, h3⟩ := q.get (Option.some.inj e)
    obtain ⟨rfl, hx⟩ := y
    have := hx vs h1
    rw [h2] at this
    cases this
    exact ⟨s, .refl, h3⟩
theorem itT {r0 : List Addr} {H0 : Hp} {a : Addr} {xs : List D} {vs : List V} (ht : TupAt H0 a vs) (q0 : RepL X.K X.mg r0 H0 xs vs) : ItOk X (Itt X.K a) r0 H0 (nxT xs) where
  stop i S r H s l e := ⟨vs, (ht.lat l).sq, by rw [← q0.length]; exact List.getElem?_eq_none_iff.mp (Option.some.inj e)⟩
  go i S r H d s l e := by
    obtain ⟨v, h2, _⟩ := q0.get (Option.some.inj e)
    exact ⟨vs, v, (ht.lat l).sq, h2⟩
  yld i S r H d x H' s l e y := by
    obtain ⟨v, h2, h3⟩ := (q0.lat l).get (Option.some.inj e)
    obtain ⟨rfl, hx⟩ := y
    have := hx vs (ht.lat l).sq
    rw [h2] at this
    cases this
    exact ⟨s, .refl, h3⟩
theorem itK {r0 : List Addr} {H0 : Hp} {a : Addr} {xs : List D} {vs : List V} (ht : KtAt X.K a vs) (q0 : RepL X.K X.mg r0 H0 xs vs) : ItOk X (Itt X.K a) r0 H0 (nxT xs) where
  stop i S r H s l e := ⟨vs, ht.sq, by rw [← q0.length]; exact List.getElem?_eq_none_iff.mp (Option.some.inj e)⟩
  go i S r H d s l e := by
    obtain ⟨v, h2, _⟩ := q0.get (Option.some.inj e)
    exact ⟨vs, v, ht.sq, h2⟩
  yld i S r H d x H' s l e y := by
    obtain ⟨v, h2, h3⟩ := (q0.lat l).get (Option.some.inj e)
    obtain ⟨rfl, hx⟩ := y
    have := hx vs ht.sq
    rw [h2] at this
    cases this
    exact ⟨s, .refl, h3⟩
theorem itS {r0 : List Addr} {H0 : Hp} {x : Str} : ItOk X (Its x) r0 H0 (nxS x) where
  stop i S r H s l e := by
    have e' := Option.some.inj e
    exact Array.getElem?_eq_none_iff.mp (Option.map_eq_none_iff.mp e')
  go i S r H d s l e := by
    obtain ⟨c, h1, _⟩ := Option.map_eq_some_iff.mp (Option.some.inj e)
    exact (Array.getElem?_eq_some_iff.mp h1).1
  yld i S r H d y H' s l e z := by
    obtain ⟨c, h1, h2⟩ := Option.map_eq_some_iff.mp (Option.some.inj e)
    obtain ⟨rfl, c', h3, rfl⟩ := z
    rw [h1] at h3
    cases h3
    subst h2
    exact ⟨s, .refl, .str _⟩
theorem itR {r0 : List Addr} {H0 : Hp} {lo : Int} {n : Nat} : ItOk X (Itr lo n) r0 H0 (nxR lo n) where
  stop i S r H s l e := by
    have e' := Option.some.inj e
    show n ≤ i
    split at e'
    · cases e'
    · omega
  go i S r H d s l e := by
    have e' := Option.some.inj e
    show i < n
    split at e'
    · assumption
    · cases e'
  yld i S r H d y H' s l e z := by
    have e' := Option.some.inj e
    obtain ⟨rfl, rfl⟩ := z
    split at e'
    · cases e'
      exact ⟨s, .refl, .int _⟩
    · cases e'
def itrOf (d : D) (S : Sto) : Option ((Nat × Nxt) × Sto) := match d with
  | .tup xs => some ((xs.length + 1, nxT xs), S)
  | .ktup xs => some ((xs.length + 1, nxT xs), S)
  | .str x => some ((x.cps.size + 1, nxS x), S)
  | .ref n => (seqAt n S).bind fun xs => some ((xs.length + 1, nxL n), S)
  | _ => none
def mItr (m : ME) : MI := fun env S => (m env S).bind fun p => itrOf p.1 p.2
theorem PI.or {tg iter : Expr} {a b : TI} (h : PI X tg iter a) (g : PI X tg iter b) : PI X tg iter (fun σ H R => a σ H R ∨ b σ H R) := ⟨fun pins s σ H R I q => q.elim (h.run pins s σ H R I) (g.run pins s σ H R I)⟩
theorem cI_seq {tg e : Expr} {m : ME} (he : CE X e m) : CI X tg e (mItr m) := by
  refine ⟨_, PI.or (pi_list pe_tm) (PI.or (pi_tup pe_tm) (pi_str pe_tm)), fun env S k nx S' h r σ H Q A hq => ?_⟩
  obtain ⟨⟨d, S1⟩, e1, h⟩ := Option.bind_eq_some_iff.mp h
  have h' : itrOf d S1 = some ((k, nx), S') := h
  clear h
  unfold itrOf at h'
  split at h'
  · cases h'
    refine .inr (.inl (he env S _ _ e1 r σ H _ A fun r1 H1 v s1 l1 q1 => ?_))
    cases q1 with
    | tup ht hl => exact ⟨_, rfl, ⟨_, ht.sq⟩, hq r1 H1 _ s1 l1 (itT ht hl)⟩
  · cases h'
    refine .inr (.inl (he env S _ _ e1 r σ H _ A fun r1 H1 v s1 l1 q1 => ?_))
    cases q1 with
    | ktup ht hl => exact ⟨_, rfl, ⟨_, ht.sq⟩, hq r1 H1 _ s1 l1 (itK ht hl)⟩
  · cases h'
    refine .inr (.inr (he env S _ _ e1 r σ H _ A fun r1 H1 v s1 l1 q1 => ?_))
    cases q1
    exact ⟨_, rfl, hq r1 H1 _ s1 l1 itS⟩
  · obtain ⟨xs, e2, h'⟩ := Option.bind_eq_some_iff.mp h'
    cases h'
    refine .inl (he env S _ _ e1 r σ H _ A fun r1 H1 v s1 l1 q1 => ?_)
    cases q1 with
    | ref ea =>
      obtain ⟨vs, h1, _⟩ := seqAt_ok (X := X) s1 ea e2
      exact ⟨_, rfl, ⟨vs, h1⟩, hq r1 H1 _ s1 l1 (itL ea)⟩
  · cases h'
def r1Of (ds : List D) (S : Sto) : Option ((Nat × Nxt) × Sto) := match ds with
  | [.int j] => if -(2 ^ 62) ≤ j ∧ j < 2 ^ 62 then some ((j.toNat + 1, nxR 0 j.toNat), S) else none
  | _ => none
def mR1 (a : MA) : MI := fun env S => (a env S).bind fun p => r1Of p.1 p.2
theorem cI_r1 {tg a : Expr} {m : MA} {p pos : Pos} (hg : Gl X "range") (hm : X.mg "range" = none) (ha : CA X [a] m) (hs : starEach [a] X.env = [(false, eval a X.env)] := by rfl) : CI X tg (.Call (.Name "range" p) [a] [] pos) (mR1 m) := by
  refine ⟨_, pi_range1 hg hm pa_tm hs, fun env S k nx S' h r σ H Q A hq => ?_⟩
  obtain ⟨⟨ds, S1⟩, e1, h⟩ := Option.bind_eq_some_iff.mp h
  have h' : r1Of ds S1 = some ((k, nx), S') := h
  clear h
  unfold r1Of at h'
  split at h'
  · rename_i j
    split at h'
    · rename_i hj
      cases h'
      refine ha env S _ _ e1 r σ H _ A fun r1 H1 vs s1 l1 q1 => ?_
      match vs, q1 with
      | [v], .cons z .nil => cases z; exact ⟨j, rfl, hj.1, hj.2, hq r1 H1 _ s1 l1 itR⟩
    · cases h'
  · cases h'
def r2Of (ds : List D) (S : Sto) : Option ((Nat × Nxt) × Sto) := match ds with
  | [.int i, .int j] => if -(2 ^ 62) ≤ i ∧ i < 2 ^ 62 ∧ -(2 ^ 62) ≤ j ∧ j < 2 ^ 62 then some (((j - i).toNat + 1, nxR i (j - i).toNat), S) else none
  | _ => none
def mR2 (a : MA) : MI := fun env S => (a env S).bind fun p => r2Of p.1 p.2
theorem cI_r2 {tg a b : Expr} {m : MA} {p pos : Pos} (hg : Gl X "range") (hm : X.mg "range" = none) (ha : CA X [a, b] m) (hs : starEach [a, b] X.env = [(false, eval a X.env), (false, eval b X.env)] := by rfl) (hs2 : starEach [b] X.env = [(false, eval b X.env)] := by rfl) : CI X tg (.Call (.Name "range" p) [a, b] [] pos) (mR2 m) := by
  refine ⟨_, pi_range2 hg hm pa_tm hs hs2, fun env S k nx S' h r σ H Q A hq => ?_⟩
  obtain ⟨⟨ds, S1⟩, e1, h⟩ := Option.bind_eq_some_iff.mp h
  have h' : r2Of ds S1 = some ((k, nx), S') := h
  clear h
  unfold r2Of at h'
  split at h'
  · rename_i i j
    split at h'
    · rename_i hj
      cases h'
      refine ha env S _ _ e1 r σ H _ A fun r1 H1 vs s1 l1 q1 => ?_
      match vs, q1 with
      | [v, w], .cons z (.cons z2 .nil) => cases z; cases z2; exact ⟨i, j, rfl, hj, hq r1 H1 _ s1 l1 itR⟩
    · cases h'
  · cases h'
/-- enumerate(a list) -/
def nxE (n : Nat) : Nxt := fun i S => (seqAt n S).bind fun xs => some ((xs[i]?).map fun d => .tup [.int i, d])
theorem tup2 {r : List Addr} {S : Sto} {H : Hp} {T : Addr} {d e : D} {v w : V} (s : Sim X.K X.mg r S H) (n : H T = none) (q : RepV X.K X.mg r H d v) (q2 : RepV X.K X.mg r H e w) :
    Sim X.K X.mg r S (upd H T (.tup [v, w])) ∧ Lat r H r (upd H T (.tup [v, w])) ∧ RepV X.K X.mg r (upd H T (.tup [v, w])) (.tup [d, e]) (.ref T) :=
  ⟨s.tup n, lat_tup n, .tup upd_same (.cons (q.lat (lat_tup n)) (.cons (q2.lat (lat_tup n)) .nil))⟩
theorem itE {r0 : List Addr} {H0 : Hp} {n : Nat} {a : Addr} (ea : r0[n]? = some a) : ItOk X (Ite X.K a) r0 H0 (nxE n) where
  stop i S r H s l e := by
    obtain ⟨xs, e1, e⟩ := Option.bind_eq_some_iff.mp e
    obtain ⟨vs, h1, q⟩ := seqAt_ok (X := X) s (l.pre _ _ ea) e1
    exact ⟨vs, h1, by rw [← q.length]; exact List.getElem?_eq_none_iff.mp (Option.map_eq_none_iff.mp (Option.some.inj e))⟩
  go i S r H d s l e := by
    obtain ⟨xs, e1, e⟩ := Option.bind_eq_some_iff.mp e
    obtain ⟨d1, e2, e3⟩ := Option.map_eq_some_iff.mp (Option.some.inj e)
    obtain ⟨vs, h1, q⟩ := seqAt_ok (X := X) s (l.pre _ _ ea) e1
    obtain ⟨v, h2, _⟩ := q.get e2
    exact ⟨vs, v, h1, h2⟩
  yld i S r H d x H' s l e y := by
    obtain ⟨xs, e1, e⟩ := Option.bind_eq_some_iff.mp e
    obtain ⟨d1, e2, e3⟩ := Option.map_eq_some_iff.mp (Option.some.inj e)
    obtain ⟨vs, h1, q⟩ := seqAt_ok (X := X) s (l.pre _ _ ea) e1
    obtain ⟨v, h2, h3⟩ := q.get e2
    obtain ⟨T, z, rfl, nT, rfl, hx⟩ := y
    have := hx vs h1
    rw [h2] at this
    cases this
    subst e3
    exact tup2 s nT (.int _) h3
def enOf (ds : List D) (S : Sto) : Option ((Nat × Nxt) × Sto) := match ds with
  | [.ref n] => (seqAt n S).bind fun xs => some ((xs.length + 1, nxE n), S)
  | _ => none
def mEn (a : MA) : MI := fun env S => (a env S).bind fun p => enOf p.1 p.2
theorem cI_en {e : Expr} {m : MA} {elts : List Expr} {kk : Nat} {p pos tpos : Pos} (hg : Gl X "enumerate") (hm : X.mg "enumerate" = none) (ha : CA X [e] m) (hs : starEach [e] X.env = [(false, eval e X.env)] := by rfl) : CI X (.Tuple elts kk tpos) (.Call (.Name "enumerate" p) [e] [] pos) (mEn m) := by
  refine ⟨_, pi_enum hg hm pa_tm hs, fun env S k nx S' h r σ H Q A hq => ?_⟩
  obtain ⟨⟨ds, S1⟩, e1, h⟩ := Option.bind_eq_some_iff.mp h
  have h' : enOf ds S1 = some ((k, nx), S') := h
  clear h
  unfold enOf at h'
  split at h'
  · obtain ⟨xs, e2, h'⟩ := Option.bind_eq_some_iff.mp h'
    cases h'
    refine ha env S _ _ e1 r σ H _ A fun r1 H1 vs s1 l1 q1 => ?_
    match vs, q1 with
    | [v], .cons z .nil =>
      cases z with
      | ref ea =>
        obtain ⟨ws, h1, _⟩ := seqAt_ok (X := X) s1 ea e2
        exact ⟨_, ws, rfl, h1, hq r1 H1 _ s1 l1 (itE ea)⟩
  · cases h'

/-! ### comprehensions -/
def TMts (X : Cx) (ifs : List Expr) : TT := fun σ H Q => ∃ t, PTs X ifs t ∧ t σ H Q
theorem pts_tm {ifs : List Expr} : PTs X ifs (TMts X ifs) := ⟨fun pins s σ H Q I ⟨_, pt, q⟩ => pt.run pins s σ H Q I q⟩
def CTs0 (X : Cx) (ifs : List Expr) (m : MT) : Prop := ∀ env S b S', m env S = some (b, S') → ∀ r σ H (Q : Bool → Hp → Prop), At X r env S σ H → (∀ r' H', Sim X.K X.mg r' S' H' → Lat r H r' H' → Q b H') → TMts X ifs σ H Q
structure CTs (X : Cx) (ifs : List Expr) (m : MT) : Prop where
  run : ∀ env S b S', m env S = some (b, S') → ∀ r σ H (Q : Bool → Hp → Prop), At X r env S σ H → (∀ r' H', Sim X.K X.mg r' S' H' → Lat r H r' H' → Q b H') → TMts X ifs σ H Q
instance {X : Cx} {ifs : List Expr} {m : MT} : CoeFun (CTs X ifs m) (fun _ => ∀ env S b S', m env S = some (b, S') → ∀ r σ H (Q : Bool → Hp → Prop), At X r env S σ H → (∀ r' H', Sim X.K X.mg r' S' H' → Lat r H r' H' → Q b H') → TMts X ifs σ H Q
) := ⟨CTs.run⟩
def mYes : MT := fun _ S => some (true, S)
theorem cTs_nil : CTs X [] mYes := ⟨fun env S b S' h r σ H Q A hq => by
  cases h
  exact ⟨_, pts_nil, hq r H A.sim .refl⟩⟩
theorem cTs_one {c : Expr} {m : MT} (hc : CT X c m) : CTs X [c] m := ⟨fun env S b S' h r σ H Q A hq => ⟨_, pts_one pt_tm, hc env S b S' h r σ H Q A hq⟩⟩
/-- a block's context -/
abbrev bX (X : Cx) (scope : Scope) (s : Shared) (H : Hp) (C : Addr) (cl : List (Str × Addr)) (fp : List Addr) : Cx := X.blk s H scope (compEnvC scope cl C X.env) fp
def bTE (X : Cx) (sc : Scope) (e : Expr) : TE := fun σ H Q => ∀ s H0 C cl fp, TM (bX X sc s H0 C cl fp) e σ H Q
def bTG (X : Cx) (sc : Scope) (e : Expr) : TG := fun v σ H Q => ∀ s H0 C cl fp, TMg (bX X sc s H0 C cl fp) e v σ H Q
def bTT (X : Cx) (sc : Scope) (es : List Expr) : TT := fun σ H Q => ∀ s H0 C cl fp, TMts (bX X sc s H0 C cl fp) es σ H Q
def wipeE (env : Env) : List Nat → Env
  | [] => env
  | v :: vs => (wipeE env vs).set v none
theorem wipeE_len (env : Env) : ∀ vs : List Nat, (wipeE env vs).length = env.length
  | [] => rfl
  | v :: vs => by unfold wipeE; rw [List.length_set, wipeE_len env vs]
theorem wipeE_some {env : Env} {i : Nat} {x : D} : ∀ {vs : List Nat}, (wipeE env vs)[i]? = some (some x) → env[i]? = some (some x) ∧ i ∉ vs
  | [], h => ⟨h, by simp⟩
  | v :: vs, h => by
    unfold wipeE at h
    by_cases hi : v = i
    · subst hi
      by_cases hv : v < (wipeE env vs).length
      · rw [List.getElem?_set_self hv] at h; cases h
      · rw [List.getElem?_eq_none (by simpa using hv)] at h; cases h
    · rw [List.getElem?_set_ne hi] at h
      obtain ⟨h1, h2⟩ := wipeE_some h
      exact ⟨h1, by simp only [List.mem_cons, not_or]; exact ⟨fun e => hi e.symm, h2⟩⟩
theorem REnv.wipe {K : PySem.W.Frag} {mg : Str → Option Value} {r : List Addr} {H : Hp} {env : Env} {σ : L2.St} (h : REnv K mg r H env σ) (vs : List Nat) : REnv K mg r H (wipeE env vs) (wipe σ vs) := by
  refine ⟨by rw [wipe_length, wipeE_len, h.len], fun i d e => ?_⟩
  obtain ⟨e1, e2⟩ := wipeE_some e
  obtain ⟨v, h1, q⟩ := h.at_ i d e1
  refine ⟨v, ?_, q⟩
  rw [wipe_get, if_pos (List.getElem?_eq_some_iff.mp h1).1, if_neg e2]
  exact h1
theorem wipe_wipe (σ : L2.St) (vs : List Nat) : wipe (wipe σ vs) vs = wipe σ vs := by
  apply List.ext_getElem?
  intro j
  rw [wipe_get, wipe_get, wipe_length]
  by_cases hj : j < σ.length
  · by_cases hv : j ∈ vs
    · simp [hj, hv]
    · simp [hj, hv]
  · simp [hj]
def mLcL (nx : Nxt) (g : MG) (t : MT) (e : ME) (n : Nat) : Nat → Nat → Env → Sto → Option Sto
  | 0, _, _, _ => none
  | k + 1, i, env, S => (nx i S).bind fun o => match o with
    | none => some S
    | some d => (g d env S).bind fun p => (t p.1 p.2).bind fun c => if c.1 = true then (e p.1 c.2).bind fun q => match q.2[n]? with
        | some (.lst acc) => if acc.length < sizeLine then mLcL nx g t e n k (i + 1) env (q.2.set n (.lst (acc ++ [q.1]))) else none
        | _ => none
      else mLcL nx g t e n k (i + 1) env c.2
def mLc (it : MI) (g : MG) (t : MT) (e : ME) (vs : List Nat) : ME := fun env S => (it env S).bind fun p => (mLcL p.1.2 g t e p.2.length p.1.1 0 (wipeE env vs) (p.2 ++ [.lst []])).bind fun S' => some (.ref p.2.length, S')
theorem lc_ok {tg elt : Expr} {ifs : List Expr} {it : MI} {wi : TI} {g : MG} {t : MT} {me : ME} {L vs : List Nat} {scope : Scope}
    (hi : ∀ env S k nx S', it env S = some ((k, nx), S') → ∀ r σ H (Q : It → Hp → Prop), At X r env S σ H → (∀ r' H' J, Sim X.K X.mg r' S' H' → Lat r H r' H' → ItOk X J r' H' nx → Q J H') → wi σ H Q)
    (hL : ∀ i ∈ L, i ∈ vs) (hg : ∀ s H C cl fp, CG (bX X scope s H C cl fp) tg L g) (ht : ∀ s H C cl fp, CTs (bX X scope s H C cl fp) ifs t) (he : ∀ s H C cl fp, CE (bX X scope s H C cl fp) elt me)
    {env : Env} {S : Sto} {d : D} {S' : Sto} (h : mLc it g t me vs env S = some (d, S')) {r : List Addr} {σ : L2.St} {H : Hp} {Q : VK} (A : At X r env S σ H)
    (hq : ∀ r' H' v, Sim X.K X.mg r' S' H' → Lat r H r' H' → RepV X.K X.mg r' H' d v → Q v H') : tLc wi (bTG X scope tg) (bTT X scope ifs) (bTE X scope elt) vs σ H Q := by
  obtain ⟨⟨⟨k, nx⟩, S0⟩, e0, h⟩ := Option.bind_eq_some_iff.mp h
  obtain ⟨Sf, e1, h⟩ := Option.bind_eq_some_iff.mp h
  cases h
  refine hi env S k nx S0 e0 r σ H _ A fun r0 H0 J s0 l0 ok p np => ?_
  obtain ⟨s1, l1, q1⟩ := newL_ok (X := X) (d := .ref S0.length) s0 np .nil rfl
  have pn : (r0 ++ [p])[S0.length]? = some p := by
    rw [← s0.len, List.getElem?_append_right (Nat.le_refl _), Nat.sub_self]
    rfl
  refine ⟨fun i m H1 => ∃ r1 S1, Sim X.K X.mg r1 S1 H1 ∧ Lat (r0 ++ [p]) (upd H0 p (.lst [])) r1 H1 ∧ mLcL nx g t me S0.length m i (wipeE env vs) S1 = some S', ⟨k, r0 ++ [p], _, s1, .refl, e1⟩, ?_⟩
  rintro i m H1 ⟨r1, S1, s2, l2, h1⟩
  have l02 : Lat r0 H0 r1 H1 := l1.trans l2
  cases m with
  | zero => cases h1
  | succ m =>
    obtain ⟨o, e2, h1⟩ := Option.bind_eq_some_iff.mp h1
    cases o with
    | none =>
      cases h1
      exact .inl ⟨ok.stop i _ r1 H1 s2 l02 e2, hq r1 H1 _ s2 (l0.trans l02) (.ref (l2.pre _ _ pn))⟩
    | some d1 =>
      refine .inr ⟨ok.go i S1 r1 H1 d1 s2 l02 e2, fun H' => ∃ m', m' < m + 1 ∧ ∃ r1 S1, Sim X.K X.mg r1 S1 H' ∧ Lat (r0 ++ [p]) (upd H0 p (.lst [])) r1 H' ∧ mLcL nx g t me S0.length m' (i + 1) (wipeE env vs) S1 = some S', fun H' z => z, fun x H' y => ?_⟩
      obtain ⟨s3, l3, q3⟩ := ok.yld i S1 r1 H1 d1 x H' s2 l02 e2 y
      obtain ⟨⟨env4, S4⟩, e4, h1⟩ := Option.bind_eq_some_iff.mp h1
      obtain ⟨⟨c, S5⟩, e5, h1⟩ := Option.bind_eq_some_iff.mp h1
      have A3 : At X r1 (wipeE env vs) S1 (wipe σ vs) H' := ⟨s3, (A.env.lat ((l0.trans l02).trans l3)).wipe vs⟩
      intro bs bH bC bcl bfp
      refine hg bs bH bC bcl bfp d1 (wipeE env vs) S1 env4 S4 e4 r1 (wipe σ vs) H' x _ ⟨A3.sim, A3.env⟩ q3 fun r4 σ4 H4 A4 l4 w4 => ⟨?_, ?_⟩
      · rw [w4 vs hL, wipe_wipe]
      · intro bs bH bC bcl bfp
        refine ht bs bH bC bcl bfp env4 S4 c S5 e5 r4 σ4 H4 _ ⟨A4.sim, A4.env⟩ fun r5 H5 s5 l5 => ?_
        have l25 := ((l2.trans l3).trans l4).trans l5
        cases c with
        | false => exact iteF ⟨m, Nat.lt_succ_self m, r5, S5, s5, l25, h1⟩
        | true =>
          refine iteT ?_
          obtain ⟨⟨d6, S6⟩, e6, h1⟩ := Option.bind_eq_some_iff.mp h1
          intro bs bH bC bcl bfp
          refine he bs bH bC bcl bfp env4 S5 d6 S6 e6 r5 σ4 H5 _ ⟨s5, A4.env.lat l5⟩ fun r6 H6 v s6 l6 q6 => ?_
          split at h1
          · rename_i acc ea
            have hp6 : r6[S0.length]? = some p := l6.pre _ _ (l25.pre _ _ pn)
            obtain ⟨ws, e7, q7⟩ := s6.ob _ _ p ea hp6
            split at h1
            · rename_i hz
              have qn : RepL X.K X.mg r6 H6 (acc ++ [d6]) (ws ++ [v]) := q7.append (.cons q6 .nil)
              have L7 : Lat r6 H6 r6 (upd H6 p (.lst (ws ++ [v]))) := lat_upd e7 trivial
              obtain ⟨s8, l8⟩ := s6.put (o' := .lst (acc ++ [d6])) (v := .lst (ws ++ [v])) ea hp6 rfl rfl ⟨_, upd_same, qn.lat L7⟩
              exact ⟨ws, e7, by rw [← q7.length]; exact hz, m, Nat.lt_succ_self m, r6, _, s8, (l25.trans l6).trans l8, h1⟩
            · cases h1
          · cases h1
theorem cE_lc {elt tg iter : Expr} {ifs : List Expr} {scope : Scope} {own : List (Str × Nat)} {pos : Pos} {it : MI} {g : MG} {t : MT} {me : ME} {L : List Nat} (hc : X.calm = true) (hN : X.N.Nodup) (hi : CI X tg iter it) (ok : BlkOk X.N X.env.scope scope own)
    (hL : ∀ i ∈ L, i ∈ own.map (·.2)) (hg : ∀ s H C cl fp, CG (bX X scope s H C cl fp) tg L g) (ht : ∀ s H C cl fp, CTs (bX X scope s H C cl fp) ifs t) (he : ∀ s H C cl fp, CE (bX X scope s H C cl fp) elt me)
    (hs : ∀ x, foldedSetIterable iter X.env x = pure x := by intro _; rfl) : CE X (.ListComp elt [⟨tg, iter, ifs, 0⟩] scope pos) (mLc it g t me (own.map (·.2))) := by
  obtain ⟨wi, pw, hi⟩ := hi
  refine ⟨?_⟩
  intro env S d S' h r σ H Q A hq
  refine tm_of (pe_lc (own := own) (g := bTG X scope tg) (tt := bTT X scope ifs) (te := bTE X scope elt) hc hN pw ok (fun s H C cl fp => ⟨fun pins s' σ H v u Q I rv q => q _ _ _ _ _ pins s' u I rv⟩) (fun s H C cl fp => ⟨fun pins s' σ H Q I q => pts_tm.run pins s' σ H Q I (q _ _ _ _ _)⟩) (fun s H C cl fp => ⟨fun pins s' σ H Q I q => q _ _ _ _ _ pins s' I⟩) hs)
    (lc_ok hi hL hg ht he h A hq)
theorem cS_setLc {i : Nat} {y : Str} {py : Pos} {elt tg iter : Expr} {ifs : List Expr} {scope : Scope} {own : List (Str × Nat)} {pos spos : Pos} {it : MI} {g : MG} {t : MT} {me : ME} {L : List Nat} (hc : X.calm = true) (hN : X.N.Nodup) (hy : X.N[i]? = some y) (hyl : X.env.scope.names.lookup y = some .local)
    (hsw : swapsWith (.ListComp elt [⟨tg, iter, ifs, 0⟩] scope pos) (some (.Name y py)) spos.line X.env = pure true) (hi : CI X tg iter it) (ok : BlkOk X.N X.env.scope scope own)
    (hL : ∀ i ∈ L, i ∈ own.map (·.2)) (hg : ∀ s H C cl fp, CG (bX X scope s H C cl fp) tg L g) (ht : ∀ s H C cl fp, CTs (bX X scope s H C cl fp) ifs t) (he : ∀ s H C cl fp, CE (bX X scope s H C cl fp) elt me)
    (hs : ∀ x, foldedSetIterable iter X.env x = pure x := by intro _; rfl) : CS X (.Assign [.Name y py] (.ListComp elt [⟨tg, iter, ifs, 0⟩] scope pos) spos) (mAsg (mLc it g t me (own.map (·.2))) (gN i)) := by
  obtain ⟨wi, pw, hi⟩ := hi
  refine ⟨?_⟩
  intro env S f env' S' h r σ H D A hq
  obtain ⟨⟨d, S1⟩, e1, h⟩ := Option.bind_eq_some_iff.mp h
  cases h
  refine tms_of (ps_setLc (own := own) (g := bTG X scope tg) (tt := bTT X scope ifs) (te := bTE X scope elt) hc hN hy hyl hsw pw ok (fun s H C cl fp => ⟨fun pins s' σ H v u Q I rv q => q _ _ _ _ _ pins s' u I rv⟩) (fun s H C cl fp => ⟨fun pins s' σ H Q I q => pts_tm.run pins s' σ H Q I (q _ _ _ _ _)⟩) (fun s H C cl fp => ⟨fun pins s' σ H Q I q => q _ _ _ _ _ pins s' I⟩) hs)
    (lc_ok (Q := fun x H1 => gName i x σ H1 D.nx) hi hL hg ht he e1 A fun r1 H1 v s1 l1 q1 => hq r1 _ H1 ⟨s1, (A.env.lat l1).set q1⟩ l1)

/-! ### defs -/
def startE (n : Nat) (ds : List D) : Env := ds.map some ++ List.replicate (n - ds.length) none
def mBody (n : Nat) (b : MS) : MF := fun ds S => (b (startE n ds) S).bind fun p => match p.1 with
  | .nx => some (.non, p.2.2)
  | .rt d => some (d, p.2.2)
  | _ => none
theorem startE_ok {K : PySem.W.Frag} {mg : Str → Option Value} {r : List Addr} {H : Hp} {ds : List D} {vs : List V} (N : List Str) (q : RepL K mg r H ds vs) : REnv K mg r H (startE N.length ds) (L2.start N vs) := by
  have hl := q.length
  refine ⟨by unfold startE L2.start; simp [hl], fun i d e => ?_⟩
  unfold startE at e
  unfold L2.start
  by_cases hi : i < ds.length
  · rw [List.getElem?_append_left (by simpa using hi), List.getElem?_map] at e
    obtain ⟨d', h1, h2⟩ := Option.map_eq_some_iff.mp e
    cases h2
    obtain ⟨v, h3, q3⟩ := q.get h1
    exact ⟨v, by rw [List.getElem?_append_left (by simpa [← hl] using hi), List.getElem?_map, h3]; rfl, q3⟩
  · rw [List.getElem?_append_right (by simpa using hi), List.getElem?_replicate] at e
    split at e <;> cases e
theorem fn_ok {P : Program} {w : World} {K : PySem.W.Frag} {mg : Str → Option Value} {base : Heap} {x qual : Str} {st : Stmt} {f : Addr} {fd : FuncData} {N ps : List Str} {k n : Nat} {b : MS} (F : Fun K x qual st f fd) (S : FnScope N ps (defScope st)) (hn : ps.length = n)
    (hb : ∀ (cdv : Value) (A : Around) (outer : List PySem.Env) (s : Shared) (H : Hp) (E : XK), Room k (A.deeper (envOfC qual (defScope st) s.heap.objs.size f cdv)) → CSs (cxOf CX0 P w K mg base N qual (defScope st) f cdv A outer s H E).nox (defBody st) b) :
    FnOk P w K mg base CX0 (k + 1) f fd ps (spM K mg n (mBody N.length b)) := by
  refine F.ok S (fun vs H Q E h => ?_) (fun cdv A outer s H vs Q E hr h => ?_)
  · obtain ⟨r, S, ds, d, S', hl, s, q, h, hq⟩ := h
    rw [← q.length, hl, hn]
  · obtain ⟨r, S0, ds, d, S', hl, s0, q, h, hq⟩ := h
    obtain ⟨⟨fl, env', S1⟩, e1, h⟩ := Option.bind_eq_some_iff.mp h
    refine ⟨_, pss_tm, hb cdv A outer s H E hr _ S0 fl env' S1 e1 r _ H _ ⟨s0, startE_ok N q⟩ ?_⟩
    cases fl with
    | nx => cases h; exact fun r' σ' H' A' l' => hq r' H' .non A'.sim l' .non
    | rt d1 => cases h; exact fun r' H' v s' l' q' => hq r' H' v s' l' q'
    | bk => cases h
    | ct => cases h
end
end PL
end

section
set_option Elab.async false
set_option linter.all false
set_option maxRecDepth 100000
/-! PL4: operators by values -/
namespace PL
open PySem PySem.Spec PyProof.Rows L2

section
variable {X : Cx}
theorem OpS.or1 {a b : R2} {g : D → D → Sto → R} (h : OpS X a g) : OpS X (fun x y H Q => a x y H Q ∨ b x y H Q) g := fun x y S d S' e r H u v Q s q1 q2 hq => .inl (h x y S d S' e r H u v Q s q1 q2 hq)
theorem OpS.or2 {a b : R2} {g : D → D → Sto → R} (h : OpS X b g) : OpS X (fun x y H Q => a x y H Q ∨ b x y H Q) g := fun x y S d S' e r H u v Q s q1 q2 hq => .inr (h x y S d S' e r H u v Q s q1 q2 hq)
/-- one, else the other -/
def alt (g h : D → D → Sto → R) : D → D → Sto → R := fun x y S => (g x y S).orElse fun _ => h x y S
theorem OpS.alt {a b : R2} {g h : D → D → Sto → R} (ha : OpS X a g) (hb : OpS X b h) : OpS X (fun x y H Q => a x y H Q ∨ b x y H Q) (PL.alt g h) := fun x y S d S' e r H u v Q s q1 q2 hq => by
  unfold PL.alt at e
  cases eg : g x y S with
  | some z => rw [eg] at e; exact .inl (ha x y S d S' (by rw [eg]; exact e) r H u v Q s q1 q2 hq)
  | none => rw [eg] at e; exact .inr (hb x y S d S' e r H u v Q s q1 q2 hq)

/-! ### ints -/
def iiI (c : Int → Int → Bool) (f : Int → Int → Int) : D → D → Sto → R
  | .int i, .int j, S => if c i j = true then some (.int (f i j), S) else none
  | _, _, _ => none
def iiB (f : Int → Int → Bool) : D → D → Sto → R
  | .int i, .int j, S => some (.bl (f i j), S)
  | _, _, _ => none
theorem opS_iiI {C : Int → Int → Prop} {c : Int → Int → Bool} {f : Int → Int → Int} (h : ∀ i j, c i j = true → C i j) : OpS X (rI C fun i j => .int (f i j)) (iiI c f) := by
  intro x y S d S' e r H u v Q s q1 q2 hq
  unfold iiI at e
  split at e
  · rename_i i j _
    split at e
    · rename_i hc
      cases e
      cases q1
      cases q2
      exact ⟨_, _, rfl, rfl, h _ _ hc, hq r H _ s .refl (.int _)⟩
    · cases e
  · cases e
theorem opS_iiI0 {f : Int → Int → Int} : OpS X (rI0 fun i j => .int (f i j)) (iiI (fun _ _ => true) f) := by
  intro x y S d S' e r H u v Q s q1 q2 hq
  unfold iiI at e
  split at e
  · rename_i i j _
    split at e
    · cases e
      cases q1
      cases q2
      exact ⟨_, _, rfl, rfl, hq r H _ s .refl (.int _)⟩
    · cases e
  · cases e
theorem opS_iiB {f : Int → Int → Bool} : OpS X (rI0 fun i j => .bl (f i j)) (iiB f) := by
  intro x y S d S' e r H u v Q s q1 q2 hq
  unfold iiB at e
  split at e
  · rename_i i j _
    cases e
    cases q1
    cases q2
    exact ⟨_, _, rfl, rfl, hq r H _ s .refl (.bl _)⟩
  · cases e
def ssS : D → D → Sto → R
  | .str i, .str j, S => if i.length + j.length ≤ sizeLine then some (.str (i ++ j), S) else none
  | _, _, _ => none
def ssB (f : Str → Str → Bool) : D → D → Sto → R
  | .str i, .str j, S => some (.bl (f i j), S)
  | _, _, _ => none
theorem opS_ssB {f : Str → Str → Bool} : OpS X (fun x y H Q => ∃ i j, x = .str i ∧ y = .str j ∧ Q (.bl (f i j)) H) (ssB f) := by
  intro x y S d S' e r H u v Q s q1 q2 hq
  unfold ssB at e
  split at e
  · rename_i i j _
    cases e
    cases q1
    cases q2
    exact ⟨_, _, rfl, rfl, hq r H _ s .refl (.bl _)⟩
  · cases e
theorem opS_ssS : OpS X (fun x y H Q => ∃ i j, x = .str i ∧ y = .str j ∧ i.length + j.length ≤ sizeLine ∧ Q (.str (i ++ j)) H) ssS := by
  intro x y S d S' e r H u v Q s q1 q2 hq
  unfold ssS at e
  split at e
  · rename_i i j _
    split at e
    · rename_i hz
      cases e
      cases q1
      cases q2
      exact ⟨_, _, rfl, rfl, hz, hq r H _ s .refl (.str _)⟩
    · cases e
  · cases e
/-! ### tuples, lists -/
def ttT : D → D → Sto → R
  | .tup xs, .tup ys, S => if xs.length + ys.length ≤ sizeLine then some (.tup (xs ++ ys), S) else none
  | _, _, _ => none
theorem opS_ttT : OpS X (rCatA X.K) ttT := by
  intro x y S d S' e r H u v Q s q1 q2 hq
  unfold ttT at e
  split at e
  · rename_i xs ys _
    split at e
    · rename_i hz
      cases e
      cases q1 with
      | tup t1 l1 =>
        cases q2 with
        | tup t2 l2 =>
          rename_i a vs b ws
          have n1 := l1.length
          have n2 := l2.length
          refine ⟨a, b, vs, ws, rfl, rfl, t1.sq, t2.sq, by omega, fun e0 => ?_, fun h0 e0 => ?_, fun h0 h1 p np => ?_⟩
          · subst e0
            cases l1
            exact hq r H _ s .refl (.tup t2 l2)
          · subst e0
            cases l2
            rw [List.append_nil] at hq
            exact hq r H _ s .refl (.tup t1 l1)
          · exact hq r _ _ (s.tup np) (lat_tup np) (.tup upd_same ((l1.append l2).lat (lat_tup np)))
    · cases e
  · cases e
def llL : D → D → Sto → R
  | .ref a, .ref b, S => match S[a]?, S[b]? with
    | some (.lst xs), some (.lst ys) => if xs.length + ys.length ≤ sizeLine then newL (xs ++ ys) S else none
    | _, _ => none
  | _, _, _ => none
theorem opS_llL : OpS X rCat llL := by
  intro x y S d S' e r H u v Q s q1 q2 hq
  unfold llL at e
  split at e
  · rename_i a b _
    split at e
    · rename_i xs ys ex ey
      split at e
      · rename_i hz
        cases q1 with
        | ref ea =>
          cases q2 with
          | ref eb =>
            obtain ⟨vs, h1, l1⟩ := s.ob _ _ _ ex ea
            obtain ⟨ws, h2, l2⟩ := s.ob _ _ _ ey eb
            have n1 := l1.length
            have n2 := l2.length
            refine ⟨_, _, vs, ws, rfl, rfl, h1, h2, by omega, fun p np => ?_⟩
            obtain ⟨a1, a2, a3⟩ := newL_ok (X := X) s np (l1.append l2) e
            exact hq _ _ _ a1 a2 a3
      · cases e
    · cases e
  · cases e
def tiT : D → D → Sto → R
  | .tup xs, .int k, S => if xs ≠ [] ∧ 2 ≤ k ∧ k ≤ 1000 ∧ xs.length ≤ 1000 then some (.tup (List.replicate k.toNat xs).flatten, S) else none
  | _, _, _ => none
theorem RepL.rep {K : PySem.W.Frag} {mg : Str → Option Value} {r : List Addr} {H : Hp} {xs : List D} {vs : List V} (q : RepL K mg r H xs vs) : ∀ n : Nat, RepL K mg r H (List.replicate n xs).flatten (List.replicate n vs).flatten
  | 0 => .nil
  | n + 1 => by
    rw [List.replicate_succ, List.replicate_succ, List.flatten_cons, List.flatten_cons]
    exact q.append (RepL.rep q n)
instance decNil (xs : List D) : Decidable (xs ≠ []) := by
  cases xs with
  | nil => exact .isFalse fun h => h rfl
  | cons a b => exact .isTrue (by simp)
def tiT' : D → D → Sto → R
  | .tup (x :: xs), .int k, S => if 2 ≤ k ∧ k ≤ 1000 ∧ xs.length < 1000 then some (.tup (List.replicate k.toNat (x :: xs)).flatten, S) else none
  | _, _, _ => none
theorem opS_tiT : OpS X (rRepT X.K) tiT' := by
  intro x y S d S' e r H u v Q s q1 q2 hq
  unfold tiT' at e
  split at e
  · rename_i z xs k _
    split at e
    · rename_i hz
      cases e
      cases q1 with
      | tup t1 l1 =>
        cases q2
        rename_i a vs
        have n1 := l1.length
        rw [List.length_cons] at n1
        refine ⟨a, _, vs, rfl, rfl, t1.sq, (fun z => by subst z; cases n1), hz.1, hz.2.1, by omega, fun p np => ?_⟩
        exact hq r _ _ (s.tup np) (lat_tup np) (.tup upd_same ((l1.rep _).lat (lat_tup np)))
    · cases e
  · cases e

/-! ### data as a whole -/
mutual
/-- without what may change -/
def pyD : D → Option PyData
  | .non => some .none
  | .bl b => some (.bool b)
  | .int i => some (.int i)
  | .str x => some (.str x)
  | .tup xs => (pyDs xs).map .tuple
  | .ktup xs => (pyDs xs).map .tuple
  | _ => none
def pyDs : List D → Option (List PyData)
  | [] => some []
  | d :: ds => (pyD d).bind fun a => (pyDs ds).map (a :: ·)
end
/-- .. or a list of such -/
def pyT (S : Sto) : D → Option PyData
  | .ref n => (seqAt n S).bind fun xs => (pyDs xs).map .list
  | d => pyD d
mutual
theorem pyD_ok {K : PySem.W.Frag} {mg : Str → Option Value} {r : List Addr} {H : Hp} : ∀ {d : D} {v : V} {p : PyData}, RepV K mg r H d v → pyD d = some p → Dp K H v p
  | .non, _, _, q, h => by cases q; cases h; exact .non
  | .bl b, _, _, q, h => by cases q; cases h; exact .bl b
  | .int i, _, _, q, h => by cases q; cases h; exact .int i
  | .str x, _, _, q, h => by cases q; cases h; exact .str x
  | .tup xs, _, _, q, h => by
    cases q with
    | tup t l =>
      simp only [pyD] at h
      obtain ⟨ps, e1, e2⟩ := Option.map_eq_some_iff.mp h
      subst e2
      exact .tup t.sq (pyDs_ok l e1)
  | .ktup xs, _, _, q, h => by
    cases q with
    | ktup t l =>
      simp only [pyD] at h
      obtain ⟨ps, e1, e2⟩ := Option.map_eq_some_iff.mp h
      subst e2
      exact .tup t.sq (pyDs_ok l e1)
  | .ref _, _, _, _, h => by simp [pyD] at h
  | .fn _, _, _, _, h => by simp [pyD] at h
  | .ty _, _, _, _, h => by simp [pyD] at h
theorem pyDs_ok {K : PySem.W.Frag} {mg : Str → Option Value} {r : List Addr} {H : Hp} : ∀ {ds : List D} {vs : List V} {ps : List PyData}, RepL K mg r H ds vs → pyDs ds = some ps → DpAll K H vs ps
  | [], _, _, q, h => by cases q; simp [pyDs] at h; subst h; exact .nil
  | d :: ds, _, _, q, h => by
    cases q with
    | cons q1 q2 =>
      simp only [pyDs] at h
      obtain ⟨a, e1, h⟩ := Option.bind_eq_some_iff.mp h
      obtain ⟨as, e2, e3⟩ := Option.map_eq_some_iff.mp h
      subst e3
      exact .cons (pyD_ok q1 e1) (pyDs_ok q2 e2)
end
theorem pyT_ok {r : List Addr} {S : Sto} {H : Hp} {d : D} {v : V} {p : PyData} (s : Sim X.K X.mg r S H) (q : RepV X.K X.mg r H d v) (h : pyT S d = some p) : Dp X.K H v p := by
  cases d with
  | ref n =>
    simp only [pyT] at h
    cases q with
    | ref ea =>
      obtain ⟨xs, e1, h⟩ := Option.bind_eq_some_iff.mp h
      obtain ⟨ps, e2, e3⟩ := Option.map_eq_some_iff.mp h
      subst e3
      obtain ⟨vs, h1, l1⟩ := seqAt_ok (X := X) s ea e1
      exact .lst h1 (pyDs_ok l1 e2)
  | _ => exact pyD_ok q h
def deepB (f : Bool → Bool) : D → D → Sto → R := fun x y S => (pyT S x).bind fun p => (pyT S y).bind fun q => if (SeqAt.shaped p && SeqAt.shaped q) = true then some (.bl (f (PyData.eqv p q)), S) else none
theorem deepB_ok {f : Bool → Bool} {x y : D} {S S' : Sto} {d : D} (e : deepB f x y S = some (d, S')) {r : List Addr} {H : Hp} {u v : V} (s : Sim X.K X.mg r S H) (q1 : RepV X.K X.mg r H x u) (q2 : RepV X.K X.mg r H y v) :
    ∃ p q, Dp X.K H u p ∧ Dp X.K H v q ∧ SeqAt.shaped p = true ∧ SeqAt.shaped q = true ∧ d = .bl (f (PyData.eqv p q)) ∧ S' = S := by
  obtain ⟨p, e1, e⟩ := Option.bind_eq_some_iff.mp e
  obtain ⟨q, e2, e⟩ := Option.bind_eq_some_iff.mp e
  split at e
  · rename_i hs
    cases e
    rw [Bool.and_eq_true] at hs
    exact ⟨p, q, pyT_ok s q1 e1, pyT_ok s q2 e2, hs.1, hs.2, rfl, rfl⟩
  · cases e
theorem opS_deepEq : OpS X (rEqD X.K) (deepB id) := by
  intro x y S d S' e r H u v Q s q1 q2 hq
  obtain ⟨p, q, h1, h2, s1, s2, rfl, rfl⟩ := deepB_ok (X := X) e s q1 q2
  exact ⟨p, q, h1, h2, s1, s2, hq r H _ s .refl (.bl _)⟩
theorem opS_deepNe : OpS X (rNeD X.K) (deepB not) := by
  intro x y S d S' e r H u v Q s q1 q2 hq
  obtain ⟨p, q, h1, h2, s1, s2, rfl, rfl⟩ := deepB_ok (X := X) e s q1 q2
  exact ⟨p, q, h1, h2, s1, s2, hq r H _ s .refl (.bl _)⟩
/-- ==, of plain values at once -/
def sEq (f : Bool → Bool) : D → D → Sto → R
  | .int i, .int j, S => some (.bl (f (decide (i = j))), S)
  | .str i, .str j, S => some (.bl (f (decide (i = j))), S)
  | .bl i, .bl j, S => some (.bl (f (decide (i = j))), S)
  | .non, .non, S => some (.bl (f true), S)
  | .non, .str _, S => some (.bl (f false), S)
  | .str _, .non, S => some (.bl (f false), S)
  | _, _, _ => none
theorem opS_sEq : OpS X rEq (sEq id) := by
  intro x y S d S' e r H u v Q s q1 q2 hq
  unfold sEq at e
  split at e <;> first | cases e | skip
  · cases q1; cases q2; refine ⟨rfl, ?_⟩; rw [show ∀ i j : Int, decide (V.int i = V.int j) = decide (i = j) from fun i j => by simp]; exact hq r H _ s .refl (.bl _)
  · cases q1; cases q2; refine ⟨rfl, ?_⟩; rw [show ∀ i j : Str, decide (V.str i = V.str j) = decide (i = j) from fun i j => by simp]; exact hq r H _ s .refl (.bl _)
  · cases q1; cases q2; refine ⟨rfl, ?_⟩; rw [show ∀ i j : Bool, decide (V.bl i = V.bl j) = decide (i = j) from fun i j => by simp]; exact hq r H _ s .refl (.bl _)
  · cases q1; cases q2; exact ⟨rfl, by simpa using hq r H _ s .refl (.bl _)⟩
  · cases q1; cases q2; exact ⟨rfl, by simpa using hq r H _ s .refl (.bl _)⟩
  · cases q1; cases q2; exact ⟨rfl, by simpa using hq r H _ s .refl (.bl _)⟩
theorem opS_sNe : OpS X rNe (sEq not) := by
  intro x y S d S' e r H u v Q s q1 q2 hq
  unfold sEq at e
  split at e <;> first | cases e | skip
  · cases q1; cases q2; refine ⟨rfl, ?_⟩; rw [show ∀ i j : Int, decide (V.int i = V.int j) = decide (i = j) from fun i j => by simp]; exact hq r H _ s .refl (.bl _)
  · cases q1; cases q2; refine ⟨rfl, ?_⟩; rw [show ∀ i j : Str, decide (V.str i = V.str j) = decide (i = j) from fun i j => by simp]; exact hq r H _ s .refl (.bl _)
  · cases q1; cases q2; refine ⟨rfl, ?_⟩; rw [show ∀ i j : Bool, decide (V.bl i = V.bl j) = decide (i = j) from fun i j => by simp]; exact hq r H _ s .refl (.bl _)
  · cases q1; cases q2; exact ⟨rfl, by simpa using hq r H _ s .refl (.bl _)⟩
  · cases q1; cases q2; exact ⟨rfl, by simpa using hq r H _ s .refl (.bl _)⟩
  · cases q1; cases q2; exact ⟨rfl, by simpa using hq r H _ s .refl (.bl _)⟩
/-- is None, is not None; is True .. -/
def isN (f : Bool → Bool) : D → D → Sto → R
  | .non, .non, S => some (.bl (f true), S)
  | .bl _, .non, S => some (.bl (f false), S)
  | .int _, .non, S => some (.bl (f false), S)
  | .str _, .non, S => some (.bl (f false), S)
  | .tup _, .non, S => some (.bl (f false), S)
  | .ref _, .non, S => some (.bl (f false), S)
  | .fn _, .non, S => some (.bl (f false), S)
  | .ktup _, .non, S => some (.bl (f false), S)
  | _, _, _ => none
theorem opS_isN : OpS X (fun x y H Q => y = .non ∧ Q (.bl (decide (x = .non))) H) (isN id) := by
  intro x y S d S' e r H u v Q s q1 q2 hq
  unfold isN at e
  split at e <;> first | cases e | skip
  all_goals (cases q2; cases q1; exact ⟨rfl, by simpa using hq r H _ s .refl (.bl _)⟩)
theorem opS_isNot : OpS X (fun x y H Q => y = .non ∧ Q (.bl (!decide (x = .non))) H) (isN not) := by
  intro x y S d S' e r H u v Q s q1 q2 hq
  unfold isN at e
  split at e <;> first | cases e | skip
  all_goals (cases q2; cases q1; exact ⟨rfl, by simpa using hq r H _ s .refl (.bl _)⟩)
def bbB (f : Bool → Bool → Bool) : D → D → Sto → R
  | .bl a, .bl b, S => some (.bl (f a b), S)
  | _, _, _ => none
theorem opS_isB : OpS X rIsB (bbB fun a b => decide (a = b)) := by
  intro x y S d S' e r H u v Q s q1 q2 hq
  unfold bbB at e
  split at e
  · cases e; cases q1; cases q2; exact ⟨_, _, rfl, rfl, hq r H _ s .refl (.bl _)⟩
  · cases e
theorem opS_notB : OpS X rNotB (bbB fun a b => !decide (a = b)) := by
  intro x y S d S' e r H u v Q s q1 q2 hq
  unfold bbB at e
  split at e
  · cases e; cases q1; cases q2; exact ⟨_, _, rfl, rfl, hq r H _ s .refl (.bl _)⟩
  · cases e
/-! ### in -/
def flatD : D → Option V
  | .non => some .non
  | .bl b => some (.bl b)
  | .int i => some (.int i)
  | .str x => some (.str x)
  | _ => none
def flatDs : List D → Option (List V)
  | [] => some []
  | d :: ds => (flatD d).bind fun v => (flatDs ds).map (v :: ·)
theorem flatD_ok {K : PySem.W.Frag} {mg : Str → Option Value} {r : List Addr} {H : Hp} {d : D} {v w : V} (q : RepV K mg r H d v) (h : flatD d = some w) : v = w ∧ flatV v = true := by
  cases q <;> first | (cases h; exact ⟨rfl, rfl⟩) | cases h
theorem flatDs_ok {K : PySem.W.Frag} {mg : Str → Option Value} {r : List Addr} {H : Hp} : ∀ {ds : List D} {vs ws : List V}, RepL K mg r H ds vs → flatDs ds = some ws → vs = ws ∧ vs.all flatV = true
  | _, _, _, .nil, h => by simp [flatDs] at h; subst h; exact ⟨rfl, rfl⟩
  | _, _, _, .cons q1 q2, h => by
    simp only [flatDs] at h
    obtain ⟨a, e1, h⟩ := Option.bind_eq_some_iff.mp h
    obtain ⟨as, e2, e3⟩ := Option.map_eq_some_iff.mp h
    subst e3
    obtain ⟨h1, h2⟩ := flatD_ok q1 e1
    obtain ⟨h3, h4⟩ := flatDs_ok q2 e2
    subst h1
    subst h3
    exact ⟨rfl, by simp [h2, h4]⟩
def seqD (S : Sto) : D → Option (List D)
  | .tup xs => some xs
  | .ktup xs => some xs
  | .ref n => seqAt n S
  | _ => none
def inSeq (f : Bool → Bool) : D → D → Sto → R := fun x y S => (flatD x).bind fun v => (seqD S y).bind fun xs => (flatDs xs).bind fun ws => some (.bl (f (inV v ws)), S)
theorem opS_inSeq {neg : Bool} {f : Bool → Bool} (hf : ∀ b, f b = if neg then !b else b) : OpS X (rIn X.K neg) (inSeq f) := by
  intro x y S d S' e r H u v Q s q1 q2 hq
  obtain ⟨w, e1, e⟩ := Option.bind_eq_some_iff.mp e
  obtain ⟨xs, e2, e⟩ := Option.bind_eq_some_iff.mp e
  obtain ⟨ws, e3, e⟩ := Option.bind_eq_some_iff.mp e
  cases e
  obtain ⟨rfl, fu⟩ := flatD_ok q1 e1
  rw [hf] at hq
  cases y with
  | tup ys =>
    cases e2
    cases q2 with
    | tup t l =>
      obtain ⟨rfl, fs⟩ := flatDs_ok l e3
      refine ⟨_, _, rfl, .inr t.sq, fu, fs, ?_⟩
      have := hq r H _ s .refl (.bl _)
      cases neg <;> simpa using this
  | ktup ys =>
    cases e2
    cases q2 with
    | ktup t l =>
      obtain ⟨rfl, fs⟩ := flatDs_ok l e3
      refine ⟨_, _, rfl, .inr t.sq, fu, fs, ?_⟩
      have := hq r H _ s .refl (.bl _)
      cases neg <;> simpa using this
  | ref n =>
    cases q2 with
    | ref ea =>
      obtain ⟨vs, h1, l⟩ := seqAt_ok (X := X) s ea e2
      obtain ⟨rfl, fs⟩ := flatDs_ok l e3
      refine ⟨_, _, rfl, .inl h1, fu, fs, ?_⟩
      have := hq r H _ s .refl (.bl _)
      cases neg <;> simpa using this
  | _ => cases e2
/-! ### dicts -/
def keyD : D → Option Key
  | .int i => some (.inl i)
  | .str x => some (.inr x)
  | _ => none
def keysD : List D → Option (List Key)
  | [] => some []
  | d :: ds => (keyD d).bind fun v => (keysD ds).map (v :: ·)
theorem keyD_ok {K : PySem.W.Frag} {mg : Str → Option Value} {r : List Addr} {H : Hp} {d : D} {v : V} {k : Key} (q : RepV K mg r H d v) (h : keyD d = some k) : v = kV k := by
  cases q <;> first | (cases h; rfl) | cases h
theorem keysD_ok {K : PySem.W.Frag} {mg : Str → Option Value} {r : List Addr} {H : Hp} : ∀ {ds : List D} {vs : List V} {ks : List Key}, RepL K mg r H ds vs → keysD ds = some ks → vs = ks.map kV
  | _, _, _, .nil, h => by simp [keysD] at h; subst h; rfl
  | _, _, _, .cons q1 q2, h => by
    simp only [keysD] at h
    obtain ⟨a, e1, h⟩ := Option.bind_eq_some_iff.mp h
    obtain ⟨as, e2, e3⟩ := Option.map_eq_some_iff.mp h
    subst e3
    rw [keyD_ok q1 e1, keysD_ok q2 e2]
    rfl
def valD {k : Type} [DecidableEq k] (kvs : List (k × D)) (x : k) : Option D := (kvs.find? fun kv => decide (kv.1 = x)).map (·.2)
def putD {k : Type} [DecidableEq k] (kvs : List (k × D)) (x : k) (v : D) : List (k × D) := if (kvs.any fun kv => decide (kv.1 = x)) = true then kvs.map (fun kv => if kv.1 = x then (kv.1, v) else kv) else kvs ++ [(x, v)]
theorem valD_ok {K : PySem.W.Frag} {mg : Str → Option Value} {r : List Addr} {H : Hp} {k : Type} [DecidableEq k] {x : k} : ∀ {kvs : List (k × D)} {ws : List (k × V)}, RepKs K mg r H kvs ws →
    (valD kvs x = none ∧ valV ws x = none) ∨ ∃ d v, valD kvs x = some d ∧ valV ws x = some v ∧ RepV K mg r H d v
  | _, _, .nil => .inl ⟨rfl, rfl⟩
  | (a, d) :: kvs, (b, v) :: ws, .cons ⟨e, q⟩ t => by
    have e' : a = b := e
    subst e'
    by_cases h : a = x
    · refine .inr ⟨d, v, by simp [valD, List.find?_cons, h], by simp [valV, List.find?_cons, h], q⟩
    · have ih := valD_ok (x := x) t
      simp only [valD, valV, List.find?_cons, h, decide_false] at ih ⊢
      exact ih
def ixDict : D → D → Sto → R
  | .ref n, y, S => match S[n]? with
    | some (.dK kvs) => (keyD y).bind fun k => (valD kvs k).bind fun d => some (d, S)
    | some (.dT kvs) => match y with
      | .tup ds => (keysD ds).bind fun k => (valD kvs k).bind fun d => some (d, S)
      | _ => none
    | _ => none
  | _, _, _ => none
def inDict (f : Bool → Bool) : D → D → Sto → R
  | y, .ref n, S => match S[n]? with
    | some (.dK kvs) => (keyD y).bind fun k => some (.bl (f (valD kvs k).isSome), S)
    | some (.dT kvs) => match y with
      | .tup ds => (keysD ds).bind fun k => some (.bl (f (valD kvs k).isSome), S)
      | _ => none
    | _ => none
  | _, _, _ => none
/-- the tuple of a key is one that was made (not one of the module) -/
def madeT (ks : List Key) (H : Hp) (v : V) : Prop := ∃ b, v = .ref b ∧ H b = some (.tup (ks.map kV))
end
end PL
end

section
set_option Elab.async false
set_option linter.all false
set_option maxRecDepth 100000
/-! PL5: subscripts, slices, dicts, methods, built-ins -/
namespace PL
open PySem PySem.Spec PyProof.Rows L2

section
variable {X : Cx}
theorem PE.or {e : Expr} {a b : TE} (h : PE X e a) (g : PE X e b) : PE X e (fun σ H Q => a σ H Q ∨ b σ H Q) := ⟨fun pins s σ H Q I q => q.elim (h.run pins s σ H Q I) (g.run pins s σ H Q I)⟩
/-! ### subscripts -/
def ixSeq : D → D → Sto → R
  | .str z, .int i, S => if z.length ≤ sizeLine then (atI z.cps.toList i).map fun c => (.str ⟨#[c]⟩, S) else none
  | x, .int i, S => (seqD S x).bind fun xs => (atI xs i).map fun d => (d, S)
  | _, _, _ => none
theorem RepL.atI {K : PySem.W.Frag} {mg : Str → Option Value} {r : List Addr} {H : Hp} {xs : List D} {vs : List V} {i : Int} {d : D} (q : RepL K mg r H xs vs) (h : L2.atI xs i = some d) : ∃ v, L2.atI vs i = some v ∧ RepV K mg r H d v := by
  unfold L2.atI at h ⊢
  rw [q.length] at h
  obtain ⟨j, e1, e2⟩ := Option.bind_eq_some_iff.mp h
  obtain ⟨v, e3, q3⟩ := q.get e2
  exact ⟨v, by rw [e1]; exact e3, q3⟩
theorem seqD_ok {r : List Addr} {S : Sto} {H : Hp} {d : D} {v : V} {xs : List D} (s : Sim X.K X.mg r S H) (q : RepV X.K X.mg r H d v) (h : seqD S d = some xs) : ∃ a vs, v = .ref a ∧ (SqL X.K H a vs ∨ SqT X.K H a vs) ∧ RepL X.K X.mg r H xs vs := by
  cases q with
  | tup t l => cases h; exact ⟨_, _, rfl, .inr t.sq, l⟩
  | ktup t l => cases h; exact ⟨_, _, rfl, .inr t.sq, l⟩
  | ref ea =>
    obtain ⟨vs, h1, l⟩ := seqAt_ok (X := X) s ea h
    exact ⟨_, vs, rfl, .inl h1, l⟩
  | _ => cases h
theorem opS_ixSeq : OpS X (rIx X.K) ixSeq := by
  intro x y S d S' e r H u v Q s q1 q2 hq
  unfold ixSeq at e
  split at e
  · split at e
    · rename_i hz
      obtain ⟨c, e1, e2⟩ := Option.map_eq_some_iff.mp e
      cases e2
      cases q1
      cases q2
      exact .inr (.inr ⟨_, _, c, rfl, rfl, hz, e1, hq r H _ s .refl (.str _)⟩)
    · cases e
  · obtain ⟨xs, e1, e⟩ := Option.bind_eq_some_iff.mp e
    obtain ⟨d', e2, e3⟩ := Option.map_eq_some_iff.mp e
    cases e3
    obtain ⟨a, vs, rfl, hs, l⟩ := seqD_ok (X := X) s q1 e1
    obtain ⟨w, e4, q4⟩ := l.atI e2
    cases q2
    rcases hs with hs | hs
    · exact .inl ⟨a, vs, _, w, rfl, rfl, hs, e4, hq r H w s .refl q4⟩
    · exact .inr (.inl ⟨a, vs, _, w, rfl, rfl, hs, e4, hq r H w s .refl q4⟩)
  · cases e
theorem dget_ok {r : List Addr} {S : Sto} {H : Hp} {n : Nat} {a : Addr} {y : D} {v : V} {o : Option D} (s : Sim X.K X.mg r S H) (ea : r[n]? = some a) (q2 : RepV X.K X.mg r H y v)
    (h : (∃ kvs k, S[n]? = some (.dK kvs) ∧ keyD y = some k ∧ o = valD kvs k) ∨ ∃ kvs ds k, S[n]? = some (.dT kvs) ∧ y = .tup ds ∧ keysD ds = some k ∧ o = valD kvs k) :
    (o = none ∧ DGet H a v none) ∨ ∃ d w, o = some d ∧ DGet H a v (some w) ∧ RepV X.K X.mg r H d w := by
  rcases h with ⟨kvs, k, e1, e2, rfl⟩ | ⟨kvs, ds, k, e1, rfl, e2, rfl⟩
  · obtain ⟨ws, h1, q⟩ := s.ob n _ a e1 ea
    have hv := keyD_ok q2 e2
    rcases valD_ok (x := k) q with ⟨z1, z2⟩ | ⟨d, w, z1, z2, z3⟩
    · exact .inl ⟨z1, .inl ⟨ws, k, .inl h1, hv, z2.symm⟩⟩
    · exact .inr ⟨d, w, z1, .inl ⟨ws, k, .inl h1, hv, z2.symm⟩, z3⟩
  · obtain ⟨ws, h1, q⟩ := s.ob n _ a e1 ea
    cases q2 with
    | tup t l =>
      have hv := keysD_ok l e2
      subst hv
      rcases valD_ok (x := k) q with ⟨z1, z2⟩ | ⟨d, w, z1, z2, z3⟩
      · exact .inl ⟨z1, .inr ⟨ws, k, _, .inl h1, rfl, t, z2.symm⟩⟩
      · exact .inr ⟨d, w, z1, .inr ⟨ws, k, _, .inl h1, rfl, t, z2.symm⟩, z3⟩
/-- what a dict has at a key -/
def dictAt (n : Nat) (y : D) (S : Sto) : Option (Option D) := match S[n]? with
  | some (.dK kvs) => (keyD y).map fun k => valD kvs k
  | some (.dT kvs) => match y with
    | .tup ds => (keysD ds).map fun k => valD kvs k
    | _ => none
  | _ => none
theorem dictAt_ok {r : List Addr} {S : Sto} {H : Hp} {n : Nat} {a : Addr} {y : D} {v : V} {o : Option D} (s : Sim X.K X.mg r S H) (ea : r[n]? = some a) (q2 : RepV X.K X.mg r H y v) (h : dictAt n y S = some o) :
    (o = none ∧ DGet H a v none) ∨ ∃ d w, o = some d ∧ DGet H a v (some w) ∧ RepV X.K X.mg r H d w := by
  unfold dictAt at h
  split at h
  · rename_i kvs e1
    obtain ⟨k, e2, e3⟩ := Option.map_eq_some_iff.mp h
    exact dget_ok s ea q2 (.inl ⟨kvs, k, e1, e2, e3.symm⟩)
  · rename_i kvs e1
    split at h
    · rename_i ds
      obtain ⟨k, e2, e3⟩ := Option.map_eq_some_iff.mp h
      exact dget_ok s ea q2 (.inr ⟨kvs, ds, k, e1, rfl, e2, e3.symm⟩)
    · cases h
  · cases h
def ixD : D → D → Sto → R
  | .ref n, y, S => (dictAt n y S).bind fun o => o.map fun d => (d, S)
  | _, _, _ => none
/-- x[y] of a list, a tuple, a text, a dict -/
def ixA : D → D → Sto → R := fun x y S => (ixSeq x y S).orElse fun _ => ixD x y S
theorem cE_ixA {a b : Expr} {ma mb : ME} {pos : Pos} (hu : X.A.units + 1 < cLine) (ha : CE X a ma) (hb : CE X b mb) (hs : PlainIx b) : CE X (.Subscript a b pos) (mBin ixA ma mb) := by
  refine ⟨?_⟩
  intro env S d S' h r σ H Q A hq
  obtain ⟨⟨x, S1⟩, e1, h⟩ := Option.bind_eq_some_iff.mp h
  obtain ⟨⟨y, S2⟩, e2, h⟩ := Option.bind_eq_some_iff.mp h
  have h' : (ixSeq x y S2).orElse (fun _ => ixD x y S2) = some (d, S') := h
  cases eg : ixSeq x y S2 with
  | some z =>
    have hz : mBin ixSeq ma mb env S = some (d, S') := by
      show ((ma env S).bind fun p => (mb env p.2).bind fun q => ixSeq p.1 q.1 q.2) = _
      rw [e1]
      show ((mb env S1).bind fun q => ixSeq x q.1 q.2) = _
      rw [e2]
      show ixSeq x y S2 = _
      rw [eg] at h' ⊢
      exact h'
    exact cE_ix ix_seq opS_ixSeq ha hb hs env S d S' hz r σ H Q A hq
  | none =>
    rw [eg] at h'
    have h2 : ixD x y S2 = some (d, S') := h'
    unfold ixD at h2
    split at h2
    · rename_i n
      obtain ⟨o, e3, h2⟩ := Option.bind_eq_some_iff.mp h2
      obtain ⟨d', e4, e5⟩ := Option.map_eq_some_iff.mp h2
      subst e4
      cases e5
      refine tm_of (pe_dget hu pe_tm pe_tm hs) (ha env S _ S1 e1 r σ H _ A fun r1 H1 u s1 l1 q1 => ?_)
      refine hb env S1 _ _ e2 r1 σ H1 _ (A.lat s1 l1) fun r2 H2 v s2 l2 q2 => ?_
      cases q1 with
      | ref ea =>
        rcases dictAt_ok (X := X) s2 (l2.pre _ _ ea) q2 e3 with ⟨z, _⟩ | ⟨d2, w, z1, z2, z3⟩
        · cases z
        · cases z1
          exact ⟨_, w, rfl, z2, hq r2 H2 w s2 (l1.trans l2) z3⟩
    · cases h2
def inD (f : Bool → Bool) : D → D → Sto → R
  | y, .ref n, S => (dictAt n y S).map fun o => (.bl (f o.isSome), S)
  | _, _, _ => none
/-- in, not in a list, a tuple (of plain items), a text, a dict -/
def inA (f : Bool → Bool) : D → D → Sto → R := fun x y S => (inSeq f x y S).orElse fun _ => (ssB (fun i j => f (!(Builtin.Str.occurrences j i 0 j.length 1).isEmpty)) x y S).orElse fun _ => inD f x y S
theorem inA_ok {a b : Expr} {op : CmpOp} {ma mb : ME} {neg : Bool} {f : Bool → Bool} {t : TE} {pos : Pos} (hf : ∀ b, f b = if neg then !b else b) (ho : OpR X (compareOp op) (rIn X.K neg))
    (hs : OpR X (compareOp op) (fun x y H Q => ∃ i j, x = .str i ∧ y = .str j ∧ Q (.bl (f (!(Builtin.Str.occurrences j i 0 j.length 1).isEmpty))) H))
    (hd : PC X op a b (fun σ H Q => TM X a σ H fun y H1 => TM X b σ H1 fun x H2 => ∃ a o, x = .ref a ∧ DGet H2 a y o ∧ Q (.bl (f o.isSome)) H2))
    (ha : CE X a ma) (hb : CE X b mb) (hm : behindInMarks op b = false) : CE X (.Compare a [op] [b] pos) (mBin (inA f) ma mb) := by
  refine ⟨?_⟩
  intro env S d S' h r σ H Q A hq
  obtain ⟨⟨x, S1⟩, e1, h⟩ := Option.bind_eq_some_iff.mp h
  obtain ⟨⟨y, S2⟩, e2, h⟩ := Option.bind_eq_some_iff.mp h
  have two : ∀ g : D → D → Sto → R, g x y S2 = some (d, S') → mBin g ma mb env S = some (d, S') := fun g hg => by
    show ((ma env S).bind fun p => (mb env p.2).bind fun q => g p.1 q.1 q.2) = _
    rw [e1]
    show ((mb env S1).bind fun q => g x q.1 q.2) = _
    rw [e2]
    exact hg
  have h' : (inSeq f x y S2).orElse (fun _ => (ssB (fun i j => f (!(Builtin.Str.occurrences j i 0 j.length 1).isEmpty)) x y S2).orElse fun _ => inD f x y S2) = some (d, S') := h
  cases eg : inSeq f x y S2 with
  | some z =>
    rw [eg] at h'
    exact cE_cmp ho (opS_inSeq hf) ha hb hm env S d S' (two _ (by rw [eg]; exact h')) r σ H Q A hq
  | none =>
    rw [eg] at h'
    have h' : (ssB (fun i j => f (!(Builtin.Str.occurrences j i 0 j.length 1).isEmpty)) x y S2).orElse (fun _ => inD f x y S2) = some (d, S') := h'
    cases eh : ssB (fun i j => f (!(Builtin.Str.occurrences j i 0 j.length 1).isEmpty)) x y S2 with
    | some z =>
      rw [eh] at h'
      exact cE_cmp hs opS_ssB ha hb hm env S d S' (two _ (by rw [eh]; exact h')) r σ H Q A hq
    | none =>
      rw [eh] at h'
      have h2 : inD f x y S2 = some (d, S') := h'
      unfold inD at h2
      split at h2
      · rename_i n _
        obtain ⟨o, e3, e4⟩ := Option.map_eq_some_iff.mp h2
        cases e4
        refine tm_of (pe_cmp hd hm) (ha env S _ S1 e1 r σ H _ A fun r1 H1 u s1 l1 q1 => ?_)
        refine hb env S1 _ _ e2 r1 σ H1 _ (A.lat s1 l1) fun r2 H2 v s2 l2 q2 => ?_
        cases q2 with
        | ref ea =>
          rcases dictAt_ok (X := X) s2 ea (q1.lat l2) e3 with ⟨rfl, z⟩ | ⟨d2, w, rfl, z2, z3⟩
          · exact ⟨_, none, rfl, z, hq r2 H2 _ s2 (l1.trans l2) (.bl _)⟩
          · exact ⟨_, some w, rfl, z2, hq r2 H2 _ s2 (l1.trans l2) (.bl _)⟩
      · cases h2
theorem cE_in {a b : Expr} {ma mb : ME} {pos : Pos} (hu : X.A.units + 1 < cLine) (ha : CE X a ma) (hb : CE X b mb) (hm : behindInMarks .In b = false) : CE X (.Compare a [.In] [b] pos) (mBin (inA id) ma mb) :=
  inA_ok (neg := false) (t := TM X a) (fun _ => rfl) op_in_seq op_in_str (pc_din hu pe_tm pe_tm) ha hb hm
theorem cE_notIn {a b : Expr} {ma mb : ME} {pos : Pos} (hu : X.A.units + 1 < cLine) (ha : CE X a ma) (hb : CE X b mb) (hm : behindInMarks .NotIn b = false) : CE X (.Compare a [.NotIn] [b] pos) (mBin (inA not) ma mb) :=
  inA_ok (neg := true) (t := TM X a) (fun _ => rfl) op_notIn_seq op_notin_str (pc_dnotin hu pe_tm pe_tm) ha hb hm
/-- a test by the value of a comparison -/
theorem cT_val {e : Expr} {m : ME} (h : CE X e m) (hp : ∀ t, PE X e t → PT X e (tTest t)) : CT X e (asB m) := by
  refine ⟨?_⟩
  intro env S c S' hh r σ H Q A hq
  obtain ⟨⟨d, S1⟩, e1, hh⟩ := Option.bind_eq_some_iff.mp hh
  split at hh
  · rename_i b' eb
    cases hh
    have eb' : d = .bl c := eb
    subst eb'
    refine tmt_of (hp _ pe_tm) (h env S _ _ e1 r σ H _ A fun r' H' v s l q => ?_)
    cases q
    exact ⟨c, rfl, hq r' H' s l⟩
  · cases hh

/-! ### slices -/
def cutD (xs : List D) (lo hi : Option Int) : List D := (xs.drop (HT.sIx xs.length 0 lo)).take (HT.sIx xs.length xs.length hi - HT.sIx xs.length 0 lo)
theorem RepL.cut {K : PySem.W.Frag} {mg : Str → Option Value} {r : List Addr} {H : Hp} {xs : List D} {vs : List V} (q : RepL K mg r H xs vs) (lo hi : Option Int) : RepL K mg r H (cutD xs lo hi) (cutV vs lo hi) := by
  unfold cutD cutV
  rw [q.length]
  exact (q.drop _).take _
def slA : D → Option Int → Option Int → Sto → R
  | .tup xs, lo, hi, S => some (.tup (cutD xs lo hi), S)
  | .str z, lo, hi, S => if z.length ≤ sizeLine then some (.str (cutS z lo hi), S) else none
  | .ref n, lo, hi, S => (seqAt n S).bind fun xs => newL (cutD xs lo hi) S
  | _, _, _, _ => none
theorem cut_all {xs : List V} {lo hi : Option Int} (h : HT.sIx xs.length 0 lo = 0 ∧ HT.sIx xs.length xs.length hi = xs.length) : cutV xs lo hi = xs := by
  unfold cutV
  rw [h.1, h.2]
  simp
theorem cut_allD {xs : List D} {lo hi : Option Int} (h : HT.sIx xs.length 0 lo = 0 ∧ HT.sIx xs.length xs.length hi = xs.length) : cutD xs lo hi = xs := by
  unfold cutD
  rw [h.1, h.2]
  simp
theorem slS_A : SlS X (fun x lo hi H Q => rSlL X.K x lo hi H Q ∨ (rSlA X.K x lo hi H Q ∨ rSlS x lo hi H Q)) slA := by
  intro x lo hi S d S' e r H u Q s q1 hq
  unfold slA at e
  split at e
  · rename_i xs _
    cases e
    cases q1 with
    | tup t l =>
      refine .inr (.inl ⟨_, _, rfl, t.sq, fun hw => ?_, fun hw p np => ?_⟩)
      · rw [← l.length] at hw
        rw [cut_allD hw] at hq
        exact hq r H _ s .refl (.tup t l)
      · exact hq r _ _ (s.tup np) (lat_tup np) (.tup upd_same ((l.cut lo hi).lat (lat_tup np)))
  · split at e
    · rename_i hz
      cases e
      cases q1
      exact .inr (.inr ⟨_, rfl, hz, hq r H _ s .refl (.str _)⟩)
    · cases e
  · obtain ⟨xs, e1, e⟩ := Option.bind_eq_some_iff.mp e
    cases q1 with
    | ref ea =>
      obtain ⟨vs, h1, l⟩ := seqAt_ok (X := X) s ea e1
      refine .inl ⟨_, vs, rfl, h1, fun p np => ?_⟩
      obtain ⟨a1, a2, a3⟩ := newL_ok (X := X) s np (l.cut lo hi) e
      exact hq _ _ _ a1 a2 a3
  · cases e
theorem cE_slA {e : Expr} {lo hi : Option Expr} {p2 pos : Pos} {m : ME} {a b : MO} (he : CE X e m) (ha : CO X lo a) (hb : CO X hi b) : CE X (.Subscript e (.Slice lo hi none p2) pos) (mSl slA m a b) :=
  cE_sl (sl_list.or (sl_tupA.or sl_str)) slS_A he ha hb
/-- xs[::-1] of a list -/
def mRev (m : ME) : ME := fun env S => (m env S).bind fun p => match p.1 with
  | .ref n => (seqAt n p.2).bind fun xs => newL xs.reverse p.2
  | _ => none

/-! ### stores -/
def setSeq : D → D → D → Sto → Option Sto
  | .ref n, .int k, d, S => match S[n]? with
    | some (.lst xs) => (ixN xs.length k).map fun j => S.set n (.lst (xs.set j d))
    | some (.dK kvs) => if kvs.length < sizeLine then some (S.set n (.dK (putD kvs (.inl k) d))) else none
    | _ => none
  | .ref n, .str k, d, S => match S[n]? with
    | some (.dK kvs) => if kvs.length < sizeLine then some (S.set n (.dK (putD kvs (.inr k) d))) else none
    | _ => none
  | .ref n, .tup ds, d, S => match S[n]? with
    | some (.dT kvs) => (keysD ds).bind fun k => if kvs.length < sizeLine then some (S.set n (.dT (putD kvs k d))) else none
    | _ => none
  | _, _, _, _ => none
theorem any_ok {K : PySem.W.Frag} {mg : Str → Option Value} {r : List Addr} {H : Hp} {k : Type} [DecidableEq k] {x : k} : ∀ {kvs : List (k × D)} {ws : List (k × V)}, RepKs K mg r H kvs ws → (kvs.any fun kv => decide (kv.1 = x)) = (ws.any fun kv => decide (kv.1 = x))
  | _, _, .nil => rfl
  | (a, d) :: kvs, (b, v) :: ws, .cons ⟨e, q⟩ t => by
    have e' : a = b := e
    subst e'
    rw [List.any_cons, List.any_cons, any_ok t]
theorem map_ok {K : PySem.W.Frag} {mg : Str → Option Value} {r : List Addr} {H : Hp} {k : Type} [DecidableEq k] {x : k} {d : D} {v : V} (qd : RepV K mg r H d v) : ∀ {kvs : List (k × D)} {ws : List (k × V)}, RepKs K mg r H kvs ws →
    RepKs K mg r H (kvs.map (fun kv => if kv.1 = x then (kv.1, d) else kv)) (ws.map (fun kv => if kv.1 = x then (kv.1, v) else kv))
  | _, _, .nil => .nil
  | (a, d') :: kvs, (b, v') :: ws, .cons ⟨e, q⟩ t => by
    have e' : a = b := e
    subst e'
    refine .cons ?_ (map_ok qd t)
    by_cases h : a = x
    · simp only [h, if_true]; exact ⟨trivial, qd⟩
    · simp only [h, if_false]; exact ⟨trivial, q⟩
theorem app_ok {K : PySem.W.Frag} {mg : Str → Option Value} {r : List Addr} {H : Hp} {k : Type} : ∀ {kvs kvs' : List (k × D)} {ws ws' : List (k × V)}, RepKs K mg r H kvs ws → RepKs K mg r H kvs' ws' → RepKs K mg r H (kvs ++ kvs') (ws ++ ws')
  | _, _, _, _, .nil, q => q
  | _, _, _, _, .cons h t, q => .cons h (app_ok t q)
theorem putD_ok {K : PySem.W.Frag} {mg : Str → Option Value} {r : List Addr} {H : Hp} {k : Type} [DecidableEq k] {x : k} {d : D} {v : V} {kvs : List (k × D)} {ws : List (k × V)} (q : RepKs K mg r H kvs ws) (qd : RepV K mg r H d v) : RepKs K mg r H (putD kvs x d) (putK ws x v) := by
  unfold putD putK
  rw [any_ok q]
  split
  · exact map_ok qd q
  · exact app_ok q (.cons ⟨rfl, qd⟩ .nil)
theorem dkput {r : List Addr} {S : Sto} {H : Hp} {n : Nat} {a : Addr} {kvs : List (Key × D)} {ws : List (Key × V)} {k : Key} {d : D} {w : V} (s : Sim X.K X.mg r S H) (ex : S[n]? = some (.dK kvs)) (ea : r[n]? = some a) (h1 : H a = some (.dK ws)) (l : RepKs X.K X.mg r H kvs ws) (q3 : RepV X.K X.mg r H d w) :
    Sim X.K X.mg r (S.set n (.dK (putD kvs k d))) (upd H a (.dK (putK ws k w))) ∧ Lat r H r (upd H a (.dK (putK ws k w))) := by
  have L : Lat r H r (upd H a (.dK (putK ws k w))) := lat_upd h1 trivial
  exact s.put ex ea rfl rfl ⟨_, upd_same, (putD_ok l q3).lat L⟩
theorem setS_A : SetS X (fun o i v H Q => rSetL o i v H Q ∨ rSetD o i v H Q) setSeq := by
  intro o i d S S' e r H u v w Q s q1 q2 q3 hq
  unfold setSeq at e
  split at e
  · skip
    split at e
    · rename_i xs ex
      obtain ⟨j, e1, e2⟩ := Option.map_eq_some_iff.mp e
      subst e2
      cases q1 with
      | ref ea =>
        cases q2
        obtain ⟨vs, h1, l⟩ := s.ob _ _ _ ex ea
        refine .inl ⟨_, vs, _, j, rfl, rfl, h1, by rw [← l.length]; exact e1, ?_⟩
        have L : Lat r H r (upd H _ (.lst (vs.set j w))) := lat_upd h1 trivial
        obtain ⟨s8, l8⟩ := s.put (o' := .lst (xs.set j d)) (v := .lst (vs.set j w)) ex ea rfl rfl ⟨_, upd_same, ((l.set q3 j).lat L)⟩
        exact hq r _ s8 l8
    · rename_i kvs ex
      split at e
      · rename_i hz
        cases e
        cases q1 with
        | ref ea =>
          cases q2
          obtain ⟨ws, h1, l⟩ := s.ob _ _ _ ex ea
          obtain ⟨s8, l8⟩ := dkput (X := X) s ex ea h1 l q3
          exact .inr ⟨_, _, rfl, .inl ⟨ws, .inl _, h1, rfl, by rw [← Paired.len l]; exact hz, rfl⟩, hq r _ s8 l8⟩
      · cases e
    · cases e
  · skip
    split at e
    · rename_i kvs ex
      split at e
      · rename_i hz
        cases e
        cases q1 with
        | ref ea =>
          cases q2
          obtain ⟨ws, h1, l⟩ := s.ob _ _ _ ex ea
          obtain ⟨s8, l8⟩ := dkput (X := X) s ex ea h1 l q3
          exact .inr ⟨_, _, rfl, .inl ⟨ws, .inr _, h1, rfl, by rw [← Paired.len l]; exact hz, rfl⟩, hq r _ s8 l8⟩
      · cases e
    · cases e
  · skip
    split at e
    · rename_i kvs ex
      obtain ⟨k, e1, e⟩ := Option.bind_eq_some_iff.mp e
      split at e
      · rename_i hz
        cases e
        cases q1 with
        | ref ea =>
          cases q2 with
          | tup t lk =>
            have hv := keysD_ok lk e1
            subst hv
            obtain ⟨ws, h1, l⟩ := s.ob _ _ _ ex ea
            have L : Lat r H r (upd H _ (.dT (putK ws k w))) := lat_upd h1 trivial
            obtain ⟨s8, l8⟩ := s.put (o' := .dT (putD kvs k d)) (v := .dT (putK ws k w)) ex ea rfl rfl ⟨_, upd_same, (putD_ok l q3).lat L⟩
            exact .inr ⟨_, _, rfl, .inr ⟨ws, k, _, h1, rfl, t, by rw [← Paired.len l]; exact hz, rfl⟩, hq r _ s8 l8⟩
      · cases e
    · cases e
  · cases e
theorem PSet.or {a b : TSet} (h : PSet X a) (g : PSet X b) : PSet X (fun o i v H Q => a o i v H Q ∨ b o i v H Q) := fun pins s σ H o i v ov iv u Q I r1 r2 r3 q => q.elim (h pins s σ H o i v ov iv u Q I r1 r2 r3) (g pins s σ H o i v ov iv u Q I r1 r2 r3)

/-! ### dicts that are written -/
def mPairs : List (ME × ME) → Env → Sto → Option (List (D × D) × Sto)
  | [], _, S => some ([], S)
  | (a, b) :: ms, env, S => (a env S).bind fun p => (b env p.2).bind fun q => (mPairs ms env q.2).bind fun t => some ((p.1, q.1) :: t.1, t.2)
def RepP (K : PySem.W.Frag) (mg : Str → Option Value) (r : List Addr) (H : Hp) : List (D × D) → List (V × V) → Prop := Paired fun p q => RepV K mg r H p.1 q.1 ∧ RepV K mg r H p.2 q.2
theorem RepP.lat {K : PySem.W.Frag} {mg : Str → Option Value} {r r' : List Addr} {H H' : Hp} {ks : List (D × D)} {ws : List (V × V)} (l : Lat r H r' H') (h : RepP K mg r H ks ws) : RepP K mg r' H' ks ws := Paired.mapP h fun _ _ q => ⟨q.1.lat l, q.2.lat l⟩
def CPs0 (X : Cx) (pos : Pos) (keys : List (Option Expr)) (vals : List Expr) (ms : List (ME × ME)) : Prop := ∃ trs, PPs X pos keys vals trs ∧ ∀ env S ps S', mPairs ms env S = some (ps, S') → ∀ r σ H (Q : List (V × V) → Hp → Prop), At X r env S σ H →
  (∀ r' H' vs, Sim X.K X.mg r' S' H' → Lat r H r' H' → RepP X.K X.mg r' H' ps vs → Q vs H') → tPairs trs σ H Q
structure CPs (X : Cx) (pos : Pos) (keys : List (Option Expr)) (vals : List Expr) (ms : List (ME × ME)) : Prop where
  run : ∃ trs, PPs X pos keys vals trs ∧ ∀ env S ps S', mPairs ms env S = some (ps, S') → ∀ r σ H (Q : List (V × V) → Hp → Prop), At X r env S σ H →
  (∀ r' H' vs, Sim X.K X.mg r' S' H' → Lat r H r' H' → RepP X.K X.mg r' H' ps vs → Q vs H') → tPairs trs σ H Q
theorem cPs_nil {pos : Pos} : CPs X pos [] [] [] := ⟨[], pps_nil, fun env S ps S' h r σ H Q A hq => by cases h; exact hq r H [] A.sim .refl .nil⟩
theorem cPs_cons {pos : Pos} {k v : Expr} {ks : List (Option Expr)} {vs : List Expr} {mk mv : ME} {ms : List (ME × ME)} (hk : CE X k mk) (hv : CE X v mv) (hr : CPs X pos ks vs ms) : CPs X pos (some k :: ks) (v :: vs) ((mk, mv) :: ms) := by
  obtain ⟨trs, pt, hr⟩ := hr
  refine ⟨_, pps_cons pe_tm pe_tm pt, fun env S ps S' h r σ H Q A hq => ?_⟩
  obtain ⟨⟨d1, S1⟩, e1, h⟩ := Option.bind_eq_some_iff.mp h
  obtain ⟨⟨d2, S2⟩, e2, h⟩ := Option.bind_eq_some_iff.mp h
  obtain ⟨⟨ps', S3⟩, e3, h⟩ := Option.bind_eq_some_iff.mp h
  cases h
  refine hk env S d1 S1 e1 r σ H _ A fun r1 H1 v1 s1 l1 q1 => ?_
  refine hv env S1 d2 S2 e2 r1 σ H1 _ (A.lat s1 l1) fun r2 H2 v2 s2 l2 q2 => ?_
  refine hr env S2 ps' S3 e3 r2 σ H2 _ ((A.lat s1 l1).lat s2 l2) fun r3 H3 vs3 s3 l3 q3 => ?_
  exact hq r3 H3 ((v1, v2) :: vs3) s3 (l1.trans (l2.trans l3)) (.cons ⟨q1.lat (l2.trans l3), q2.lat l3⟩ q3)
def keyPs : List (D × D) → Option (List (Key × D))
  | [] => some []
  | (a, b) :: ps => (keyD a).bind fun k => (keyPs ps).map ((k, b) :: ·)
theorem keyPs_ok {K : PySem.W.Frag} {mg : Str → Option Value} {r : List Addr} {H : Hp} : ∀ {ps : List (D × D)} {vs : List (V × V)} {kvs : List (Key × D)}, RepP K mg r H ps vs → keyPs ps = some kvs → ∃ ws : List (Key × V), vs = ws.map (fun kv => (kV kv.1, kv.2)) ∧ RepKs K mg r H kvs ws
  | _, _, _, .nil, h => by simp [keyPs] at h; subst h; exact ⟨[], rfl, .nil⟩
  | (a, b) :: ps, (v, w) :: vs, _, .cons ⟨q1, q2⟩ t, h => by
    simp only [keyPs] at h
    obtain ⟨k, e1, h⟩ := Option.bind_eq_some_iff.mp h
    obtain ⟨ks, e2, e3⟩ := Option.map_eq_some_iff.mp h
    subst e3
    obtain ⟨ws, h1, h2⟩ := keyPs_ok t e2
    refine ⟨(k, w) :: ws, ?_, .cons ⟨rfl, q2⟩ h2⟩
    have hv : v = kV k := keyD_ok q1 e1
    rw [h1, hv]
    rfl
def mergeD (kvs more : List (Key × D)) : List (Key × D) := more.foldl (fun acc kv => putD acc kv.1 kv.2) kvs
theorem mergeD_ok {K : PySem.W.Frag} {mg : Str → Option Value} {r : List Addr} {H : Hp} : ∀ {more : List (Key × D)} {ms : List (Key × V)} {kvs : List (Key × D)} {ws : List (Key × V)}, RepKs K mg r H more ms → RepKs K mg r H kvs ws → RepKs K mg r H (mergeD kvs more) (mergeK ws ms)
  | _, _, _, _, .nil, q => q
  | (a, d) :: more, (b, v) :: ms, kvs, ws, .cons ⟨e, q1⟩ t, q => by
    have e' : a = b := e
    subst e'
    exact mergeD_ok (more := more) (ms := ms) t (putD_ok q q1)
def mDisp (ms : List (ME × ME)) : ME := fun env S => (mPairs ms env (S ++ [.dK []])).bind fun p => match p.2[S.length]? with
  | some (.dK []) => (keyPs p.1).bind fun kvs => if kvs.length ≤ 15 then some (.ref S.length, p.2.set S.length (.dK (mergeD [] kvs))) else none
  | _ => none
theorem cE_disp {keys : List (Option Expr)} {vals : List Expr} {ms : List (ME × ME)} {pos : Pos} (h : CPs X pos keys vals ms) (hall : keys.all (·.isSome) = true) (hl : keys.length = vals.length) (h0 : keys ≠ []) (h15 : keys.length ≤ 15) : CE X (.Dict keys vals pos) (mDisp ms) := by
  obtain ⟨trs, pt, h⟩ := h
  refine ⟨?_⟩
  intro env S d S' hm r σ H Q A hq
  obtain ⟨⟨ps, S1⟩, e1, hm⟩ := Option.bind_eq_some_iff.mp hm
  split at hm
  · rename_i ek
    obtain ⟨kvs, e2, hm⟩ := Option.bind_eq_some_iff.mp hm
    split at hm
    · rename_i hz
      cases hm
      refine tm_of (pe_disp pt hall hl h0 h15) fun p np => ?_
      have s0 : Sim X.K X.mg (r ++ [p]) (S ++ [.dK []]) (upd H p (.dK [])) := A.sim.new np ⟨[], upd_same, .nil⟩
      have pn : (r ++ [p])[S.length]? = some p := by
        rw [← A.sim.len, List.getElem?_append_right (Nat.le_refl _), Nat.sub_self]
        rfl
      refine h env _ ps S1 e1 (r ++ [p]) σ _ _ (A.lat s0 (lat_new np)) fun r1 H1 vs s1 l1 q1 => ?_
      have pn1 := l1.pre _ _ pn
      obtain ⟨ws0, z1, z2⟩ := s1.ob _ _ p ek pn1
      cases z2
      obtain ⟨ws, hw, hk⟩ := keyPs_ok q1 e2
      have L : Lat r1 H1 r1 (upd H1 p (.dK (mergeK [] ws))) := lat_upd z1 trivial
      obtain ⟨s8, l8⟩ := s1.put (o' := .dK (mergeD [] kvs)) (v := .dK (mergeK [] ws)) ek pn1 rfl rfl ⟨_, upd_same, (mergeD_ok hk .nil).lat L⟩
      exact ⟨z1, ws, hw, by rw [← Paired.len hk]; exact hz, hq r1 _ _ s8 ((lat_new np).trans (l1.trans l8)) (.ref pn1)⟩
    · cases hm
  · cases hm
def mEmpty : ME := fun _ S => some (.ref S.length, S ++ [.dK []])
def mEmptyT : ME := fun _ S => some (.ref S.length, S ++ [.dT []])
theorem new_at {r : List Addr} {S : Sto} {H : Hp} {p : Addr} (s : Sim X.K X.mg r S H) : (r ++ [p])[S.length]? = some p := by
  rw [← s.len, List.getElem?_append_right (Nat.le_refl _), Nat.sub_self]
  rfl
theorem cE_empty {pos : Pos} : CE X (.Dict [] [] pos) mEmpty := by
  refine ⟨?_⟩
  intro env S d S' hm r σ H Q A hq
  cases hm
  exact tm_of pe_dnewK fun p np => hq _ _ _ (A.sim.new np ⟨[], upd_same, .nil⟩) (lat_new np) (.ref (new_at A.sim))
theorem cE_emptyT {pos : Pos} : CE X (.Dict [] [] pos) mEmptyT := by
  refine ⟨?_⟩
  intro env S d S' hm r σ H Q A hq
  cases hm
  exact tm_of pe_dnewT fun p np => hq _ _ _ (A.sim.new np ⟨[], upd_same, .nil⟩) (lat_new np) (.ref (new_at A.sim))

/-! ### methods of lists -/
def gAppend : D → List D → Sto → R
  | .ref n, [d], S => match S[n]? with
    | some (.lst xs) => if xs.length < sizeLine then some (.non, S.set n (.lst (xs ++ [d]))) else none
    | _ => none
  | _, _, _ => none
theorem mtS_append {T : String} : MtS X T rAppend gAppend := by
  intro x xs S d S' e r H u vs Q s q1 q2 hq
  unfold gAppend at e
  split at e
  · rename_i n d1
    split at e
    · rename_i ys ex
      split at e
      · rename_i hz
        cases e
        cases q1 with
        | ref ea =>
          match vs, q2 with
          | [v], .cons z .nil =>
            obtain ⟨ws, h1, l⟩ := s.ob _ _ _ ex ea
            have L : Lat r H r (upd H _ (.lst (ws ++ [v]))) := lat_upd h1 trivial
            obtain ⟨s8, l8⟩ := s.put (o' := .lst (ys ++ [d1])) (v := .lst (ws ++ [v])) ex ea rfl rfl ⟨_, upd_same, ((l.append (.cons z .nil)).lat L)⟩
            exact ⟨_, ws, v, rfl, rfl, h1, by rw [← l.length]; exact hz, hq r _ _ s8 l8 .non⟩
      · cases e
    · cases e
  · cases e
def gExtend : D → List D → Sto → R
  | .ref n, [.ref m], S => match S[n]?, S[m]? with
    | some (.lst xs), some (.lst ys) => if xs.length + ys.length ≤ sizeLine then some (.non, S.set n (.lst (xs ++ ys))) else none
    | _, _ => none
  | _, _, _ => none
theorem mtS_extend {T : String} : MtS X T rExtend gExtend := by
  intro x xs S d S' e r H u vs Q s q1 q2 hq
  unfold gExtend at e
  split at e
  · split at e
    · rename_i ys zs ex ez
      split at e
      · rename_i hz
        cases e
        cases q1 with
        | ref ea =>
          match vs, q2 with
          | [v], .cons z .nil =>
            cases z with
            | ref eb =>
            obtain ⟨ws, h1, l⟩ := s.ob _ _ _ ex ea
            obtain ⟨us, h2, l2⟩ := s.ob _ _ _ ez eb
            have L : Lat r H r (upd H _ (.lst (ws ++ us))) := lat_upd h1 trivial
            obtain ⟨s8, l8⟩ := s.put (o' := .lst (ys ++ zs)) (v := .lst (ws ++ us)) ex ea rfl rfl ⟨_, upd_same, ((l.append l2).lat L)⟩
            exact ⟨_, _, ws, us, rfl, rfl, h1, h2, by rw [← l.length, ← l2.length]; exact hz, hq r _ _ s8 l8 .non⟩
      · cases e
    · cases e
  · cases e
theorem RepL.dropLast {K : PySem.W.Frag} {mg : Str → Option Value} {r : List Addr} {H : Hp} {xs : List D} {vs : List V} (q : RepL K mg r H xs vs) : RepL K mg r H xs.dropLast vs.dropLast := by
  rw [List.dropLast_eq_take, List.dropLast_eq_take, q.length]
  exact q.take _
def gPop : D → List D → Sto → R
  | .ref n, [], S => match S[n]? with
    | some (.lst xs) => (xs[xs.length - 1]?).map fun d => (d, S.set n (.lst xs.dropLast))
    | _ => none
  | _, _, _ => none
theorem mtS_pop {T : String} : MtS X T rPop gPop := by
  intro x xs S d S' e r H u vs Q s q1 q2 hq
  unfold gPop at e
  split at e
  · split at e
    · rename_i ys ex
      obtain ⟨d', e1, e2⟩ := Option.map_eq_some_iff.mp e
      cases e2
      cases q1 with
      | ref ea =>
        cases q2
        obtain ⟨ws, h1, l⟩ := s.ob _ _ _ ex ea
        obtain ⟨v, e3, q3⟩ := l.get e1
        have L : Lat r H r (upd H _ (.lst ws.dropLast)) := lat_upd h1 trivial
        obtain ⟨s8, l8⟩ := s.put (o' := .lst ys.dropLast) (v := .lst ws.dropLast) ex ea rfl rfl ⟨_, upd_same, (l.dropLast.lat L)⟩
        exact ⟨_, ws, v, rfl, rfl, h1, by rw [← l.length]; exact e3, hq r _ _ s8 l8 (q3.lat L)⟩
    · cases e
  · cases e

/-! ### built-ins -/
def gLen : List D → Sto → R
  | [.str z], S => if z.length ≤ sizeLine then some (.int z.length, S) else none
  | [d], S => (seqD S d).map fun xs => (.int xs.length, S)
  | _, _ => none
theorem callS_len : CallS X (fun xs H Q => (∃ p ys, xs = [.ref p] ∧ (SqL X.K H p ys ∨ SqT X.K H p ys) ∧ Q (.int ys.length) H) ∨ (∃ z, xs = [.str z] ∧ z.length ≤ sizeLine ∧ Q (.int z.length) H)) gLen := by
  intro xs S d S' e r H vs Q s q hq
  unfold gLen at e
  split at e
  · split at e
    · rename_i hz
      cases e
      match vs, q with
      | [v], .cons z .nil => cases z; exact .inr ⟨_, rfl, hz, hq r H _ s .refl (.int _)⟩
    · cases e
  · obtain ⟨ys, e1, e2⟩ := Option.map_eq_some_iff.mp e
    cases e2
    match vs, q with
    | [v], .cons z .nil =>
      obtain ⟨a, ws, rfl, hs, l⟩ := seqD_ok (X := X) s z e1
      refine .inl ⟨a, ws, rfl, hs, ?_⟩
      rw [← l.length]
      exact hq r H _ s .refl (.int _)
  · cases e
def gTuple : List D → Sto → R
  | [.tup xs], S => some (.tup xs, S)
  | [.ref n], S => (seqAt n S).map fun xs => (.tup xs, S)
  | _, _ => none
theorem callS_tuple : CallS X (fun xs H Q => ∃ p ys, xs = [.ref p] ∧ ((SqL X.K H p ys ∧ ∀ l, H l = none → Q (.ref l) (upd H l (.tup ys))) ∨ (SqT X.K H p ys ∧ Q (.ref p) H))) gTuple := by
  intro xs S d S' e r H vs Q s q hq
  unfold gTuple at e
  split at e
  · cases e
    match vs, q with
    | [v], .cons z .nil => cases z with
      | tup t l => exact ⟨_, _, rfl, .inr ⟨t.sq, hq r H _ s .refl (.tup t l)⟩⟩
  · obtain ⟨ys, e1, e2⟩ := Option.map_eq_some_iff.mp e
    cases e2
    match vs, q with
    | [v], .cons z .nil => cases z with
      | ref ea =>
        obtain ⟨ws, h1, l⟩ := seqAt_ok (X := X) s ea e1
        exact ⟨_, ws, rfl, .inl ⟨h1, fun p np => hq r _ _ (s.tup np) (lat_tup np) (.tup upd_same (l.lat (lat_tup np)))⟩⟩
  · cases e
def gList : List D → Sto → R
  | [d], S => (seqD S d).bind fun xs => newL xs S
  | _, _ => none
theorem callS_list : CallS X (fun xs H Q => ∃ p ys, xs = [.ref p] ∧ (SqL X.K H p ys ∨ SqT X.K H p ys) ∧ ∀ l, H l = none → Q (.ref l) (upd H l (.lst ys))) gList := by
  intro xs S d S' e r H vs Q s q hq
  unfold gList at e
  split at e
  · obtain ⟨ys, e1, e⟩ := Option.bind_eq_some_iff.mp e
    match vs, q with
    | [v], .cons z .nil =>
      obtain ⟨a, ws, rfl, hs, l⟩ := seqD_ok (X := X) s z e1
      refine ⟨a, ws, rfl, hs, fun p np => ?_⟩
      obtain ⟨a1, a2, a3⟩ := newL_ok (X := X) s np l e
      exact hq _ _ _ a1 a2 a3
  · cases e
end
end PL
end

section
set_option Elab.async false
set_option linter.all false
set_option maxRecDepth 100000
/-! PL6: short words for what a program prints -/
namespace PL
open PySem PySem.Spec PyProof.Rows L2

section
variable {X : Cx}
theorem cV (i : Nat) {x : Str} {pos : Pos} (hN : X.N[i]? = some x := by rfl) (hv : Vis X.env.scope x := by first | exact Or.inl rfl | exact Or.inr (Or.inl rfl) | exact Or.inr (Or.inr rfl)) (hd : (x == ("__debug__" : Str)) = false := by decide)
    (hcd : (x == ("__classdict__" : Str)) = false := by decide) : CE X (.Name x pos) (mVar i) := cE_var hN hv hd hcd
theorem cGn (i : Nat) {x : Str} {pos : Pos} (hN : X.N.Nodup) (hi : X.N[i]? = some x := by rfl) (hx : L2.Loc X.env.scope x := by first | exact Or.inl rfl | exact Or.inr rfl) (hf : X.fn x = true ∨ X.env.scope.names.lookup x = some .local := by first | exact .inl rfl | exact .inr rfl | assumption) : CG X (.Name x pos) [i] (gN i) := cG_name hN hi hx hf
theorem cSn (i : Nat) {x : Str} {e : Expr} {m : ME} {pos pos' : Pos} (hN : X.N.Nodup) (he : CE X e m) (hi : X.N[i]? = some x := by rfl) (hx : L2.Loc X.env.scope x := by first | exact Or.inl rfl | exact Or.inr rfl) (hs : swapsWith e (some (.Name x pos')) pos.line X.env = pure false := by rfl) (hf : X.fn x = true ∨ X.env.scope.names.lookup x = some .local := by first | exact .inl rfl | exact .inr rfl | assumption) :
    CS X (.Assign [.Name x pos'] e pos) (mAsg m (gN i)) := cS_set hN hi hx he hs hf
theorem hu64 {k : Nat} {A : Around} (hr : Room k A) : A.units + 64 < cLine := hr.units

/-! ### numbers -/
def cMulB (i j : Int) : Bool := decide (-(2 ^ 64) < i ∧ i < 2 ^ 64) || decide (-(2 ^ 64) < j ∧ j < 2 ^ 64)
theorem opS_mul : OpS X (rI CMul fun i j => .int (i * j)) (iiI cMulB (· * ·)) := opS_iiI fun i j h => by
  unfold cMulB at h
  rw [Bool.or_eq_true, decide_eq_true_eq, decide_eq_true_eq] at h
  exact h
instance (i j : Int) : Decidable (CDiv i j) := inferInstanceAs (Decidable (0 < j ∧ j < 1073741824))
instance (i j : Int) : Decidable (CPow i j) := inferInstanceAs (Decidable (0 ≤ j ∧ j ≤ 1000000 ∧ i.natAbs < 2 ^ 64))
def cDivB (i j : Int) : Bool := decide (0 < j ∧ j < 1073741824)
theorem opS_fdiv : OpS X (rI CDiv fun i j => .int (i / j)) (iiI cDivB (· / ·)) := opS_iiI fun i j h => of_decide_eq_true h
theorem opS_mod : OpS X (rI (fun _ j => 0 < j) fun i j => .int (i % j)) (iiI (fun _ j => decide (0 < j)) (· % ·)) := opS_iiI fun i j h => of_decide_eq_true h
def cPowB (i j : Int) : Bool := decide (0 ≤ j ∧ j ≤ 1000000 ∧ i.natAbs < 2 ^ 64)
theorem opS_pow : OpS X (rI CPow fun i j => .int (i ^ j.toNat)) (iiI cPowB fun i j => i ^ j.toNat) := opS_iiI fun i j h => of_decide_eq_true h
def dAdd : D → D → Sto → R := alt (iiI (fun _ _ => true) (· + ·)) (alt ssS (alt ttT llL))
def dSub : D → D → Sto → R := iiI (fun _ _ => true) (· - ·)
def dMul : D → D → Sto → R := alt (iiI cMulB (· * ·)) tiT'
def dDiv : D → D → Sto → R := iiI cDivB (· / ·)
def dMod : D → D → Sto → R := iiI (fun _ j => decide (0 < j)) (· % ·)
def dPow : D → D → Sto → R := iiI cPowB fun i j => i ^ j.toNat
def dLt : D → D → Sto → R := alt (iiB fun i j => decide (i < j)) (ssB fun i j => decide (i.cps.toList < j.cps.toList))
def dLe : D → D → Sto → R := alt (iiB fun i j => decide (i ≤ j)) (ssB fun i j => !decide (j.cps.toList < i.cps.toList))
def dGt : D → D → Sto → R := alt (iiB fun i j => decide (j < i)) (ssB fun i j => decide (j.cps.toList < i.cps.toList))
def dGe : D → D → Sto → R := alt (iiB fun i j => decide (j ≤ i)) (ssB fun i j => !decide (i.cps.toList < j.cps.toList))
def dEq : D → D → Sto → R := alt (sEq id) (deepB id)
def dNe : D → D → Sto → R := alt (sEq not) (deepB not)
def dIsO : D → D → Sto → R := alt (isN id) (bbB fun a b => decide (a = b))
def dIsNotO : D → D → Sto → R := alt (isN not) (bbB fun a b => !decide (a = b))
def mNeg (a : ME) : ME := fun env S => (a env S).bind fun p => match p.1 with
  | .int i => some (.int (-i), p.2)
  | _ => none
theorem cE_neg {a : Expr} {m : ME} {pos : Pos} (ha : CE X a m) : CE X (.UnaryOp .USub a pos) (mNeg m) := by
  refine ⟨?_⟩
  intro env S d S' h r σ H Q A hq
  obtain ⟨⟨x, S1⟩, e1, h⟩ := Option.bind_eq_some_iff.mp h
  split at h
  · rename_i i ei
    have ei' : x = .int i := ei
    subst ei'
    cases h
    refine tm_of (pe_un un_neg pe_tm) (ha env S _ _ e1 r σ H _ A fun r1 H1 v s1 l1 q1 => ?_)
    cases q1
    exact ⟨i, rfl, hq r1 H1 _ s1 l1 (.int _)⟩
  · cases h
/-! ### chains -/
def mChain (g h : D → D → Sto → R) (a b c : ME) : ME := fun env S => (a env S).bind fun p => (b env p.2).bind fun q => (g p.1 q.1 q.2).bind fun t => match t.1 with
  | .bl true => (c env t.2).bind fun u => h q.1 u.1 u.2
  | .bl false => some (.bl false, t.2)
  | _ => none
theorem chain_ok {a b c : Expr} {ma mb mc : ME} {rr rr' : R2} {g h : D → D → Sto → R} (ha : CE X a ma) (hb : CE X b mb) (hc : CE X c mc) (hg : OpS X rr g) (hh : OpS X rr' h) {env : Env} {S : Sto} {d : D} {S' : Sto} (hm : mChain g h ma mb mc env S = some (d, S')) {r : List Addr} {σ : L2.St} {H : Hp} {Q : VK} (A : At X r env S σ H)
    (hq : ∀ r' H' v, Sim X.K X.mg r' S' H' → Lat r H r' H' → RepV X.K X.mg r' H' d v → Q v H') : tChain rr rr' (TM X a) (TM X b) (TM X c) σ H Q := by
  obtain ⟨⟨x, S1⟩, e1, hm⟩ := Option.bind_eq_some_iff.mp hm
  obtain ⟨⟨y, S2⟩, e2, hm⟩ := Option.bind_eq_some_iff.mp hm
  obtain ⟨⟨t, S3⟩, e3, hm⟩ := Option.bind_eq_some_iff.mp hm
  refine ha env S x S1 e1 r σ H _ A fun r1 H1 u s1 l1 q1 => ?_
  refine hb env S1 y S2 e2 r1 σ H1 _ (A.lat s1 l1) fun r2 H2 v s2 l2 q2 => ?_
  refine hg x y S2 t S3 e3 r2 H2 u v _ s2 (q1.lat l2) q2 fun r3 H3 z s3 l3 q3 => ?_
  split at hm
  · rename_i et
    have et' : t = .bl true := et
    subst et'
    cases q3
    obtain ⟨⟨w, S4⟩, e4, hm⟩ := Option.bind_eq_some_iff.mp hm
    refine ⟨true, rfl, iteT ?_⟩
    refine hc env S3 w S4 e4 r3 σ H3 _ ((A.lat s1 l1).lat s3 (l2.trans l3)) fun r4 H4 z4 s4 l4 q4 => ?_
    exact hh y w S4 d S' hm r4 H4 v z4 Q s4 ((q2.lat l3).lat l4) q4 fun r5 H5 z5 s5 l5 q5 => hq r5 H5 z5 s5 (l1.trans (l2.trans (l3.trans (l4.trans l5)))) q5
  · rename_i et
    have et' : t = .bl false := et
    subst et'
    cases q3
    cases hm
    exact ⟨false, rfl, iteF (hq r3 H3 _ s3 (l1.trans (l2.trans l3)) (.bl _))⟩
  · cases hm
theorem cE_chain {a b c : Expr} {op op' : CmpOp} {ma mb mc : ME} {rr rr' : R2} {g h : D → D → Sto → R} {pos : Pos} (ho : OpR X (compareOp op) rr) (hg : OpS X rr g) (ho' : OpR X (compareOp op') rr') (hh : OpS X rr' h) (ha : CE X a ma) (hb : CE X b mb) (hc : CE X c mc)
    (hm : lastMarks [op, op'] [b, c] = false := by with_unfolding_all rfl) : CE X (.Compare a [op, op'] [b, c] pos) (mChain g h ma mb mc) :=
  ⟨fun env S d S' h' r σ H Q A hq => tm_of (pe_chain ho ho' pe_tm pe_tm pe_tm hm) (chain_ok ha hb hc hg hh h' A hq)⟩
theorem cT_chain {a b c : Expr} {op op' : CmpOp} {ma mb mc : ME} {rr rr' : R2} {g h : D → D → Sto → R} {pos : Pos} (ho : OpR X (compareOp op) rr) (hg : OpS X rr g) (ho' : OpR X (compareOp op') rr') (hh : OpS X rr' h) (ha : CE X a ma) (hb : CE X b mb) (hc : CE X c mc)
    (hm : lastMarks [op, op'] [b, c] = false := by with_unfolding_all rfl) : CT X (.Compare a [op, op'] [b, c] pos) (asB (mChain g h ma mb mc)) := by
  refine ⟨?_⟩
  intro env S k S' h' r σ H Q A hq
  obtain ⟨⟨d, S1⟩, e1, h'⟩ := Option.bind_eq_some_iff.mp h'
  split at h'
  · rename_i b' eb
    cases h'
    have eb' : d = .bl k := eb
    subst eb'
    refine tmt_of (pt_chain ho ho' pe_tm pe_tm pe_tm hm) (chain_ok (Q := fun x H' => ∃ k, x = .bl k ∧ Q k H') ha hb hc hg hh e1 A fun r' H' v s l q => ?_)
    cases q
    exact ⟨k, rfl, hq r' H' s l⟩
  · cases h'
/-! ### in, as a test: its value, by truth -/
theorem cT_ofE {a b : Expr} {op : CmpOp} {m : ME} {pos : Pos} (h : CE X (.Compare a [op] [b] pos) m) (he : ∀ v u : Value, True) (hp : PT X (.Compare a [op] [b] pos) (tTest (TM X (.Compare a [op] [b] pos)))) : CT X (.Compare a [op] [b] pos) (asB m) := by
  refine ⟨?_⟩
  intro env S c S' hh r σ H Q A hq
  obtain ⟨⟨d, S1⟩, e1, hh⟩ := Option.bind_eq_some_iff.mp hh
  split at hh
  · rename_i b' eb
    cases hh
    have eb' : d = .bl c := eb
    subst eb'
    refine tmt_of hp (h env S _ _ e1 r σ H _ A fun r' H' v s l q => ?_)
    cases q
    exact ⟨c, rfl, hq r' H' s l⟩
  · cases hh
theorem inT_ok {a b : Expr} {op : CmpOp} {ma mb : ME} {neg : Bool} {f : Bool → Bool} {pos : Pos} (hf : ∀ b, f b = if neg then !b else b) (ho : OpR X (compareOp op) (rIn X.K neg))
    (hs : OpR X (compareOp op) (fun x y H Q => ∃ i j, x = .str i ∧ y = .str j ∧ Q (.bl (f (!(Builtin.Str.occurrences j i 0 j.length 1).isEmpty))) H))
    (hd : PC X op a b (fun σ H Q => TM X a σ H fun y H1 => TM X b σ H1 fun x H2 => ∃ a o, x = .ref a ∧ DGet H2 a y o ∧ Q (.bl (f o.isSome)) H2))
    (ha : CE X a ma) (hb : CE X b mb) (hm : behindInMarks op b = false) : CT X (.Compare a [op] [b] pos) (asB (mBin (inA f) ma mb)) := by
  refine ⟨?_⟩
  intro env S c S' h r σ H Q A hq
  obtain ⟨⟨d, S0⟩, e0, h⟩ := Option.bind_eq_some_iff.mp h
  split at h
  case h_2 => cases h
  rename_i b' eb
  cases h
  have eb' : d = .bl c := eb
  subst eb'
  have hq' : ∀ r' H' v, Sim X.K X.mg r' S0 H' → Lat r H r' H' → RepV X.K X.mg r' H' (.bl c) v → ∃ k, v = .bl k ∧ Q k H' := fun r' H' v s l q => by
    cases q
    exact ⟨c, rfl, hq r' H' s l⟩
  obtain ⟨⟨x, S1⟩, e1, h⟩ := Option.bind_eq_some_iff.mp e0
  obtain ⟨⟨y, S2⟩, e2, h⟩ := Option.bind_eq_some_iff.mp h
  have two : ∀ g : D → D → Sto → R, g x y S2 = some (.bl c, S0) → mBin g ma mb env S = some (.bl c, S0) := fun g hg => by
    show ((ma env S).bind fun p => (mb env p.2).bind fun q => g p.1 q.1 q.2) = _
    rw [e1]
    show ((mb env S1).bind fun q => g x q.1 q.2) = _
    rw [e2]
    exact hg
  have h' : (inSeq f x y S2).orElse (fun _ => (ssB (fun i j => f (!(Builtin.Str.occurrences j i 0 j.length 1).isEmpty)) x y S2).orElse fun _ => inD f x y S2) = some (.bl c, S0) := h
  cases eg : inSeq f x y S2 with
  | some z =>
    rw [eg] at h'
    exact tmt_of (pt_cmpR ho pe_tm pe_tm hm) (bin_ok (Q := fun x H' => ∃ k, x = .bl k ∧ Q k H') ha hb (opS_inSeq hf) (two _ (by rw [eg]; exact h')) A hq')
  | none =>
    rw [eg] at h'
    have h' : (ssB (fun i j => f (!(Builtin.Str.occurrences j i 0 j.length 1).isEmpty)) x y S2).orElse (fun _ => inD f x y S2) = some (.bl c, S0) := h'
    cases eh : ssB (fun i j => f (!(Builtin.Str.occurrences j i 0 j.length 1).isEmpty)) x y S2 with
    | some z =>
      rw [eh] at h'
      exact tmt_of (pt_cmpR hs pe_tm pe_tm hm) (bin_ok (Q := fun x H' => ∃ k, x = .bl k ∧ Q k H') ha hb opS_ssB (two _ (by rw [eh]; exact h')) A hq')
    | none =>
      rw [eh] at h'
      have h2 : inD f x y S2 = some (.bl c, S0) := h'
      unfold inD at h2
      split at h2
      · rename_i n _
        obtain ⟨o, e3, e4⟩ := Option.map_eq_some_iff.mp h2
        cases e4
        refine tmt_of (pt_cmp hd hm) (ha env S _ S1 e1 r σ H _ A fun r1 H1 u s1 l1 q1 => ?_)
        refine hb env S1 _ _ e2 r1 σ H1 _ (A.lat s1 l1) fun r2 H2 v s2 l2 q2 => ?_
        cases q2 with
        | ref ea =>
          rcases dictAt_ok (X := X) s2 ea (q1.lat l2) e3 with ⟨rfl, z⟩ | ⟨d2, w, rfl, z2, z3⟩
          · exact ⟨_, none, rfl, z, _, rfl, hq r2 H2 s2 (l1.trans l2)⟩
          · exact ⟨_, some w, rfl, z2, _, rfl, hq r2 H2 s2 (l1.trans l2)⟩
      · cases h2
theorem cT_in {a b : Expr} {ma mb : ME} {pos : Pos} (hu : X.A.units + 1 < cLine) (ha : CE X a ma) (hb : CE X b mb) (hm : behindInMarks .In b = false) : CT X (.Compare a [.In] [b] pos) (asB (mBin (inA id) ma mb)) :=
  inT_ok (neg := false) (fun _ => rfl) op_in_seq op_in_str (pc_din hu pe_tm pe_tm) ha hb hm
theorem cT_notIn {a b : Expr} {ma mb : ME} {pos : Pos} (hu : X.A.units + 1 < cLine) (ha : CE X a ma) (hb : CE X b mb) (hm : behindInMarks .NotIn b = false) : CT X (.Compare a [.NotIn] [b] pos) (asB (mBin (inA not) ma mb)) :=
  inT_ok (neg := true) (fun _ => rfl) op_notIn_seq op_notin_str (pc_dnotin hu pe_tm pe_tm) ha hb hm
/-! ### a def where it stands -/
structure DefAt (K : PySem.W.Frag) (mg : Str → Option Value) (x : Str) (st : Stmt) (ps : List Str) (f : Addr) (fd : FuncData) : Prop where
  fn : Fun K x x st f fd
  mg : mg x = some (.ref f)
  bi : Binds K fd ps []
end

/-! ### defs, where nothing is being written out -/
structure FnG (P : Program) (w : World) (K : PySem.W.Frag) (mg : Str → Option Value) (base : Heap) (k : Nat) (f : Addr) (fd : FuncData) (ps : List Str) (sp : Sp) : Prop where
  len : ∀ vs H Q E, sp vs H Q E → vs.length = ps.length
  run : ∀ (A : Around) (outer : List PySem.Env) (s : Shared) (H : Hp) (args : Args) (us : List Value) (vs : List V) (Q : VK) (E : XK), Room k A → A.guards = some [] →
    Env0 P w K mg base A outer s H → BindsTo s fd args (ps.zip us) → Vals vs us → sp vs H Q E → codeAny (model P w) A (.call (.ref f) args) (CR CX0 outer P w H s Q E) s
section
variable {X : Cx} {k n : Nat} {f : Addr} {fd : FuncData} {ps : List Str} {m : MF}
theorem FnG.call {pins : List (Addr × Obj)} {σ : L2.St} {H : Hp} {s : Shared} {Q : VK} {us : List Value} {vs : List V} {sp : Sp} (F : FnG X.prog X.w X.K X.mg X.base k f fd ps sp) (hr : Room k X.A) (hgd : X.A.guards = some []) (hb : Binds X.K fd ps [])
    (I : Inv X pins σ H s) (rv : Vals vs us) (h : sp vs H Q E0) : wpAny (model X.prog X.w) X.A (call (.ref f) us) (EP X pins σ Q) X.xe s := by
  have n1 : us.length = ps.length := rv.length.symm.trans (F.len _ _ _ _ h)
  have b1 := hb s us I.kIn (by rw [List.append_nil]; exact n1)
  rw [List.append_nil] at b1
  refine wpAny_call ?_
  refine codeAny_mono (F.run X.A X.stack s H ⟨us, []⟩ us vs Q E0 hr hgd I.env0 b1 rv h) ?_
  intro res s' got
  match res, got with
  | .error _, got => exact absurd got id
  | .ok (.ret _), got => exact I.after got
  | .ok .next, got => exact absurd got id
  | .ok .brk, got => exact absurd got id
  | .ok .cont, got => exact absurd got id
theorem cE_callG {x : Str} {p pos : Pos} {e : Expr} {es : List Expr} {a : MA} (F : FnG X.prog X.w X.K X.mg X.base k f fd ps (spM X.K X.mg n m)) (hr : Room k X.A) (hgd : X.A.guards = some []) (hg : Gl X x) (hm : X.mg x = some (.ref f))
    (hk : PySem.W.keepIn X.K (.ref f) = true) (hb : Binds X.K fd ps []) (ha : CA X (e :: es) a) (hdb : (x == ("__debug__" : Str)) = false := by decide) (he : starEach (e :: es) X.env = (false, eval e X.env) :: starEach es X.env := by rfl)
    (hpl : (backTo pos (starEach es X.env)).any (·.1) = false := by rfl) : CE X (.Call (.Name x p) (e :: es) [] pos) (mCall n m a) := by
  refine ⟨?_⟩
  intro env S d S' h r σ H Q A hq
  obtain ⟨⟨ds, S1⟩, e1, h⟩ := Option.bind_eq_some_iff.mp h
  split at h
  case isFalse => cases h
  rename_i hl
  intro pins s I
  refine wpAny_Call_Name_kw (ld_glob I hg hm ?_ hdb)
  have args := ha env S ds S1 e1 r σ H (fun vs H1 => spM X.K X.mg n m vs H1 Q E0) A fun r1 H1 vs s1 l1 q1 => ⟨r1, S1, ds, d, S', hl, s1, q1, h, fun r2 H2 v s2 l2 q2 => hq r2 H2 v s2 (l1.trans l2) q2⟩
  refine PySem.W.callWith_K (h₀ := X.base) I.ok.mod.kin hk (thn (args pos pins s I) ?_) he hpl
  rintro us s1 ⟨vs, H1, I1, rv, q⟩
  exact ⟨I1.kIn, F.call hr hgd hb I1 rv q⟩
theorem cE_callG0 {x : Str} {p pos : Pos} (F : FnG X.prog X.w X.K X.mg X.base k f fd ps (spM X.K X.mg 0 m)) (hr : Room k X.A) (hgd : X.A.guards = some []) (hg : Gl X x) (hm : X.mg x = some (.ref f))
    (hk : PySem.W.keepIn X.K (.ref f) = true) (hb : Binds X.K fd ps []) (hdb : (x == ("__debug__" : Str)) = false := by decide) : CE X (.Call (.Name x p) [] [] pos) (mCall 0 m mNil) := by
  refine ⟨?_⟩
  intro env S d S' h r σ H Q A hq
  intro pins s I
  refine wpAny_Call_Name_kw (ld_glob I hg hm ?_ hdb)
  refine PySem.W.callWith_K0 I.kIn hk (F.call (vs := []) hr hgd hb I .nil ?_)
  exact ⟨r, S, [], d, S', rfl, A.sim, .nil, h, fun r2 H2 v s2 l2 q2 => hq r2 H2 v s2 l2 q2⟩
end
theorem fnG_none {P : Program} {w : World} {K : PySem.W.Frag} {mg : Str → Option Value} {base : Heap} {k n : Nat} {f : Addr} {fd : FuncData} {ps : List Str} : FnG P w K mg base k f fd ps (spM K mg n fun _ _ => none) :=
  ⟨fun _ _ _ _ ⟨_, _, _, _, _, _, _, _, z, _⟩ => (nomatch z), fun _ _ _ _ _ _ _ _ _ _ _ _ _ _ ⟨_, _, _, _, _, _, _, _, z, _⟩ => (nomatch z)⟩
theorem fnG_ok {P : Program} {w : World} {K : PySem.W.Frag} {mg : Str → Option Value} {base : Heap} {x qual : Str} {st : Stmt} {f : Addr} {fd : FuncData} {N ps : List Str} {k n : Nat} {b : MS} (F : Fun K x qual st f fd) (S : FnScope N ps (defScope st)) (hn : ps.length = n)
    (hb : ∀ (cdv : Value) (A : Around) (outer : List PySem.Env) (s : Shared) (H : Hp) (E : XK), Room k (A.deeper (envOfC qual (defScope st) s.heap.objs.size f cdv)) → A.guards = some [] → CSs (cxOf CX0 P w K mg base N qual (defScope st) f cdv A outer s H E).nox (defBody st) b) :
    FnG P w K mg base (k + 1) f fd ps (spM K mg n (mBody N.length b)) := by
  have lens : ∀ vs H Q E, spM K mg n (mBody N.length b) vs H Q E → vs.length = ps.length := by
    rintro vs H Q E ⟨r, S0, ds, d, S', hl, _, q, _⟩
    rw [← q.length, hl, hn]
  refine ⟨lens, ?_⟩
  intro A outer s H args us vs Q E hr hgd e0 hbd rv hsp
  obtain ⟨oc, od, kV, doc, pm, an, cdv, ct, osl, rfl, lk, hcd⟩ := F.ex
  have hl := lens _ _ _ _ hsp
  have KX : K.In s.heap := e0.mod.kin.keeps fun c o e => (e0.bs c o e).1
  have nolim : s.heap.NoLimit := e0.mod.nolimit.keeps fun c o e => (e0.bs c o e).1
  have kinds : ∀ y ∈ ps.zip us, (defScope st).names.lookup y.1 = some .local ∨ ((defScope st).names.lookup y.1 = some .cell ∧ ((cellsFrom (s.heap.objs.size + 1) (defScope st).names []).lookup y.1).isSome = true) := by
    rintro ⟨z, u⟩ hz
    exact (S.par z (List.of_mem_zip hz).1).imp id fun c => ⟨c, PySem.W.cellsFrom_some _ _ _ (.inl c)⟩
  refine codeAny_call_function hr.depth (KX f _ lk) rfl S.co S.gen rfl (PySem.W.codeRec_of KX hcd) (hbd _ _ _ _ ?_)
  refine wpAny_newFunctionEnv_cells S.kind kinds ?_
  rintro env rfl s1 ic
  refine ⟨nolim.keeps ic.toInCall.keep, codeAny_func ?_⟩
  have I := inv_start (CX := CX0) (E := E) (P := P) (w := w) (K := K) (mg := mg) (base := base) (cd := cdv) (qual := qual) S hr.hd e0 hl rv ic
  obtain ⟨r, S0, ds, d, S', _, s0, q, h, hq⟩ := hsp
  obtain ⟨⟨fl, env', S1⟩, e1, h⟩ := Option.bind_eq_some_iff.mp h
  have body : TMss (cxOf CX0 P w K mg base N qual (defScope st) f cdv A outer s H E).nox (defBody st) { nx := fun _ H' => Q .non H', rt := Q } (L2.start N vs) H := by
    refine hb cdv A outer s H E (hr.deeper _) hgd _ S0 fl env' S1 e1 r _ H _ ⟨s0, startE_ok N q⟩ ?_
    match fl, h with
    | .nx, h => cases h; exact fun r' σ' H' A' l' => hq r' H' .non A'.sim l' .non
    | .rt d1, h => cases h; exact fun r' H' v s' l' q' => hq r' H' v s' l' q'
    | .bk, h => cases h
    | .ct, h => cases h
  refine wpAny_mono ((pss_tm (X := cxOf CX0 P w K mg base N qual (defScope st) f cdv A outer s H E) (st := defBody st)).run [] s1 (L2.start N vs) H { nx := fun _ H' => Q .non H', rt := Q } I ?_) ?_ fun _ _ z => z
  · exact fun pins s' I' => (PSs.nox (X := cxOf CX0 P w K mg base N qual (defScope st) f cdv A outer s H E) (pss_tm (st := defBody st))).run pins s' _ _ _ I' body
  · intro fl s' got
    match fl, got with
    | .ret u, ⟨v, σ', H', J, rv', q'⟩ => exact ⟨v, H', J.os, J.bare, J.base, J.hok, rv', q'⟩
    | .next, ⟨σ', H', J, q'⟩ => exact ⟨V.non, H', J.os, J.bare, J.base, J.hok, (rfl : RelV V.non Value.none), q'⟩
    | .brk, ⟨_, _, _, q'⟩ => exact absurd q' id
    | .cont, ⟨_, _, _, q'⟩ => exact absurd q' id

/-! ### repr -/
section
variable {X : Cx}
def reprOk (p : PyData) : Bool := PyData.showable p && !PyData.hasDict p && decide (PyData.depth p ≤ 40) && decide ((PyData.shown p).length ≤ sizeLine)
def gRepr : List D → Sto → R
  | [.tup xs], S => (pyD (.tup xs)).bind fun p => if reprOk p = true then some (.str (PyData.shown p), S) else none
  | _, _ => none
def rRepr (K : PySem.W.Frag) : List V → Hp → VK → Prop := fun vs H Q => ∃ a p, vs = [.ref a] ∧ Dp K H (.ref a) p ∧ reprOk p = true ∧ Q (.str (PyData.shown p)) H
theorem callR_repr (hgd : X.A.guards = some []) (hu : X.A.units + 64 < cLine) : CallR X (.builtin "repr") (rRepr X.K) := by
  intro pins s σ H vs us Q I rv h
  obtain ⟨a, p, rfl, hd, ok, q⟩ := h
  cases rv with
  | cons r1 r2 =>
    cases r2
    obtain ⟨as, rd⟩ := Dp.reads I p _ _ hd r1
    cases r1
    unfold reprOk at ok
    simp only [Bool.and_eq_true, Bool.not_eq_true', decide_eq_true_eq] at ok
    obtain ⟨⟨⟨o1, o2⟩, o3⟩, o4⟩ := ok
    refine repr_of_reads' rd o1 (PyData.noDict_hsm o2) hgd (by omega) (fun _ _ e => e) (fun h' u tk kp => ?_) o4
    exact ⟨.str _, H, I.kept (t' := tk) kp, ⟨_, rfl⟩, q⟩
theorem callS_repr : CallS X (rRepr X.K) gRepr := by
  intro xs S d S' e r H vs Q s q hq
  unfold gRepr at e
  split at e
  case h_2 => cases e
  obtain ⟨p, e1, e⟩ := Option.bind_eq_some_iff.mp e
  split at e
  case isFalse => cases e
  rename_i ok
  cases e
  match vs, q with
  | [v], .cons z .nil =>
    have hd := pyD_ok z e1
    cases z
    exact ⟨_, p, rfl, hd, ok, hq r H _ s .refl (.str _)⟩
end

/-! ### the law itself -/
theorem repInts {K : PySem.W.Frag} {mg : Str → Option Value} {r : List Addr} {H : Hp} : ∀ ns : List Int, RepL K mg r H (ns.map D.int) (ns.map V.int)
  | [] => .nil
  | c :: cs => .cons (.int c) (repInts cs)
/-- the script's place and content in the heap ahead of all -/
def scr (a : Addr) (o : Obj) (ns : List Int) : Hp := fun b => if b = a then some (.frz o (.lst (ns.map V.int))) else none
theorem law_end {l : PySem.W.OpenLaw} {n k : Nat} {q : Program} {loose : List Str} {XP : (Str → Option Value) → Heap → Prop} {YP : World → Heap → Prop} {d : DefRec} {K : Params → PySem.W.Frag} {m : MF} {x : Str}
    (hn : l.most = some n) (hn2 : n ≤ sizeLine) (hdf : d.params.defaults = []) (hr : Room k callerA) (hY : ∀ (w : World) (h : Heap), YP w h → (K w.params).In h)
    (F : ∀ (w : World) (mg : Str → Option Value) (fa : Addr) (h : Heap), (K w.params).In h → h.Ns mainGlobals mg → mg d.name = some (.ref fa) → ∃ fd : FuncData, Binds (K w.params) fd [x] [] ∧
      ∀ base : Heap, (K w.params).In base → base.Ns mainGlobals mg → FnG l.prog w (K w.params) mg base k fa fd [x] (spM (K w.params) mg 1 m))
    (hm : ∀ ns : List Int, ns.length ≤ n → ∃ S', m [.ref 0] [.cst (ns.map D.int)] = some (.bl true, S')) :
    PySem.W.WalkO q loose XP YP l.row.toRowW d [] (fun f vs => PySem.call f vs) := by
  refine Att.attach_call hn hdf ?_
  intro w s0 s1 mg mb fa o pm cd doc a vs ns G Y ho hd hcd hmg hobj hints hlen hgens
  have KX := hY w _ Y
  obtain ⟨fd, hbind, hF⟩ := F w mg fa _ KX G.T.g hmg
  have rv : Vals (ns.map V.int) vs := vals_ints hints
  have lz : ns.length ≤ sizeLine := Nat.le_trans hlen hn2
  have args : BindsTo s1 fd ⟨[.ref a], []⟩ ([x].zip [.ref a]) := by
    have z := hbind s1 [.ref a] KX rfl
    rwa [List.append_nil] at z
  obtain ⟨S', eS⟩ := hm ns hlen
  -- the run, from a heap in which the script alone may be tracked
  have go : ∀ (H : Hp), (∀ b, H b = none ∨ (b = a ∧ H b = some (.frz { cls := .type "list", data := .seq vs.toArray } (.lst (ns.map V.int))))) → CstAt (K w.params) H a (ns.map V.int) → (H a ≠ none → (K w.params).lookup a = none) →
      codeAny (model l.prog w) callerA (.call (.ref fa) ⟨[.ref a], []⟩) (fun r s' => r = .ok (.ret (.bool true)) ∧ OldK s1.heap s'.heap ∧ s'.os = s1.os ∧ AllBare s'.gens) s1 := by
    intro H only hS noK
    have off : ∀ b ob, s1.heap.get? b = some ob → (∀ xs c, ob.data ≠ .seq xs c) → H b = none := by
      intro b ob e ne
      rcases only b with z | ⟨rfl, _⟩
      · exact z
      · rw [hobj] at e
        cases e
        exact absurd rfl (ne _ _)
    have nsT : ∀ {b : Addr} {mm : Str → Option Value}, s1.heap.Ns b mm → (hidT s1.heap H).Ns b mm := by
      rintro b mm ⟨ob, es, ep, e, dd, rest⟩
      exact ⟨ob, es, ep, hidT_get e (off b ob e fun _ _ z => by rw [dd] at z; cases z), dd, rest⟩
    have KT : (K w.params).In (hidT s1.heap H) := by
      intro b ob e
      refine hidT_get (KX b ob e) ?_
      rcases only b with z | ⟨rfl, z⟩
      · exact z
      · rw [noK (by rw [z]; exact fun c => nomatch c)] at e
        cases e
    have MT : Mod (K w.params) mg (hidT s1.heap H) := ⟨KT, nsT G.T.g, ⟨mb, nsT G.T.b, G.T.builtins⟩, let ⟨mc, c1, c2⟩ := G.T.nolimit; ⟨mc, nsT c1, c2⟩⟩
    have okH : HOk l.prog w H s1.heap := by
      intro b u e
      rcases only b with z | ⟨rfl, z⟩
      · rw [z] at e
        cases e
      · rw [z] at e
        cases e
        exact ⟨hobj, by rw [List.length_map]; exact lz, vs, _, rv, hobj⟩
    have E1 : Env0 l.prog w (K w.params) mg (hidT s1.heap H) callerA [] s1 H := ⟨rfl, MT, fun _ _ e => of_hidT e, Nat.le_of_eq (hidT_size _ _), trivial, fun _ z => (nomatch z), okH, .of_eq hgens⟩
    have sim : Sim (K w.params) mg [a] [.cst (ns.map D.int)] H := by
      refine ⟨rfl, fun i j b u v e1 e2 e3 e4 m1 m2 => ?_, fun i u b e1 e2 => ?_⟩
      · match i, e3 with
        | 0, e3 => cases e3; cases m1
      · match i, e1, e2 with
        | 0, e1, e2 =>
          cases e1
          cases e2
          exact ⟨ns.map V.int, hS, repInts ns⟩
    have prom : spM (K w.params) mg 1 m [.ref a] H (fun v _ => v = .bl true) E0 := by
      refine ⟨[a], _, [.ref 0], .bl true, S', rfl, sim, .cons (.ref rfl) .nil, eS, fun r' H' v _ _ z => ?_⟩
      cases z
      rfl
    refine codeAny_mono ((hF _ KT (nsT G.T.g)).run callerA [] s1 H ⟨[.ref a], []⟩ [.ref a] [.ref a] _ E0 hr rfl E1 args (.cons rfl .nil) prom) ?_
    intro res s' got
    match res, got with
    | .error _, got => exact absurd got id
    | .ok .next, got => exact absurd got id
    | .ok .brk, got => exact absurd got id
    | .ok .cont, got => exact absurd got id
    | .ok (.ret u), ⟨v, H', os, bare, un, okH', ru, ev⟩ =>
      have ev' : v = .bl true := ev
      subst ev'
      have eu : u = Value.bool true := ru
      subst eu
      refine ⟨rfl, .of_keep fun b ob e => ?_, os, bare⟩
      rcases only b with z | ⟨rfl, z⟩
      · exact un.keep b ob e z (fun c => nomatch c) (fun c => nomatch c)
      · rw [hobj] at e
        cases e
        exact (okH' b _ (un.frzs b _ _ z)).1
  match hk : (K w.params).lookup a with
  | some ob =>
    have e := KX a ob hk
    rw [hobj] at e
    cases e
    exact go (fun _ => none) (fun _ => .inl rfl) (.inr ⟨_, vs.toArray, _, hk, rfl, rfl, rfl, by rw [List.size_toArray, hints.length]; exact lz, rv⟩) fun z => absurd rfl z
  | none =>
    refine go (scr a { cls := .type "list", data := .seq vs.toArray } ns) (fun b => ?_) (.inl ⟨{ cls := .type "list", data := .seq vs.toArray }, if_pos rfl⟩) fun _ => hk
    by_cases hb : b = a
    · exact .inr ⟨hb, if_pos hb⟩
    · exact .inl (if_neg hb)
end PL
end

section
set_option Elab.async false
set_option linter.all false
set_option maxRecDepth 100000
/-! PL7: the rules again, their side conditions by looks at the outermost sign alone -/
namespace PL
open PySem PySem.Spec PyProof.Rows L2
/-- no star -/
def nS : Expr → Bool
  | .Starred _ _ => false
  | _ => true
def nSs : List Expr → Bool
  | [] => true
  | e :: es => nS e && nSs es
/-- no comprehension -/
def nC : Expr → Bool
  | .ListComp _ _ _ _ => false
  | .SetComp _ _ _ _ => false
  | .DictComp _ _ _ _ _ => false
  | _ => true
def nSl : Expr → Bool
  | .Slice _ _ _ _ => false
  | _ => true
/-- a test that is a value's truth -/
def nT : Expr → Bool
  | .UnaryOp .Not _ _ => false
  | .BoolOp _ _ _ => false
  | .IfExp _ _ _ _ => false
  | .Compare _ _ _ _ => false
  | _ => true
def nSet : Expr → Bool
  | .Set _ _ _ => false
  | _ => true
def nCall : Expr → Bool
  | .Call _ _ _ _ => false
  | _ => true
def nTup : Expr → Bool
  | .Tuple _ _ _ => false
  | .List _ _ => false
  | _ => true
theorem star_cons {e : Expr} {es : List Expr} {env : PySem.Env} (h : nS e = true) : starEach (e :: es) env = (false, eval e env) :: starEach es env := by
  cases e <;> first | (cases h; done) | simp only [starEach]
theorem star_plain {pos : Pos} {env : PySem.Env} : ∀ {es : List Expr}, nSs es = true → (backTo pos (starEach es env)).any (·.1) = false
  | [], _ => by simp [starEach, backTo]
  | e :: es, h => by
    have h' : (nS e && nSs es) = true := h
    rw [Bool.and_eq_true] at h'
    rw [star_cons h'.1]
    have ih := star_plain (pos := pos) (env := env) h'.2
    show (false || (backTo pos (starEach es env)).any (·.1)) = false
    rw [Bool.false_or]
    exact ih
theorem star_all {pos : Pos} {env : PySem.Env} : ∀ {es : List Expr}, nSs es = true → (backTo pos (starEach es env)).all (fun x => !x.1) = true
  | [], _ => by simp [starEach, backTo]
  | e :: es, h => by
    have h' : (nS e && nSs es) = true := h
    rw [Bool.and_eq_true] at h'
    rw [star_cons h'.1]
    have ih := star_all (pos := pos) (env := env) h'.2
    show (true && (backTo pos (starEach es env)).all (fun x => !x.1)) = true
    rw [Bool.true_and]
    exact ih
theorem nSs_cons {e : Expr} {es : List Expr} (h : nSs (e :: es) = true) : nS e = true ∧ nSs es = true := by
  have h' : (nS e && nSs es) = true := h
  rwa [Bool.and_eq_true] at h'
theorem sw_no {e : Expr} {t : Option Expr} {l : Nat} {env : PySem.Env} (h : nC e = true) : swapsWith e t l env = pure false := by
  cases e <;> first | (cases h; done) | rfl
theorem base_no {o : Expr} {n : Str} {env : PySem.Env} (h : nCall o = true) : attributeBase o n env (eval o env) = eval o env := by
  cases o <;> first | (cases h; done) | rfl
theorem plain_ix {b : Expr} (h : nSl b = true) : PlainIx b := by
  intro o i
  cases b <;> first | (cases h; done) | rfl
theorem truth_of {a : Expr} {env : PySem.Env} (h : nT a = true) : ∀ whole, PySem.isTrue a env whole = (do let v ← whole; standAt a.pos; holding [v] (truthy v)) := by
  intro whole
  cases a <;> first | (cases h; done) | (simp only [PySem.isTrue]; done) | skip
  rename_i op x p
  cases op <;> first | (cases h; done) | simp only [PySem.isTrue]
theorem fold_no {e : Expr} {env : PySem.Env} (h : nSet e = true) : ∀ x, foldedSetIterable e env x = pure x := by
  intro x
  cases e <;> first | (cases h; done) | rfl
theorem mark_no {op : CmpOp} {b : Expr} (h : nSet b = true) : behindInMarks op b = false := by
  cases b <;> first | (cases h; done) | rfl
theorem sws_no {t e : Expr} {l : Nat} {env : PySem.Env} (h : nC e = true) : swapsWithSole [t] e l env = pure false := sw_no h
theorem swst_no {t e : Expr} {env : PySem.Env} (h : nTup t = true) : swappedStores [t] e env = pure none := by
  cases t <;> first | (cases h; done) | rfl
theorem swse_no {t e : Expr} {env : PySem.Env} (h : nTup e = true) : swappedStores [t] e env = pure none := by
  cases t <;> first | rfl | (cases e <;> first | (cases h; done) | rfl)
theorem asg_one {t : Expr} {env : PySem.Env} (h : nS t = true) : (assignEach [t] env).map (·.2) = [assign t env] := by
  cases t <;> first | (cases h; done) | simp only [assignEach, List.map]
theorem asg_cons {t : Expr} {ts : List Expr} {env : PySem.Env} (h : nS t = true) : (assignEach (t :: ts) env).map (·.2) = assign t env :: (assignEach ts env).map (·.2) := by
  cases t <;> first | (cases h; done) | simp only [assignEach, List.map]
theorem asg_len {env : PySem.Env} : ∀ {ts : List Expr}, (assignEach ts env).length = ts.length
  | [] => by simp only [assignEach, List.length_nil]
  | t :: ts => by
    have ih := asg_len (env := env) (ts := ts)
    cases t <;> simp only [assignEach, List.length_cons, ih]
theorem asg_star {env : PySem.Env} : ∀ {ts : List Expr}, nSs ts = true → (assignEach ts env).findIdx? (·.1) = none
  | [], _ => by simp only [assignEach, List.findIdx?_nil]
  | t :: ts, h => by
    obtain ⟨h1, h2⟩ := nSs_cons h
    have ih := asg_star (env := env) h2
    cases t <;> first | (cases h1; done) | (simp only [assignEach, List.findIdx?_cons, ih]; rfl)
theorem asg_sub {o i : Expr} {pos : Pos} {env : PySem.Env} (h : nSl i = true) : ∀ v, assign (.Subscript o i pos) env v = (do
      let ov ← holding [v] (eval o env)
      let iv ← holding [v, ov] (eval i env)
      standAt pos
      holding [v, ov, iv] (setItem ov iv v)
      release [v, ov, iv] []) := by
  intro v
  cases i <;> first | (cases h; done) | simp only [assign]

section
variable {X : Cx}
theorem kA {e : Expr} {es : List Expr} {a : ME} {b : MA} (ha : CE X e a) (hb : CA X es b) (h : nS e = true := by rfl) : CA X (e :: es) (mCons a b) := cA_cons ha hb (star_cons h)
theorem kCall {k n : Nat} {f : Addr} {fd : FuncData} {ps : List Str} {m : MF} {x : Str} {p pos : Pos} {e : Expr} {es : List Expr} {a : MA} (F : FnG X.prog X.w X.K X.mg X.base k f fd ps (spM X.K X.mg n m)) (hr : Room k X.A) (hgd : X.A.guards = some [])
    (hk : PySem.W.keepIn X.K (.ref f) = true) (hb : Binds X.K fd ps []) (hm : X.mg x = some (.ref f)) (ha : CA X (e :: es) a) (hg : Gl X x := by rfl) (hdb : (x == ("__debug__" : Str)) = false := by decide) (h : nSs (e :: es) = true := by rfl) : CE X (.Call (.Name x p) (e :: es) [] pos) (mCall n m a) :=
  cE_callG F hr hgd hg hm hk hb ha hdb (star_cons (nSs_cons h).1) (star_plain (nSs_cons h).2)
section
variable {x : Str} {p pos : Pos} {e : Expr} {es : List Expr} {a : MA} {rr : List V → Hp → VK → Prop} {g : List D → Sto → R} {id T : String}
theorem kB (hc : CallR X (.builtin id) rr) (hs : CallS X rr g) (hm : X.mg x = none) (hv : bootBuiltins x = some (.builtin id)) (ha : CA X (e :: es) a) (hg : Gl X x := by rfl) (hn : x ≠ "__name__" := by decide) (hdb : (x == ("__debug__" : Str)) = false := by decide)
    (h : nSs (e :: es) = true := by rfl) : CE X (.Call (.Name x p) (e :: es) [] pos) (mBlt g a) := cE_callB hc hs hg hm hv ha hn hdb (star_cons (nSs_cons h).1) (star_plain (nSs_cons h).2)
theorem kTy (hc : CallR X (.type T) rr) (hs : CallS X rr g) (hm : X.mg x = none) (hv : bootBuiltins x = some (.type T)) (ha : CA X (e :: es) a) (hg : Gl X x := by rfl) (hn : x ≠ "__name__" := by decide) (hdb : (x == ("__debug__" : Str)) = false := by decide)
    (h : nSs (e :: es) = true := by rfl) : CE X (.Call (.Name x p) (e :: es) [] pos) (mBlt g a) := cE_callTy hc hs hg hm hv ha hn hdb (star_cons (nSs_cons h).1) (star_plain (nSs_cons h).2)
end
section
variable {T id : String} {name : Str} {apos cpos : Pos} {o e : Expr} {es : List Expr} {a : MA} {mo : ME} {rr : V → List V → Hp → VK → Prop} {g : D → List D → Sto → R}
theorem kMt0 (pa : PlainAttrs T) (slot : Slot T name id) (hty : typeOf (.builtin id) = pure (.type "method_descriptor")) (hm : MtR X id rr) (hs : MtS X T rr g) (ho : CE X o mo) (h : nCall o = true := by rfl) (hline : (apos.endLine == cpos.line) = true := by rfl) :
    CE X (.Call (.Attribute o name apos) [] [] cpos) (mMt T g mo mNil) := cE_mt0 pa slot hty hm hs ho (base_no h) hline
theorem kMt (pa : PlainAttrs T) (slot : Slot T name id) (hty : typeOf (.builtin id) = pure (.type "method_descriptor")) (hm : MtR X id rr) (hs : MtS X T rr g) (ho : CE X o mo) (ha : CA X (e :: es) a) (h : nCall o = true := by rfl) (hS : nSs (e :: es) = true := by rfl)
    (hline : (apos.endLine == cpos.line) = true := by rfl) (hlen : decide ((e :: es).length < 30) = true := by rfl) : CE X (.Call (.Attribute o name apos) (e :: es) [] cpos) (mMt T g mo a) := by
  refine cE_mt pa slot hty hm hs ho ha (base_no h) ?_ hline (star_cons (nSs_cons hS).1) (star_plain (nSs_cons hS).2)
  rw [star_all hS]
  have hl : (e :: es).length < 30 := of_decide_eq_true hlen
  simp only [keywordEach, backToKw, List.map_nil, List.all_nil, Bool.true_and, decide_eq_true_eq, List.isEmpty_nil, if_true, List.length_nil, Nat.add_zero]
  exact hl
end
theorem kIx {a b : Expr} {ma mb : ME} {pos : Pos} (hu : X.A.units + 1 < cLine) (ha : CE X a ma) (hb : CE X b mb) (h : nSl b = true := by rfl) : CE X (.Subscript a b pos) (mBin ixA ma mb) := cE_ixA hu ha hb (plain_ix h)
theorem kTru {a : Expr} {m : ME} (ha : CE X a m) (h : nT a = true := by rfl) : CT X a (mTru m) := cT_tru ha (truth_of h)
theorem kIn {a b : Expr} {ma mb : ME} {pos : Pos} (hu : X.A.units + 1 < cLine) (ha : CE X a ma) (hb : CE X b mb) (h : nSet b = true := by rfl) : CE X (.Compare a [.In] [b] pos) (mBin (inA id) ma mb) := cE_in hu ha hb (mark_no h)
theorem kNotIn {a b : Expr} {ma mb : ME} {pos : Pos} (hu : X.A.units + 1 < cLine) (ha : CE X a ma) (hb : CE X b mb) (h : nSet b = true := by rfl) : CE X (.Compare a [.NotIn] [b] pos) (mBin (inA not) ma mb) := cE_notIn hu ha hb (mark_no h)
theorem kInT {a b : Expr} {ma mb : ME} {pos : Pos} (hu : X.A.units + 1 < cLine) (ha : CE X a ma) (hb : CE X b mb) (h : nSet b = true := by rfl) : CT X (.Compare a [.In] [b] pos) (asB (mBin (inA id) ma mb)) := cT_in hu ha hb (mark_no h)
theorem kNotInT {a b : Expr} {ma mb : ME} {pos : Pos} (hu : X.A.units + 1 < cLine) (ha : CE X a ma) (hb : CE X b mb) (h : nSet b = true := by rfl) : CT X (.Compare a [.NotIn] [b] pos) (asB (mBin (inA not) ma mb)) := cT_notIn hu ha hb (mark_no h)
theorem kCmp {a b : Expr} {op : CmpOp} {pos : Pos} {ma mb : ME} {rr : R2} {g : D → D → Sto → R} (ho : OpR X (compareOp op) rr) (hg : OpS X rr g) (ha : CE X a ma) (hb : CE X b mb) (h : nSet b = true := by rfl) : CE X (.Compare a [op] [b] pos) (mBin g ma mb) := cE_cmp ho hg ha hb (mark_no h)
theorem kCmpT {a b : Expr} {op : CmpOp} {pos : Pos} {ma mb : ME} {rr : R2} {g : D → D → Sto → R} (ho : OpR X (compareOp op) rr) (hg : OpS X rr g) (ha : CE X a ma) (hb : CE X b mb) (h : nSet b = true := by rfl) : CT X (.Compare a [op] [b] pos) (asB (mBin g ma mb)) := cT_cmp ho hg ha hb (mark_no h)
theorem kChain {a b c : Expr} {op op' : CmpOp} {ma mb mc : ME} {rr rr' : R2} {g h : D → D → Sto → R} {pos : Pos} (ho : OpR X (compareOp op) rr) (hg : OpS X rr g) (ho' : OpR X (compareOp op') rr') (hh : OpS X rr' h) (ha : CE X a ma) (hb : CE X b mb) (hc : CE X c mc)
    (hs : nSet c = true := by rfl) : CE X (.Compare a [op, op'] [b, c] pos) (mChain g h ma mb mc) := cE_chain ho hg ho' hh ha hb hc (mark_no hs)
theorem kChainT {a b c : Expr} {op op' : CmpOp} {ma mb mc : ME} {rr rr' : R2} {g h : D → D → Sto → R} {pos : Pos} (ho : OpR X (compareOp op) rr) (hg : OpS X rr g) (ho' : OpR X (compareOp op') rr') (hh : OpS X rr' h) (ha : CE X a ma) (hb : CE X b mb) (hc : CE X c mc)
    (hs : nSet c = true := by rfl) : CT X (.Compare a [op, op'] [b, c] pos) (asB (mChain g h ma mb mc)) := cT_chain ho hg ho' hh ha hb hc (mark_no hs)
theorem kExpr {e : Expr} {m : ME} {pos : Pos} (he : CE X e m) (h : nC e = true := by rfl) : CS X (.Expr e pos) (mDrop m) := cS_expr he (sw_no h)
theorem kSet (i : Nat) {x : Str} {e : Expr} {m : ME} {pos pos' : Pos} (hN : X.N.Nodup) (he : CE X e m) (hi : X.N[i]? = some x := by rfl) (hx : L2.Loc X.env.scope x := by first | exact Or.inl rfl | exact Or.inr rfl) (h : nC e = true := by rfl) (hf : X.fn x = true ∨ X.env.scope.names.lookup x = some .local := by first | exact .inl rfl | exact .inr rfl | assumption) :
    CS X (.Assign [.Name x pos'] e pos) (mAsg m (gN i)) := cS_set hN hi hx he (sw_no h) hf
/-- a tuple of targets, from a value that is no display -/
theorem kAsg {tg e : Expr} {m : ME} {g : MG} {L : List Nat} {pos : Pos} (he : CE X e m) (hg : CG X tg L g) (h : nC e = true := by rfl) (ht : nTup e = true := by rfl) (hS : nS tg = true := by rfl) : CS X (.Assign [tg] e pos) (mAsg m g) := cS_asg he hg (sws_no h) (swse_no ht) (asg_one hS)
/-- a target that is no tuple -/
theorem kAsgT {tg e : Expr} {m : ME} {g : MG} {L : List Nat} {pos : Pos} (he : CE X e m) (hg : CG X tg L g) (h : nC e = true := by rfl) (ht : nTup tg = true := by rfl) (hS : nS tg = true := by rfl) : CS X (.Assign [tg] e pos) (mAsg m g) := cS_asg he hg (sws_no h) (swst_no ht) (asg_one hS)
/-- a display over names that are cells -/
theorem kAsgC {tg e : Expr} {m : ME} {g : MG} {L : List Nat} {pos : Pos} (he : CE X e m) (hg : CG X tg L g) (hw : swappedStores [tg] e X.env = pure none) (h : nC e = true := by rfl) (hS : nS tg = true := by rfl) : CS X (.Assign [tg] e pos) (mAsg m g) := cS_asg he hg (sws_no h) hw (asg_one hS)
theorem kGc {e : Expr} {es : List Expr} {L M : List Nat} {a : MG} {b : List D → Env → Sto → Option (Env × Sto)} (ha : CG X e L a) (hb : CGs X es M b) (h : nS e = true := by rfl) : CGs X (e :: es) (L ++ M) (gsC a b) := cGs_cons ha hb (asg_cons h)
theorem kGt {es : List Expr} {k n : Nat} {L : List Nat} {pos : Pos} {b : List D → Env → Sto → Option (Env × Sto)} (hc : X.calm = true) (hb : CGs X es L b) (hn : es.length = n := by rfl) (h : nSs es = true := by rfl) : CG X (.Tuple es k pos) L (gT n b) := cG_tup hc hb (asg_len.trans hn) (asg_star h)
theorem kGs {o i : Expr} {mo mi : ME} {pos : Pos} (hu : X.A.units + 1 < cLine) (ho : CE X o mo) (hi : CE X i mi) (h : nSl i = true := by rfl) : CG X (.Subscript o i pos) [] (gSubM mo mi setSeq) := cG_sub (PSet.or set_list (set_dict hu)) setS_A ho hi (asg_sub h)
theorem kFor {tg iter : Expr} {body : List Stmt} {it : MI} {g : MG} {b : MS} {L : List Nat} {pos : Pos} (hp : PassesOwn (model X.prog X.w) X.A X.env X.xe) (hc : X.calm = true) (hi : CI X tg iter it) (hg : CG X tg L g) (hb : CSs X body b) (h : nSet iter = true := by rfl) : CS X (.For tg iter body [] pos) (mFor it g b) :=
  cS_for hp hc hi hg hb (fold_no h)
theorem kR1 {tg a : Expr} {m : MA} {p pos : Pos} (hm : X.mg "range" = none) (ha : CA X [a] m) (hg : Gl X "range" := by rfl) (h : nS a = true := by rfl) : CI X tg (.Call (.Name "range" p) [a] [] pos) (mR1 m) := cI_r1 hg hm ha (by rw [star_cons h]; simp only [starEach])
theorem kR2 {tg a b : Expr} {m : MA} {p pos : Pos} (hm : X.mg "range" = none) (ha : CA X [a, b] m) (hg : Gl X "range" := by rfl) (h : nSs [a, b] = true := by rfl) : CI X tg (.Call (.Name "range" p) [a, b] [] pos) (mR2 m) :=
  cI_r2 hg hm ha (by rw [star_cons (nSs_cons h).1, star_cons (nSs_cons (nSs_cons h).2).1]; simp only [starEach]) (by rw [star_cons (nSs_cons (nSs_cons h).2).1]; simp only [starEach])
theorem kEn {e : Expr} {m : MA} {elts : List Expr} {kk : Nat} {p pos tpos : Pos} (hm : X.mg "enumerate" = none) (ha : CA X [e] m) (hg : Gl X "enumerate" := by rfl) (h : nS e = true := by rfl) : CI X (.Tuple elts kk tpos) (.Call (.Name "enumerate" p) [e] [] pos) (mEn m) := cI_en hg hm ha (by rw [star_cons h]; simp only [starEach])
theorem kLc {elt tg iter : Expr} {ifs : List Expr} {scope : Scope} {own : List (Str × Nat)} {pos : Pos} {it : MI} {g : MG} {t : MT} {me : ME} {L : List Nat} (hc : X.calm = true) (hN : X.N.Nodup) (hi : CI X tg iter it) (ok : blkC X.N X.env.scope scope own = true)
    (hL : ∀ i ∈ L, i ∈ own.map (·.2)) (hg : ∀ s H C cl fp, CG (bX X scope s H C cl fp) tg L g) (ht : ∀ s H C cl fp, CTs (bX X scope s H C cl fp) ifs t) (he : ∀ s H C cl fp, PL.CE (bX X scope s H C cl fp) elt me)
    (h : nSet iter = true := by rfl) : PL.CE X (.ListComp elt [⟨tg, iter, ifs, 0⟩] scope pos) (mLc it g t me (own.map (·.2))) := cE_lc hc hN hi (blkOk_by ok) hL hg ht he (fold_no h)
theorem kSetLc {i : Nat} {y : Str} {py : Pos} {elt tg iter : Expr} {ifs : List Expr} {scope : Scope} {own : List (Str × Nat)} {pos spos : Pos} {it : MI} {g : MG} {t : MT} {me : ME} {L : List Nat} (hc : X.calm = true) (hN : X.N.Nodup) (hy : X.N[i]? = some y) (hyl : X.env.scope.names.lookup y = some .local)
    (hl : (py.line == pos.line) = true) (hown : (scope.names.any fun (n, k) => n == y && (k == .local || k == .cell)) = false) (hk : X.env.scope.kind = .function) (hi : CI X tg iter it) (ok : blkC X.N X.env.scope scope own = true)
    (hL : ∀ i ∈ L, i ∈ own.map (·.2)) (hg : ∀ s H C cl fp, CG (bX X scope s H C cl fp) tg L g) (ht : ∀ s H C cl fp, CTs (bX X scope s H C cl fp) ifs t) (he : ∀ s H C cl fp, PL.CE (bX X scope s H C cl fp) elt me)
    (h : nSet iter = true := by rfl) : CS X (.Assign [.Name y py] (.ListComp elt [⟨tg, iter, ifs, 0⟩] scope pos) spos) (mAsg (mLc it g t me (own.map (·.2))) (gN i)) :=
  cS_setLc hc hN hy hyl (sw_true hk hyl hl hown) hi (blkOk_by ok) hL hg ht he (fold_no h)
end
end PL
end

section
set_option Elab.async false
set_option linter.all false
set_option maxRecDepth 100000
/-! PL8: reversed slices, comprehensions of two fors, of dicts; dicts walked -/
namespace PL
open PySem PySem.Spec PyProof.Rows L2

section
variable {X : Cx}
def revOf : D → Sto → R
  | .ref n, S => (seqAt n S).bind fun xs => newL xs.reverse S
  | _, _ => none
def mRv (m : ME) : ME := fun env S => (m env S).bind fun p => revOf p.1 p.2
theorem cE_rev {e : Expr} {m : ME} {k : Nat} {p1 p2 p3 pos : Pos} (he : CE X e m) : CE X (.Subscript e (.Slice none none (some (.UnaryOp .USub (.Constant (.int 1) k p1) p2)) p3) pos) (mRv m) := by
  refine ⟨?_⟩
  intro env S d S' h r σ H Q A hq
  obtain ⟨⟨x, S1⟩, e1, h⟩ := Option.bind_eq_some_iff.mp h
  have h' : revOf x S1 = some (d, S') := h
  unfold revOf at h'
  split at h'
  · obtain ⟨xs, e2, h'⟩ := Option.bind_eq_some_iff.mp h'
    refine tm_of (pe_revL pe_tm) (he env S _ _ e1 r σ H _ A fun r1 H1 v s1 l1 q1 => ?_)
    cases q1 with
    | ref ea =>
      obtain ⟨vs, h1, l⟩ := seqAt_ok (X := X) s1 ea e2
      refine ⟨_, vs, rfl, h1, fun p np => ?_⟩
      obtain ⟨a1, a2, a3⟩ := newL_ok (X := X) s1 np l.reverse h'
      exact hq _ _ _ a1 (l1.trans a2) a3
  · cases h'

/-! ### two fors -/
def mLc2J (nx : Nxt) (g : MG) (t : MT) (e : ME) (vs1 : List Nat) (n : Nat) : Nat → Nat → Env → Sto → Option Sto
  | 0, _, _, _ => none
  | k + 1, i, env, S => (nx i S).bind fun o => match o with
    | none => some S
    | some d => (g d (wipeE env vs1) S).bind fun p => (t p.1 p.2).bind fun c => if c.1 = true then (e p.1 c.2).bind fun q => match q.2[n]? with
        | some (.lst acc) => if acc.length < sizeLine then mLc2J nx g t e vs1 n k (i + 1) env (q.2.set n (.lst (acc ++ [q.1]))) else none
        | _ => none
      else mLc2J nx g t e vs1 n k (i + 1) env c.2
def mLc2I (nx : Nxt) (g : MG) (t : MT) (it1 : MI) (g1 : MG) (t1 : MT) (e : ME) (vs1 : List Nat) (n : Nat) : Nat → Nat → Env → Sto → Option Sto
  | 0, _, _, _ => none
  | k + 1, i, env, S => (nx i S).bind fun o => match o with
    | none => some S
    | some d => (g d env S).bind fun p => (t p.1 p.2).bind fun c => if c.1 = true then (it1 p.1 c.2).bind fun w => (mLc2J w.1.2 g1 t1 e vs1 n w.1.1 0 p.1 w.2).bind fun S' => mLc2I nx g t it1 g1 t1 e vs1 n k (i + 1) env S'
      else mLc2I nx g t it1 g1 t1 e vs1 n k (i + 1) env c.2
def mLc2 (it : MI) (g : MG) (t : MT) (it1 : MI) (g1 : MG) (t1 : MT) (e : ME) (vs vs1 : List Nat) : ME := fun env S => (it env S).bind fun p => (mLc2I p.1.2 g t it1 g1 t1 e vs1 p.2.length p.1.1 0 (wipeE env vs) (p.2 ++ [.lst []])).bind fun S' => some (.ref p.2.length, S')
def bTI (X : Cx) (sc : Scope) (tg iter : Expr) : TI := fun σ H R => ∀ s H0 C cl fp, ∃ wi, PI (bX X sc s H0 C cl fp) tg iter wi ∧ wi σ H R
theorem cE_lc2 {elt tg iter tg1 iter1 : Expr} {ifs ifs1 : List Expr} {scope : Scope} {own : List (Str × Nat)} {vs1 : List Nat} {pos : Pos} {it it1 : MI} {g g1 : MG} {t t1 : MT} {me : ME} {L L1 : List Nat} (hc : X.calm = true) (hN : X.N.Nodup) (hi : CI X tg iter it) (ok : blkC X.N X.env.scope scope own = true)
    (hv : ∀ i ∈ vs1, i ∈ own.map (·.2)) (hL : ∀ i ∈ L, i ∈ own.map (·.2)) (hL1 : ∀ i ∈ L1, i ∈ vs1) (hg : ∀ s H C cl fp, CG (bX X scope s H C cl fp) tg L g) (ht : ∀ s H C cl fp, CTs (bX X scope s H C cl fp) ifs t)
    (hi1 : ∀ s H C cl fp, CI (bX X scope s H C cl fp) tg1 iter1 it1) (hg1 : ∀ s H C cl fp, CG (bX X scope s H C cl fp) tg1 L1 g1) (ht1 : ∀ s H C cl fp, CTs (bX X scope s H C cl fp) ifs1 t1) (he : ∀ s H C cl fp, CE (bX X scope s H C cl fp) elt me)
    (h0 : nSet iter = true := by rfl) (h1 : nSet iter1 = true := by rfl) : CE X (.ListComp elt [⟨tg, iter, ifs, 0⟩, ⟨tg1, iter1, ifs1, 0⟩] scope pos) (mLc2 it g t it1 g1 t1 me (own.map (·.2)) vs1) := by
  obtain ⟨wi, pw, hi⟩ := hi.run
  refine ⟨?_⟩
  intro env S d S' h r σ H Q A hq
  refine tm_of (pe_lc2 (own := own) (vs1 := vs1) (g := bTG X scope tg) (tt := bTT X scope ifs) (wi1 := bTI X scope tg1 iter1) (g1 := bTG X scope tg1) (tt1 := bTT X scope ifs1) (te := bTE X scope elt) hc hN pw (blkOk_by ok) hv
    (fun s H C cl fp => ⟨fun pins s' σ H v u Q I rv q => q _ _ _ _ _ pins s' u I rv⟩) (fun s H C cl fp => ⟨fun pins s' σ H Q I q => pts_tm.run pins s' σ H Q I (q _ _ _ _ _)⟩) (fun s2 H2 C cl fp => ⟨fun pins s' σ H R I q => let ⟨_, pw, z⟩ := q s2 H2 C cl fp; pw.run pins s' σ H R I z⟩)
    (fun s H C cl fp => ⟨fun pins s' σ H v u Q I rv q => q _ _ _ _ _ pins s' u I rv⟩) (fun s H C cl fp => ⟨fun pins s' σ H Q I q => pts_tm.run pins s' σ H Q I (q _ _ _ _ _)⟩) (fun s H C cl fp => ⟨fun pins s' σ H Q I q => q _ _ _ _ _ pins s' I⟩) (fold_no h0) (fun _ => fold_no h1)) ?_
  obtain ⟨⟨⟨k, nx⟩, S0⟩, e0, h⟩ := Option.bind_eq_some_iff.mp h
  obtain ⟨Sf, e1, h⟩ := Option.bind_eq_some_iff.mp h
  cases h
  refine hi env S k nx S0 e0 r σ H _ A fun r0 H0 J s0 l0 okJ p np => ?_
  obtain ⟨s1, l1, q1⟩ := newL_ok (X := X) (d := .ref S0.length) s0 np .nil rfl
  have pn : (r0 ++ [p])[S0.length]? = some p := new_at s0
  refine ⟨fun i m H1 => ∃ r1 S1, Sim X.K X.mg r1 S1 H1 ∧ Lat (r0 ++ [p]) (upd H0 p (.lst [])) r1 H1 ∧ mLc2I nx g t it1 g1 t1 me vs1 S0.length m i (wipeE env (own.map (·.2))) S1 = some S', ⟨k, r0 ++ [p], _, s1, .refl, e1⟩, ?_⟩
  rintro i m H1 ⟨r1, S1, s2, l2, z1⟩
  have l02 : Lat r0 H0 r1 H1 := l1.trans l2
  cases m with
  | zero => cases z1
  | succ m =>
    obtain ⟨o, e2, z1⟩ := Option.bind_eq_some_iff.mp z1
    cases o with
    | none =>
      cases z1
      exact .inl ⟨okJ.stop i _ r1 H1 s2 l02 e2, hq r1 H1 _ s2 (l0.trans l02) (.ref (l2.pre _ _ pn))⟩
    | some d1 =>
      refine .inr ⟨okJ.go i S1 r1 H1 d1 s2 l02 e2, fun H' => ∃ m', m' < m + 1 ∧ ∃ r1 S1, Sim X.K X.mg r1 S1 H' ∧ Lat (r0 ++ [p]) (upd H0 p (.lst [])) r1 H' ∧ mLc2I nx g t it1 g1 t1 me vs1 S0.length m' (i + 1) (wipeE env (own.map (·.2))) S1 = some S', fun H' z => z, fun x H' y => ?_⟩
      obtain ⟨s3, l3, q3⟩ := okJ.yld i S1 r1 H1 d1 x H' s2 l02 e2 y
      obtain ⟨⟨env4, S4⟩, e4, z1⟩ := Option.bind_eq_some_iff.mp z1
      obtain ⟨⟨c, S5⟩, e5, z1⟩ := Option.bind_eq_some_iff.mp z1
      have A3 : At X r1 (wipeE env (own.map (·.2))) S1 (wipe σ (own.map (·.2))) H' := ⟨s3, (A.env.lat ((l0.trans l02).trans l3)).wipe _⟩
      intro bs bH bC bcl bfp
      refine (hg bs bH bC bcl bfp).run d1 _ S1 env4 S4 e4 r1 _ H' x _ ⟨A3.sim, A3.env⟩ q3 fun r4 σ4 H4 A4 l4 w4 => ⟨?_, ?_⟩
      · rw [w4 _ hL, wipe_wipe]
      · intro bs bH bC bcl bfp
        refine (ht bs bH bC bcl bfp).run env4 S4 c S5 e5 r4 σ4 H4 _ ⟨A4.sim, A4.env⟩ fun r5 H5 s5 l5 => ?_
        have l25 := ((l2.trans l3).trans l4).trans l5
        cases c with
        | false => exact iteF ⟨m, Nat.lt_succ_self m, r5, S5, s5, l25, z1⟩
        | true =>
          refine iteT ?_
          obtain ⟨⟨⟨k1, nx1⟩, S6⟩, e6, z1⟩ := Option.bind_eq_some_iff.mp z1
          obtain ⟨S7, e7, z1⟩ := Option.bind_eq_some_iff.mp z1
          intro bs bH bC bcl bfp
          obtain ⟨wi1, pw1, hi1'⟩ := (hi1 bs bH bC bcl bfp).run
          refine ⟨wi1, pw1, hi1' env4 S5 k1 nx1 S6 e6 r5 σ4 H5 _ ⟨s5, A4.env.lat l5⟩ fun r6 H6 J1 s6 l6 ok1 => ?_⟩
          have l26 := l25.trans l6
          refine ⟨fun j k H' => ∃ r7 S8, Sim X.K X.mg r7 S8 H' ∧ Lat r6 H6 r7 H' ∧ mLc2J nx1 g1 t1 me vs1 S0.length k j env4 S8 = some S7, ⟨k1, r6, S6, s6, .refl, e7⟩, ?_⟩
          rintro j k2 H7 ⟨r7, S8, s7, l7, z2⟩
          cases k2 with
          | zero => cases z2
          | succ k2 =>
            obtain ⟨o2, e8, z2⟩ := Option.bind_eq_some_iff.mp z2
            cases o2 with
            | none =>
              cases z2
              exact .inl ⟨ok1.stop j _ r7 H7 s7 l7 e8, m, Nat.lt_succ_self m, r7, _, s7, l26.trans l7, z1⟩
            | some d9 =>
              refine .inr ⟨ok1.go j S8 r7 H7 d9 s7 l7 e8, fun H' => ∃ k', k' < k2 + 1 ∧ ∃ r7 S8, Sim X.K X.mg r7 S8 H' ∧ Lat r6 H6 r7 H' ∧ mLc2J nx1 g1 t1 me vs1 S0.length k' (j + 1) env4 S8 = some S7, fun H' z => z, fun x2 H8 y2 => ?_⟩
              obtain ⟨s8, l8, q8⟩ := ok1.yld j S8 r7 H7 d9 x2 H8 s7 l7 e8 y2
              obtain ⟨⟨env9, S9⟩, e9, z2⟩ := Option.bind_eq_some_iff.mp z2
              obtain ⟨⟨c2, S10⟩, e10, z2⟩ := Option.bind_eq_some_iff.mp z2
              intro bs bH bC bcl bfp
              have E4 := (A4.env.lat (((l5.trans l6).trans l7).trans l8)).wipe vs1
              refine (hg1 bs bH bC bcl bfp).run d9 (wipeE env4 vs1) S8 env9 S9 e9 r7 (wipe σ4 vs1) H8 x2 _ ⟨s8, E4⟩ q8 fun r9 σ9 H9 A9 l9 w9 => ⟨?_, ?_⟩
              · rw [w9 _ hL1, wipe_wipe]
              · intro bs bH bC bcl bfp
                refine (ht1 bs bH bC bcl bfp).run env9 S9 c2 S10 e10 r9 σ9 H9 _ ⟨A9.sim, A9.env⟩ fun r10 H10 s10 l10 => ?_
                have l610 := ((l7.trans l8).trans l9).trans l10
                cases c2 with
                | false => exact iteF ⟨k2, Nat.lt_succ_self k2, r10, S10, s10, l610, z2⟩
                | true =>
                  refine iteT ?_
                  obtain ⟨⟨d11, S11⟩, e11, z2⟩ := Option.bind_eq_some_iff.mp z2
                  intro bs bH bC bcl bfp
                  refine (he bs bH bC bcl bfp).run env9 S10 d11 S11 e11 r10 σ9 H10 _ ⟨s10, A9.env.lat l10⟩ fun r11 H11 v s11 l11 q11 => ?_
                  split at z2
                  · rename_i acc ea
                    have hp : r11[S0.length]? = some p := l11.pre _ _ (l610.pre _ _ (l26.pre _ _ pn))
                    obtain ⟨ws, e12, q12⟩ := s11.ob _ _ p ea hp
                    split at z2
                    · rename_i hz
                      have qn : RepL X.K X.mg r11 H11 (acc ++ [d11]) (ws ++ [v]) := q12.append (.cons q11 .nil)
                      have L12 : Lat r11 H11 r11 (upd H11 p (.lst (ws ++ [v]))) := lat_upd e12 trivial
                      obtain ⟨s13, l13⟩ := s11.put (o' := .lst (acc ++ [d11])) (v := .lst (ws ++ [v])) ea hp rfl rfl ⟨_, upd_same, qn.lat L12⟩
                      exact ⟨ws, e12, by rw [← q12.length]; exact hz, k2, Nat.lt_succ_self k2, r11, _, s13, (l610.trans l11).trans l13, z2⟩
                    · cases z2
                  · cases z2
/-! ### {k: v for ..} -/
def mDcL (nx : Nxt) (g : MG) (t : MT) (e f : ME) (n : Nat) : Nat → Nat → Env → Sto → Option Sto
  | 0, _, _, _ => none
  | k + 1, i, env, S => (nx i S).bind fun o => match o with
    | none => some S
    | some d => (g d env S).bind fun p => (t p.1 p.2).bind fun c => if c.1 = true then (e p.1 c.2).bind fun q => (f p.1 q.2).bind fun u => match u.2[n]? with
        | some (.dK kvs) => (keyD q.1).bind fun key => if kvs.length < sizeLine then mDcL nx g t e f n k (i + 1) env (u.2.set n (.dK (putD kvs key u.1))) else none
        | _ => none
      else mDcL nx g t e f n k (i + 1) env c.2
def mDc (it : MI) (g : MG) (t : MT) (e f : ME) (vs : List Nat) : ME := fun env S => (it env S).bind fun p => (mDcL p.1.2 g t e f p.2.length p.1.1 0 (wipeE env vs) (p.2 ++ [.dK []])).bind fun S' => some (.ref p.2.length, S')
theorem cE_dc {kx vx tg iter : Expr} {ifs : List Expr} {scope : Scope} {own : List (Str × Nat)} {pos : Pos} {it : MI} {g : MG} {t : MT} {mk mv : ME} {L : List Nat} (hc : X.calm = true) (hN : X.N.Nodup) (hi : CI X tg iter it) (ok : blkC X.N X.env.scope scope own = true)
    (hL : ∀ i ∈ L, i ∈ own.map (·.2)) (hg : ∀ s H C cl fp, CG (bX X scope s H C cl fp) tg L g) (ht : ∀ s H C cl fp, CTs (bX X scope s H C cl fp) ifs t) (hk : ∀ s H C cl fp, CE (bX X scope s H C cl fp) kx mk) (hv : ∀ s H C cl fp, CE (bX X scope s H C cl fp) vx mv)
    (h0 : nSet iter = true := by rfl) : CE X (.DictComp kx vx [⟨tg, iter, ifs, 0⟩] scope pos) (mDc it g t mk mv (own.map (·.2))) := by
  obtain ⟨wi, pw, hi⟩ := hi.run
  refine ⟨?_⟩
  intro env S d S' h r σ H Q A hq
  refine tm_of (pe_dc (own := own) (g := bTG X scope tg) (tt := bTT X scope ifs) (tk := bTE X scope kx) (tv := bTE X scope vx) hc hN pw (blkOk_by ok)
    (fun s H C cl fp => ⟨fun pins s' σ H v u Q I rv q => q _ _ _ _ _ pins s' u I rv⟩) (fun s H C cl fp => ⟨fun pins s' σ H Q I q => pts_tm.run pins s' σ H Q I (q _ _ _ _ _)⟩) (fun s H C cl fp => ⟨fun pins s' σ H Q I q => q _ _ _ _ _ pins s' I⟩) (fun s H C cl fp => ⟨fun pins s' σ H Q I q => q _ _ _ _ _ pins s' I⟩) (fold_no h0)) ?_
  obtain ⟨⟨⟨k, nx⟩, S0⟩, e0, h⟩ := Option.bind_eq_some_iff.mp h
  obtain ⟨Sf, e1, h⟩ := Option.bind_eq_some_iff.mp h
  cases h
  refine hi env S k nx S0 e0 r σ H _ A fun r0 H0 J s0 l0 okJ p np => ?_
  have s1 : Sim X.K X.mg (r0 ++ [p]) (S0 ++ [.dK []]) (upd H0 p (.dK [])) := s0.new np ⟨[], upd_same, .nil⟩
  have l1 : Lat r0 H0 (r0 ++ [p]) (upd H0 p (.dK [])) := lat_new np
  have pn : (r0 ++ [p])[S0.length]? = some p := new_at s0
  refine ⟨fun i m H1 => ∃ r1 S1, Sim X.K X.mg r1 S1 H1 ∧ Lat (r0 ++ [p]) (upd H0 p (.dK [])) r1 H1 ∧ mDcL nx g t mk mv S0.length m i (wipeE env (own.map (·.2))) S1 = some S', ⟨k, r0 ++ [p], _, s1, .refl, e1⟩, ?_⟩
  rintro i m H1 ⟨r1, S1, s2, l2, z1⟩
  have l02 : Lat r0 H0 r1 H1 := l1.trans l2
  cases m with
  | zero => cases z1
  | succ m =>
    obtain ⟨o, e2, z1⟩ := Option.bind_eq_some_iff.mp z1
    cases o with
    | none =>
      cases z1
      exact .inl ⟨okJ.stop i _ r1 H1 s2 l02 e2, hq r1 H1 _ s2 (l0.trans l02) (.ref (l2.pre _ _ pn))⟩
    | some d1 =>
      refine .inr ⟨okJ.go i S1 r1 H1 d1 s2 l02 e2, fun H' => ∃ m', m' < m + 1 ∧ ∃ r1 S1, Sim X.K X.mg r1 S1 H' ∧ Lat (r0 ++ [p]) (upd H0 p (.dK [])) r1 H' ∧ mDcL nx g t mk mv S0.length m' (i + 1) (wipeE env (own.map (·.2))) S1 = some S', fun H' z => z, fun x H' y => ?_⟩
      obtain ⟨s3, l3, q3⟩ := okJ.yld i S1 r1 H1 d1 x H' s2 l02 e2 y
      obtain ⟨⟨env4, S4⟩, e4, z1⟩ := Option.bind_eq_some_iff.mp z1
      obtain ⟨⟨c, S5⟩, e5, z1⟩ := Option.bind_eq_some_iff.mp z1
      have A3 : At X r1 (wipeE env (own.map (·.2))) S1 (wipe σ (own.map (·.2))) H' := ⟨s3, (A.env.lat ((l0.trans l02).trans l3)).wipe _⟩
      intro bs bH bC bcl bfp
      refine (hg bs bH bC bcl bfp).run d1 _ S1 env4 S4 e4 r1 _ H' x _ ⟨A3.sim, A3.env⟩ q3 fun r4 σ4 H4 A4 l4 w4 => ⟨?_, ?_⟩
      · rw [w4 _ hL, wipe_wipe]
      · intro bs bH bC bcl bfp
        refine (ht bs bH bC bcl bfp).run env4 S4 c S5 e5 r4 σ4 H4 _ ⟨A4.sim, A4.env⟩ fun r5 H5 s5 l5 => ?_
        have l25 := ((l2.trans l3).trans l4).trans l5
        cases c with
        | false => exact iteF ⟨m, Nat.lt_succ_self m, r5, S5, s5, l25, z1⟩
        | true =>
          refine iteT ?_
          obtain ⟨⟨d6, S6⟩, e6, z1⟩ := Option.bind_eq_some_iff.mp z1
          obtain ⟨⟨d7, S7⟩, e7, z1⟩ := Option.bind_eq_some_iff.mp z1
          intro bs bH bC bcl bfp
          refine (hk bs bH bC bcl bfp).run env4 S5 d6 S6 e6 r5 σ4 H5 _ ⟨s5, A4.env.lat l5⟩ fun r6 H6 v6 s6 l6 q6 => ?_
          intro bs bH bC bcl bfp
          refine (hv bs bH bC bcl bfp).run env4 S6 d7 S7 e7 r6 σ4 H6 _ ⟨s6, (A4.env.lat l5).lat l6⟩ fun r7 H7 v7 s7 l7 q7 => ?_
          have l27 := (l25.trans l6).trans l7
          split at z1
          · rename_i kvs ea
            obtain ⟨key, e8, z1⟩ := Option.bind_eq_some_iff.mp z1
            have hp7 : r7[S0.length]? = some p := l27.pre _ _ pn
            obtain ⟨ws, e9, q9⟩ := s7.ob _ _ p ea hp7
            split at z1
            · rename_i hz
              obtain ⟨s10, l10⟩ := dkput (X := X) (k := key) s7 ea hp7 e9 q9 q7
              exact ⟨ws, key, keyD_ok q6 e8, e9, by rw [← Paired.len q9]; exact hz, m, Nat.lt_succ_self m, r7, _, s10, l27.trans l10, z1⟩
            · cases z1
          · cases z1
end
end PL
end

section
set_option Elab.async false
set_option linter.all false
set_option maxRecDepth 100000
/-! PL9: sorted lists of data of one kind, isinstance, all, items and values of dicts, pairs side by side -/
namespace PL
open PySem PySem.Spec PyProof.Rows L2

section
variable {X : Cx}
/-- what is sorted: an item, what it is, what it reads as -/
abbrev Tri := D × V × PyData
def leT : Tri → Tri → Bool := PySem.W.dataLe false fun t => t.2.2
def leD : D × PyData → D × PyData → Bool := PySem.W.dataLe false fun t => t.2
def rSortD (K : PySem.W.Frag) : List V → Hp → VK → Prop := fun vs H Q => ∃ a, ∃ ts : List Tri, vs = [.ref a] ∧ SqL K H a (ts.map fun t => t.2.1) ∧
  (∀ t ∈ ts, Dp K H t.2.1 t.2.2) ∧ PySem.W.AllAlike (ts.map fun t => t.2.2) ∧ PySem.W.Sortable (ts.map fun t => t.2.2) ∧ ts.length ≤ sizeLine ∧ (∀ t ∈ ts, t.2.2.depth ≤ 60) ∧
  ∀ p, H p = none → Q (.ref p) (upd H p (.lst ((ts.mergeSort leT).map fun t => t.2.1)))
theorem eachR {ts : List Tri} : ∀ {us : List Value}, Vals (ts.map fun t => t.2.1) us → PySem.W.EachIs (fun v (t : Tri) => RelV t.2.1 v) us ts := by
  induction ts with
  | nil => intro us h; cases h; exact .nil
  | cons t ts ih => intro us h; cases h with | cons h1 h2 => exact .cons h1 (ih h2)
theorem eachV {ts : List Tri} : ∀ {us : List Value}, PySem.W.EachIs (fun v (t : Tri) => RelV t.2.1 v) us ts → Vals (ts.map fun t => t.2.1) us := by
  induction ts with
  | nil => intro us h; cases h; exact .nil
  | cons t ts ih => intro us h; cases h with | cons h1 h2 => exact .cons h1 (ih h2)
theorem eachReads {pins : List (Addr × Obj)} {σ : L2.St} {H : Hp} {s : Shared} (I : L2.Inv X pins σ H s) {ts : List Tri} : ∀ {us : List Value}, Vals (ts.map fun t => t.2.1) us → (∀ t ∈ ts, Dp X.K H t.2.1 t.2.2) → PySem.W.EachIs (fun v (t : Tri) => ∃ as, Reads s.heap v t.2.2 as) us ts := by
  induction ts with
  | nil => intro us h _; cases h; exact .nil
  | cons t ts ih => intro us h hd; cases h with
    | cons h1 h2 => exact .cons (Dp.reads I _ _ _ (hd t (by simp)) h1) (ih h2 fun t' ht => hd t' (by simp [ht]))
theorem callR_sorted (hu : X.A.units + 64 < cLine) : CallR X (.builtin "sorted") (rSortD X.K) := by
  intro pins s σ H vs us Q I rv h
  obtain ⟨a, ts, rfl, hs, hd, al, so, hl, dp, q⟩ := h
  cases rv with
  | cons r1 r2 =>
    cases r2
    cases r1
    obtain ⟨its, hv, pl, ll⟩ := I.list hs
    obtain ⟨m, F⟩ := I.fr
    refine PySem.W.sorted_data (bs := ts) (enc := fun t => t.2.2) (R := fun v t => RelV t.2.1 v) (PlainL.isList pl) (eachR hv) (eachReads I hv hd) al so hl (fun b hb => by have := dp b hb; omega) ?_
    intro out lo ei
    have kp : ∀ (b : Addr) (o : Obj), s.heap.get? b = some o → (sortedAll s.heap its out.toArray).get? b = some o := fun x x_1 => sortedAll_old
    obtain ⟨c, hc⟩ := sortedAll_at s.heap its out.toArray
    have lp : (ts.mergeSort leT).length = ts.length := List.length_mergeSort _
    refine ⟨.ref (s.heap.objs.size + 1), _, ?_, rfl, q _ (I.hok.fresh (Nat.le_succ _))⟩
    refine I.laid kp (Nat.le_succ _) ?_
    exact ⟨by simpa [lp] using hl, out, c, eachV ei, hc⟩

def alikeB (ps : List PyData) : Bool := ps.all fun a => ps.all fun b => PySem.W.alike a b
def isTupB : PyData → Bool
  | .tuple (_ :: _) => true
  | _ => false
def isFlatB : PyData → Bool
  | .tuple _ => false
  | .none => false
  | _ => true
def sortB (ps : List PyData) : Bool := alikeB ps && (ps.all isTupB || ps.all isFlatB) && decide (ps.length ≤ sizeLine) && ps.all fun p => decide (p.depth ≤ 60)
def sortedD (xs : List D) (ps : List PyData) : List D := ((xs.zip ps).mergeSort leD).map (·.1)
def sortOf (xs : List D) (S : Sto) : R := (pyDs xs).bind fun ps => if sortB ps = true then newL (sortedD xs ps) S else none
def gSorted : List D → Sto → R
  | [.ref n], S => (seqAt n S).bind fun xs => sortOf xs S
  | _, _ => none
theorem sortB_ok {ps : List PyData} (h : sortB ps = true) : PySem.W.AllAlike ps ∧ PySem.W.Sortable ps ∧ ps.length ≤ sizeLine ∧ ∀ p ∈ ps, p.depth ≤ 60 := by
  unfold sortB alikeB at h
  simp only [Bool.and_eq_true, Bool.or_eq_true, List.all_eq_true, decide_eq_true_eq] at h
  obtain ⟨⟨⟨h1, h2⟩, h3⟩, h4⟩ := h
  refine ⟨fun d hd d' hd' => h1 d hd d' hd', ?_, h3, h4⟩
  rcases h2 with h2 | h2
  · refine .inl fun d hd => ?_
    have := h2 d hd
    unfold isTupB at this
    split at this
    · exact ⟨_, _, rfl⟩
    · cases this
  · refine .inr fun d hd => ?_
    have := h2 d hd
    unfold isFlatB at this
    split at this
    · cases this
    · cases this
    · rename_i n1 n2
      exact ⟨fun e => n2 e, fun xs e => n1 xs e⟩
def tri : List D → List V → List PyData → List Tri
  | d :: ds, v :: vs, p :: ps => (d, v, p) :: tri ds vs ps
  | _, _, _ => []
theorem tri_ok {K : PySem.W.Frag} {mg : Str → Option Value} {r : List Addr} {H : Hp} : ∀ {ds : List D} {vs : List V} {ps : List PyData}, RepL K mg r H ds vs → pyDs ds = some ps →
    (tri ds vs ps).map (fun t => t.2.1) = vs ∧ (tri ds vs ps).map (fun t => t.2.2) = ps ∧ (tri ds vs ps).map (fun t => (t.1, t.2.2)) = ds.zip ps ∧ ∀ t ∈ tri ds vs ps, RepV K mg r H t.1 t.2.1 ∧ Dp K H t.2.1 t.2.2
  | [], _, _, q, h => by cases q; simp [pyDs] at h; subst h; simp [tri]
  | d :: ds, _, _, q, h => by
    cases q with
    | cons q1 q2 =>
      simp only [pyDs] at h
      obtain ⟨a, e1, h⟩ := Option.bind_eq_some_iff.mp h
      obtain ⟨as, e2, e3⟩ := Option.map_eq_some_iff.mp h
      subst e3
      obtain ⟨a1, a2, a3, a4⟩ := tri_ok q2 e2
      refine ⟨by simp [tri, a1], by simp [tri, a2], by simp [tri, a3], ?_⟩
      intro t ht
      simp only [tri, List.mem_cons] at ht
      rcases ht with rfl | ht
      · exact ⟨q1, pyD_ok q1 e1⟩
      · exact a4 t ht
theorem repL_of {K : PySem.W.Frag} {mg : Str → Option Value} {r : List Addr} {H : Hp} : ∀ {ts : List Tri}, (∀ t ∈ ts, RepV K mg r H t.1 t.2.1) → RepL K mg r H (ts.map fun t => t.1) (ts.map fun t => t.2.1)
  | [], _ => .nil
  | t :: ts, h => .cons (h t (by simp)) (repL_of fun t' ht => h t' (by simp [ht]))
/-- a list that is sorted: what the rule asks, and the new list -/
theorem sort_ok {r : List Addr} {S S' : Sto} {H : Hp} {xs : List D} {d : D} {vs : List V} {Q : VK} (s : Sim X.K X.mg r S H) (l : RepL X.K X.mg r H xs vs) (e : sortOf xs S = some (d, S')) (hq : ∀ r' H' v, Sim X.K X.mg r' S' H' → Lat r H r' H' → RepV X.K X.mg r' H' d v → Q v H') :
    ∃ ts : List Tri, vs = ts.map (fun t => t.2.1) ∧ (∀ t ∈ ts, Dp X.K H t.2.1 t.2.2) ∧ PySem.W.AllAlike (ts.map fun t => t.2.2) ∧ PySem.W.Sortable (ts.map fun t => t.2.2) ∧ ts.length ≤ sizeLine ∧ (∀ t ∈ ts, t.2.2.depth ≤ 60) ∧
      ∀ p, H p = none → Q (.ref p) (upd H p (.lst ((ts.mergeSort leT).map fun t => t.2.1))) := by
  unfold sortOf at e
  obtain ⟨ps, e1, e⟩ := Option.bind_eq_some_iff.mp e
  split at e
  case isFalse => cases e
  rename_i ok
  obtain ⟨k1, k2, k3, k4⟩ := sortB_ok ok
  obtain ⟨t1, t2, t3, t4⟩ := tri_ok l e1
  refine ⟨tri xs vs ps, t1.symm, fun t ht => (t4 t ht).2, by rw [t2]; exact k1, by rw [t2]; exact k2, by rw [← List.length_map (f := fun t : Tri => t.2.2), t2]; exact k3, fun t ht => k4 _ (by rw [← t2]; exact List.mem_map_of_mem ht), fun p np => ?_⟩
  have hm : sortedD xs ps = ((tri xs vs ps).mergeSort leT).map fun t => t.1 := by
    unfold sortedD
    rw [← t3, ← List.map_mergeSort (r := leT) (f := fun t : Tri => (t.1, t.2.2)) (fun a _ b _ => rfl), List.map_map]
    rfl
  have hr : RepL X.K X.mg r H (sortedD xs ps) (((tri xs vs ps).mergeSort leT).map fun t => t.2.1) := by
    rw [hm]
    exact repL_of fun t ht => (t4 t ((List.mergeSort_perm _ _).mem_iff.mp ht)).1
  obtain ⟨a1, a2, a3⟩ := newL_ok (X := X) s np hr e
  exact hq _ _ _ a1 a2 a3
theorem callS_sorted : CallS X (rSortD X.K) gSorted := by
  intro xs S d S' e r H vs Q s q hq
  unfold gSorted at e
  split at e
  case h_2 => cases e
  obtain ⟨ys, e1, e⟩ := Option.bind_eq_some_iff.mp e
  match vs, q with
  | [v], .cons z .nil =>
    cases z with
    | ref hz =>
      obtain ⟨ws, hs, l⟩ := seqAt_ok (X := X) s hz e1
      obtain ⟨ts, g1, g2⟩ := sort_ok (X := X) (Q := Q) s l e hq
      exact ⟨_, ts, rfl, by rw [← g1]; exact hs, g2⟩

/-! ### all, isinstance -/
def blsOf : List D → Option (List Bool)
  | [] => some []
  | .bl b :: ds => (blsOf ds).map (b :: ·)
  | _ => none
theorem blsOf_ok {K : PySem.W.Frag} {mg : Str → Option Value} {r : List Addr} {H : Hp} : ∀ {ds : List D} {vs : List V} {bs : List Bool}, RepL K mg r H ds vs → blsOf ds = some bs → vs = bs.map V.bl
  | [], _, _, q, h => by cases q; cases h; rfl
  | d :: ds, _, _, q, h => by
    cases q with
    | cons q1 q2 =>
      cases d with
      | bl b =>
        obtain ⟨a, e1, e2⟩ := Option.map_eq_some_iff.mp (show (blsOf ds).map (b :: ·) = _ from h)
        subst e2
        cases q1
        rw [blsOf_ok q2 e1]; rfl
      | _ => cases h
def gAll : List D → Sto → R
  | [.ref n], S => (seqAt n S).bind fun xs => (blsOf xs).bind fun bs => some (.bl (bs.all id), S)
  | _, _ => none
theorem callS_all : CallS X (rAll X.K) gAll := by
  intro xs S d S' e r H vs Q s q hq
  unfold gAll at e
  split at e
  case h_2 => cases e
  obtain ⟨ys, e1, e⟩ := Option.bind_eq_some_iff.mp e
  obtain ⟨bs, e2, e⟩ := Option.bind_eq_some_iff.mp e
  cases e
  match vs, q with
  | [v], .cons z .nil =>
    cases z with
    | ref hz =>
      obtain ⟨ws, hs, l⟩ := seqAt_ok (X := X) s hz e1
      have := blsOf_ok l e2
      subst this
      exact ⟨_, bs, rfl, hs, hq r H _ s .refl (.bl _)⟩
def tyD (S : Sto) : D → Option String
  | .non => some "NoneType"
  | .bl _ => some "bool"
  | .int _ => some "int"
  | .str _ => some "str"
  | .tup _ => some "tuple"
  | .ktup _ => some "tuple"
  | .ref n => match S[n]? with
    | some (.lst _) => some "list"
    | some (.cst _) => some "list"
    | some (.dK _) => some "dict"
    | some (.dT _) => some "dict"
    | _ => none
  | _ => none
theorem tyD_ok {r : List Addr} {S : Sto} {H : Hp} {d : D} {v : V} {t : String} (s : Sim X.K X.mg r S H) (q : RepV X.K X.mg r H d v) (h : tyD S d = some t) : TyX X.K H v (.type t) := by
  cases q with
  | non => cases h; exact .base .non
  | bl b => cases h; exact .base (.bl b)
  | int b => cases h; exact .base (.int b)
  | str b => cases h; exact .base (.str b)
  | ty b => cases h
  | fn b => cases h
  | tup a b => cases h; exact .base (.tup a)
  | ktup a b =>
    cases h
    obtain ⟨o, its, n, a1, a2, _⟩ := a
    exact .kTuple a1 a2
  | ref ea =>
    simp only [tyD] at h
    split at h
    · rename_i ys e
      cases h
      obtain ⟨vs, e1, q⟩ := s.ob _ _ _ e ea
      exact .base (.lst e1)
    · rename_i ys e
      cases h
      obtain ⟨vs, e1, q⟩ := s.ob _ _ _ e ea
      rcases e1 with ⟨o, e1⟩ | ⟨o, its, n, a1, a2, _⟩
      · exact .base (.frz e1)
      · exact .kList a1 a2
    · rename_i ys e
      cases h
      obtain ⟨vs, e1, q⟩ := s.ob _ _ _ e ea
      exact .base (.dK e1)
    · rename_i ys e
      cases h
      obtain ⟨vs, e1, q⟩ := s.ob _ _ _ e ea
      exact .base (.dT e1)
    · cases h
def gIsi : List D → Sto → R
  | [d, .ty u], S => (tyD S d).bind fun t => (kitB t u).bind fun b => some (.bl b, S)
  | _, _ => none
theorem callS_isi : CallS X (rIsi X.K) gIsi := by
  intro xs S d S' e r H vs Q s q hq
  unfold gIsi at e
  split at e
  case h_2 => cases e
  obtain ⟨t, e1, e⟩ := Option.bind_eq_some_iff.mp e
  obtain ⟨b, e2, e⟩ := Option.bind_eq_some_iff.mp e
  cases e
  match vs, q with
  | [v, w], .cons z (.cons z2 .nil) =>
    cases z2
    exact ⟨_, _, _, _, b, rfl, .ty _, tyD_ok s z e1, kit_ty e2, hq r H _ s .refl (.bl _)⟩

/-! ### two lists, two tuples side by side -/
def nxZ (n m : Nat) : Nxt := fun i S => (seqAt n S).bind fun xs => (seqAt m S).bind fun ys => some ((xs[i]?).bind fun x => (ys[i]?).map fun y => .tup [x, y])
def nxZT (xs ys : List D) : Nxt := fun i _ => some ((xs[i]?).bind fun x => (ys[i]?).map fun y => .tup [x, y])
theorem zipNone {α β γ : Type} {xs : List α} {ys : List β} {f : α → β → γ} {i : Nat} (h : ((xs[i]?).bind fun x => (ys[i]?).map fun y => f x y) = none) : xs.length ≤ i ∨ ys.length ≤ i := by
  by_cases hx : xs.length ≤ i
  · exact .inl hx
  · have hx' : i < xs.length := by omega
    rw [List.getElem?_eq_getElem hx'] at h
    exact .inr (List.getElem?_eq_none_iff.mp (Option.map_eq_none_iff.mp h))
theorem itZ {r0 : List Addr} {H0 : Hp} {n m : Nat} {a b : Addr} (ea : r0[n]? = some a) (eb : r0[m]? = some b) : ItOk X (Itz X.K a b) r0 H0 (nxZ n m) where
  stop i S r H s l e := by
    obtain ⟨xs, e1, e⟩ := Option.bind_eq_some_iff.mp e
    obtain ⟨ys, e2, e⟩ := Option.bind_eq_some_iff.mp e
    obtain ⟨vs, h1, q⟩ := seqAt_ok (X := X) s (l.pre _ _ ea) e1
    obtain ⟨ws, h2, q2⟩ := seqAt_ok (X := X) s (l.pre _ _ eb) e2
    exact ⟨vs, ws, h1, h2, by rw [← q.length, ← q2.length]; exact zipNone (Option.some.inj e)⟩
  go i S r H d s l e := by
    obtain ⟨xs, e1, e⟩ := Option.bind_eq_some_iff.mp e
    obtain ⟨ys, e2, e⟩ := Option.bind_eq_some_iff.mp e
    obtain ⟨x, g1, e⟩ := Option.bind_eq_some_iff.mp (Option.some.inj e)
    obtain ⟨y, g2, e⟩ := Option.map_eq_some_iff.mp e
    obtain ⟨vs, h1, q⟩ := seqAt_ok (X := X) s (l.pre _ _ ea) e1
    obtain ⟨ws, h2, q2⟩ := seqAt_ok (X := X) s (l.pre _ _ eb) e2
    obtain ⟨v, k1, _⟩ := q.get g1
    obtain ⟨w, k2, _⟩ := q2.get g2
    exact ⟨vs, ws, v, w, h1, h2, k1, k2⟩
  yld i S r H d x H' s l e y := by
    obtain ⟨xs, e1, e⟩ := Option.bind_eq_some_iff.mp e
    obtain ⟨ys, e2, e⟩ := Option.bind_eq_some_iff.mp e
    obtain ⟨x1, g1, e⟩ := Option.bind_eq_some_iff.mp (Option.some.inj e)
    obtain ⟨y1, g2, e⟩ := Option.map_eq_some_iff.mp e
    obtain ⟨vs, h1, q⟩ := seqAt_ok (X := X) s (l.pre _ _ ea) e1
    obtain ⟨ws, h2, q2⟩ := seqAt_ok (X := X) s (l.pre _ _ eb) e2
    obtain ⟨v, k1, k3⟩ := q.get g1
    obtain ⟨w, k2, k4⟩ := q2.get g2
    obtain ⟨T, z1, z2, rfl, nT, rfl, hx, hy⟩ := y
    have f1 := hx vs h1
    have f2 := hy ws h2
    rw [k1] at f1; rw [k2] at f2
    cases f1; cases f2
    subst e
    exact tup2 s nT k3 k4
theorem itZT {r0 : List Addr} {H0 : Hp} {a b : Addr} {xs ys : List D} {vs ws : List V} (ha : TupAt H0 a vs) (hb : TupAt H0 b ws) (qa : RepL X.K X.mg r0 H0 xs vs) (qb : RepL X.K X.mg r0 H0 ys ws) : ItOk X (RZ.ItzT X.K a b) r0 H0 (nxZT xs ys) where
  stop i S r H s l e := ⟨vs, ws, (ha.lat l).sq, (hb.lat l).sq, by rw [← qa.length, ← qb.length]; exact zipNone (Option.some.inj e)⟩
  go i S r H d s l e := by
    obtain ⟨x, g1, e⟩ := Option.bind_eq_some_iff.mp (Option.some.inj e)
    obtain ⟨y, g2, e⟩ := Option.map_eq_some_iff.mp e
    obtain ⟨v, k1, _⟩ := qa.get g1
    obtain ⟨w, k2, _⟩ := qb.get g2
    exact ⟨vs, ws, v, w, (ha.lat l).sq, (hb.lat l).sq, k1, k2⟩
  yld i S r H d x H' s l e y := by
    obtain ⟨x1, g1, e⟩ := Option.bind_eq_some_iff.mp (Option.some.inj e)
    obtain ⟨y1, g2, e⟩ := Option.map_eq_some_iff.mp e
    obtain ⟨v, k1, k3⟩ := qa.get g1
    obtain ⟨w, k2, k4⟩ := qb.get g2
    obtain ⟨T, z1, z2, rfl, nT, rfl, hx, hy⟩ := y
    have f1 := hx vs (ha.lat l).sq
    have f2 := hy ws (hb.lat l).sq
    rw [k1] at f1; rw [k2] at f2
    cases f1; cases f2
    subst e
    exact tup2 s nT (k3.lat l) (k4.lat l)
def zOf (ds : List D) (S : Sto) : Option ((Nat × Nxt) × Sto) := match ds with
  | [.ref n, .ref m] => (seqAt n S).bind fun xs => (seqAt m S).bind fun ys => some ((min xs.length ys.length + 1, nxZ n m), S)
  | [.tup xs, .tup ys] => some ((min xs.length ys.length + 1, nxZT xs ys), S)
  | _ => none
def mZip (a : MA) : MI := fun env S => (a env S).bind fun p => zOf p.1 p.2
theorem cI_zip {e e2 : Expr} {m : MA} {elts : List Expr} {kk : Nat} {p pos tpos : Pos} (hg : Gl X "zip") (hm : X.mg "zip" = none) (ha : CA X [e, e2] m)
    (hs : starEach [e, e2] X.env = (false, eval e X.env) :: starEach [e2] X.env := by rfl) (hb : ((backTo pos (starEach [e2] X.env)).any fun x => x.1) = false := by rfl) : CI X (.Tuple elts kk tpos) (.Call (.Name "zip" p) [e, e2] [] pos) (mZip m) := by
  refine ⟨_, RZ.pi_zipA hg hm pa_tm hs hb, fun env S k nx S' h r σ H Q A hq => ?_⟩
  obtain ⟨⟨ds, S1⟩, e1, h⟩ := Option.bind_eq_some_iff.mp h
  have h' : zOf ds S1 = some ((k, nx), S') := h
  clear h
  unfold zOf at h'
  split at h'
  · obtain ⟨xs, e2, h'⟩ := Option.bind_eq_some_iff.mp h'
    obtain ⟨ys, e3, h'⟩ := Option.bind_eq_some_iff.mp h'
    cases h'
    refine ha env S _ _ e1 r σ H _ A fun r1 H1 vs s1 l1 q1 => ?_
    match vs, q1 with
    | [v, w], .cons z (.cons z2 .nil) =>
      cases z with
      | ref ea =>
        cases z2 with
        | ref eb =>
          obtain ⟨us, h1, _⟩ := seqAt_ok (X := X) s1 ea e2
          obtain ⟨ws, h2, _⟩ := seqAt_ok (X := X) s1 eb e3
          exact ⟨_, _, us, ws, rfl, .inl ⟨h1, h2, hq r1 H1 _ s1 l1 (itZ ea eb)⟩⟩
  · cases h'
    refine ha env S _ _ e1 r σ H _ A fun r1 H1 vs s1 l1 q1 => ?_
    match vs, q1 with
    | [v, w], .cons z (.cons z2 .nil) =>
      cases z with
      | tup ha' la =>
        cases z2 with
        | tup hb' lb => exact ⟨_, _, _, _, rfl, .inr ⟨ha'.sq, hb'.sq, hq r1 H1 _ s1 l1 (itZT ha' hb' la lb)⟩⟩
  · cases h'
end
end PL
end

section
set_option Elab.async false
set_option linter.all false
set_option maxRecDepth 100000
/-! PL10: dicts that are walked -/
namespace PL
open PySem PySem.Spec PyProof.Rows L2

section
variable {K : PySem.W.Frag} {mg : Str → Option Value}
mutual
theorem RepV.mono {r r' : List Addr} {H H' : Hp} (hp : ∀ (n : Nat) (a : Addr), r[n]? = some a → r'[n]? = some a) (ht : ∀ a xs, H a = some (.tup xs) → H' a = some (.tup xs)) : ∀ {d : D} {v : V}, RepV K mg r H d v → RepV K mg r' H' d v
  | _, _, .non => .non
  | _, _, .bl b => .bl b
  | _, _, .int i => .int i
  | _, _, .str x => .str x
  | _, _, .ty n => .ty n
  | _, _, .tup h q => .tup (ht _ _ h) (RepL.mono hp ht q)
  | _, _, .ktup h q => .ktup h (RepL.mono hp ht q)
  | _, _, .ref h => .ref (hp _ _ h)
  | _, _, .fn h => .fn h
theorem RepL.mono {r r' : List Addr} {H H' : Hp} (hp : ∀ (n : Nat) (a : Addr), r[n]? = some a → r'[n]? = some a) (ht : ∀ a xs, H a = some (.tup xs) → H' a = some (.tup xs)) : ∀ {ds : List D} {vs : List V}, RepL K mg r H ds vs → RepL K mg r' H' ds vs
  | _, _, .nil => .nil
  | _, _, .cons h q => .cons (RepV.mono hp ht h) (RepL.mono hp ht q)
end
theorem RepKs.mono {k : Type} {r : List Addr} {H H' : Hp} (ht : ∀ a xs, H a = some (.tup xs) → H' a = some (.tup xs)) {ks : List (k × D)} {ws : List (k × V)} (h : RepKs K mg r H ks ws) : RepKs K mg r H' ks ws :=
  Paired.mapP h fun _ _ q => ⟨q.1, q.2.mono (fun _ _ e => e) ht⟩
/-- the object at n becomes another one, of the same place; no tuple and no locked list is lost -/
theorem Sim.turn {r : List Addr} {S : Sto} {H : Hp} {a : Addr} {n : Nat} {o o' : Ob} {v : HO} (h : Sim K mg r S H) (eo : S[n]? = some o) (ea : r[n]? = some a) (hm : o.own = true)
    (ht : ∀ b xs, H b = some (.tup xs) → (upd H a v) b = some (.tup xs)) (hc : ∀ b w xs, H b = some (.frz w (.lst xs)) → (upd H a v) b = some (.frz w (.lst xs)))
    (q : RepO K mg r (upd H a v) o' a) : Sim K mg r (S.set n o') (upd H a v) := by
  have hn : n < S.length := (List.getElem?_eq_some_iff.mp eo).1
  have back : ∀ (i : Nat) (w : Ob), (S.set n o')[i]? = some w → (i = n ∧ w = o') ∨ (i ≠ n ∧ S[i]? = some w) := fun i w e => by
    by_cases hi : n = i
    · subst hi
      rw [List.getElem?_set_self hn] at e
      exact .inl ⟨rfl, (Option.some.inj e).symm⟩
    · rw [List.getElem?_set_ne hi] at e
      exact .inr ⟨fun z => hi z.symm, e⟩
  refine ⟨by rw [h.len, List.length_set], fun i j b o1 o2 ei ej e1 e2 m1 m2 => ?_, fun m w b e1 e2 => ?_⟩
  · rcases back i o1 e1 with ⟨i1, i2⟩ | ⟨i1, i2⟩
    · rcases back j o2 e2 with ⟨j1, j2⟩ | ⟨j1, j2⟩
      · rw [i1, j1]
      · exact h.nd i j b o o2 ei ej (by rw [i1]; exact eo) j2 hm m2
    · rcases back j o2 e2 with ⟨j1, j2⟩ | ⟨j1, j2⟩
      · exact h.nd i j b o1 o ei ej i2 (by rw [j1]; exact eo) m1 hm
      · exact h.nd i j b o1 o2 ei ej i2 j2 m1 m2
  · rcases back m w e1 with ⟨i1, i2⟩ | ⟨i1, i2⟩
    · subst i1
      subst i2
      rw [ea] at e2
      cases e2
      exact q
    · have q1 := h.ob m w b i2 e2
      have ne : w.own = true → b ≠ a := fun hw z => by subst z; exact i1 (h.nd m n b w o e2 ea i2 eo hw hm)
      cases w with
      | cst xs =>
        obtain ⟨ws, e, z⟩ := q1
        refine ⟨ws, ?_, z.mono (fun _ _ e => e) ht⟩
        rcases e with ⟨u, e⟩ | e
        · exact .inl ⟨u, hc _ _ _ e⟩
        · exact .inr e
      | lst xs => obtain ⟨ws, e, z⟩ := q1; exact ⟨ws, (upd_ne (ne rfl)).trans e, z.mono (fun _ _ e => e) ht⟩
      | dK xs => obtain ⟨ws, e, z⟩ := q1; exact ⟨ws, (upd_ne (ne rfl)).trans e, RepKs.mono ht z⟩
      | dT xs => obtain ⟨ws, e, z⟩ := q1; exact ⟨ws, (upd_ne (ne rfl)).trans e, RepKs.mono ht z⟩
      | lkK xs => obtain ⟨od, ws, e, z⟩ := q1; exact ⟨od, ws, (upd_ne (ne rfl)).trans e, RepKs.mono ht z⟩
theorem Sim.lock {r : List Addr} {S : Sto} {H : Hp} {a : Addr} {n : Nat} {kvs : List (Key × D)} {ws : List (Key × V)} {od : Obj} (h : Sim K mg r S H) (eo : S[n]? = some (.dK kvs)) (ea : r[n]? = some a) (eu : H a = some (.dK ws)) (q : RepKs K mg r H kvs ws) :
    Sim K mg r (S.set n (.lkK kvs)) (upd H a (.frz od (.dK ws))) ∧ Lat r H r (upd H a (.frz od (.dK ws))) := by
  have L : Lat r H r (upd H a (.frz od (.dK ws))) := lat_upd eu trivial
  exact ⟨h.turn eo ea rfl L.tup (fun b w xs e => L.frz _ _ _ e) ⟨od, ws, upd_same, q.lat L⟩, L⟩
theorem Sim.unlock {r : List Addr} {S : Sto} {H : Hp} {a : Addr} {n : Nat} {kvs : List (Key × D)} {ws : List (Key × V)} {od : Obj} (h : Sim K mg r S H) (eo : S[n]? = some (.lkK kvs)) (ea : r[n]? = some a) (eu : H a = some (.frz od (.dK ws))) :
    Sim K mg r (S.set n (.dK kvs)) (upd H a (.dK ws)) ∧ (∀ b xs, H b = some (.tup xs) → (upd H a (.dK ws)) b = some (.tup xs)) := by
  have ht : ∀ b xs, H b = some (.tup xs) → (upd H a (.dK ws)) b = some (.tup xs) := fun b xs e => by
    have : b ≠ a := fun z => by rw [z, eu] at e; cases e
    rw [upd_ne this]; exact e
  refine ⟨h.turn eo ea rfl ht (fun b w xs e => ?_) ?_, ht⟩
  · have : b ≠ a := fun z => by rw [z, eu] at e; cases e
    rw [upd_ne this]; exact e
  · obtain ⟨od', ws', e, z⟩ := h.ob n _ a eo ea
    rw [eu] at e
    cases e
    exact ⟨ws, upd_same, RepKs.mono ht z⟩
end
section
variable {X : Cx}
def lockAt (i : Nat) (env : Env) (S : Sto) : Option (Nat × List (Key × D)) := match env[i]? with
  | some (some (.ref n)) => match S[n]? with
    | some (.dK kvs) => some (n, kvs)
    | _ => none
  | _ => none
def freeAt (n : Nat) (S : Sto) : Option Sto := match S[n]? with
  | some (.lkK kvs) => some (S.set n (.dK kvs))
  | _ => none
/-- an expression while the dict of a slot is walked -/
def mLockE (i : Nat) (m : ME) : ME := fun env S => (lockAt i env S).bind fun p => (m env (S.set p.1 (.lkK p.2))).bind fun q => (freeAt p.1 q.2).map fun S' => (q.1, S')
theorem cE_lock {e : Expr} {m : ME} (i : Nat) (he : CE X e m) : CE X e (mLockE i m) := ⟨fun env S d S' h r σ H Q A hq => by
  obtain ⟨⟨n, kvs⟩, e1, h⟩ := Option.bind_eq_some_iff.mp h
  obtain ⟨⟨d1, S1⟩, e2, h⟩ := Option.bind_eq_some_iff.mp h
  obtain ⟨S2, e3, h⟩ := Option.map_eq_some_iff.mp h
  cases h
  unfold lockAt at e1
  split at e1
  case h_2 => cases e1
  rename_i m1 ev
  split at e1
  case h_2 => cases e1
  rename_i kvs1 es
  cases e1
  obtain ⟨v, hv0, qv⟩ := A.env.at_ i _ ev
  cases qv with
  | ref ea =>
    rename_i a
    obtain ⟨ws, eu, q⟩ := A.sim.ob _ _ a es ea
    refine tm_of (pe_lock pe_tm) ⟨a, _, eu, trivial, fun od => ?_⟩
    obtain ⟨s1, L1⟩ := A.sim.lock (od := od) es ea eu q
    refine he env _ _ _ e2 r σ _ _ (A.lat s1 L1) fun r' H' w s' l' qw => ?_
    have e4 : H' a = some (.frz od (.dK ws)) := l'.frz _ _ _ upd_same
    refine ⟨e4, ?_⟩
    simp only [freeAt] at e3
    split at e3
    case h_2 => cases e3
    rename_i kvs2 es2
    cases e3
    obtain ⟨s2, ht⟩ := s'.unlock es2 (l'.pre _ _ ea) e4
    refine hq r' _ w s2 ⟨l'.pre, fun b xs e => ht _ _ (l'.tup _ _ (L1.tup _ _ e)), fun b o u e => ?_⟩ (qw.mono (fun _ _ e => e) ht)
    have : b ≠ a := fun z => by rw [z, eu] at e; cases e
    rw [upd_ne this]
    exact l'.frz _ _ _ (L1.frz _ _ _ e)⟩

/-- a statement while the dict of a slot is walked -/
def mLockS (i : Nat) (m : MS) : MS := fun env S => (lockAt i env S).bind fun p => (m env (S.set p.1 (.lkK p.2))).bind fun q => (freeAt p.1 q.2.2).map fun S' => (q.1, q.2.1, S')
theorem cS_lock {st : Stmt} {m : MS} (i : Nat) (he : CS X st m) : CS X st (mLockS i m) := ⟨fun env S f env' S' h r σ H Dn A hq => by
  obtain ⟨⟨n, kvs⟩, e1, h⟩ := Option.bind_eq_some_iff.mp h
  obtain ⟨⟨f1, env1, S1⟩, e2, h⟩ := Option.bind_eq_some_iff.mp h
  obtain ⟨S2, e3, h⟩ := Option.map_eq_some_iff.mp h
  cases h
  unfold lockAt at e1
  split at e1
  case h_2 => cases e1
  rename_i m1 ev
  split at e1
  case h_2 => cases e1
  rename_i kvs1 es
  cases e1
  obtain ⟨v, hv0, qv⟩ := A.env.at_ i _ ev
  cases qv with
  | ref ea =>
    rename_i a
    obtain ⟨ws, eu, q⟩ := A.sim.ob _ _ a es ea
    refine tms_of (ps_lock ps_tm) ⟨a, _, eu, trivial, fun od => ?_⟩
    obtain ⟨s1, L1⟩ := A.sim.lock (od := od) es ea eu q
    simp only [freeAt] at e3
    split at e3
    case h_2 => cases e3
    rename_i kvs2 es2
    cases e3
    have back : ∀ {r' : List Addr} {H' : Hp}, Lat r (upd H a (.frz od (.dK ws))) r' H' → ∀ b o u, H b = some (.frz o u) → (upd H' a (.dK ws)) b = some (.frz o u) := fun l' b o u e => by
      have : b ≠ a := fun z => by rw [z, eu] at e; cases e
      rw [upd_ne this]
      exact l'.frz _ _ _ (L1.frz _ _ _ e)
    refine he env _ _ _ _ e2 r σ _ _ (A.lat s1 L1) ?_
    cases f1 with
    | nx =>
      intro r' σ' H' A' l'
      have e4 : H' a = some (.frz od (.dK ws)) := l'.frz _ _ _ upd_same
      obtain ⟨s2, ht⟩ := A'.sim.unlock es2 (l'.pre _ _ ea) e4
      exact ⟨e4, hq r' σ' _ ⟨s2, ⟨A'.env.len, fun i d e => let ⟨v, e1, q⟩ := A'.env.at_ i d e; ⟨v, e1, q.mono (fun _ _ e => e) ht⟩⟩⟩ ⟨l'.pre, fun b xs e => ht _ _ (l'.tup _ _ (L1.tup _ _ e)), back l'⟩⟩
    | bk =>
      intro r' σ' H' A' l'
      have e4 : H' a = some (.frz od (.dK ws)) := l'.frz _ _ _ upd_same
      obtain ⟨s2, ht⟩ := A'.sim.unlock es2 (l'.pre _ _ ea) e4
      exact ⟨e4, hq r' σ' _ ⟨s2, ⟨A'.env.len, fun i d e => let ⟨v, e1, q⟩ := A'.env.at_ i d e; ⟨v, e1, q.mono (fun _ _ e => e) ht⟩⟩⟩ ⟨l'.pre, fun b xs e => ht _ _ (l'.tup _ _ (L1.tup _ _ e)), back l'⟩⟩
    | ct =>
      intro r' σ' H' A' l'
      have e4 : H' a = some (.frz od (.dK ws)) := l'.frz _ _ _ upd_same
      obtain ⟨s2, ht⟩ := A'.sim.unlock es2 (l'.pre _ _ ea) e4
      exact ⟨e4, hq r' σ' _ ⟨s2, ⟨A'.env.len, fun i d e => let ⟨v, e1, q⟩ := A'.env.at_ i d e; ⟨v, e1, q.mono (fun _ _ e => e) ht⟩⟩⟩ ⟨l'.pre, fun b xs e => ht _ _ (l'.tup _ _ (L1.tup _ _ e)), back l'⟩⟩
    | rt d =>
      intro r' H' w s' l' qw
      have e4 : H' a = some (.frz od (.dK ws)) := l'.frz _ _ _ upd_same
      obtain ⟨s2, ht⟩ := s'.unlock es2 (l'.pre _ _ ea) e4
      exact ⟨e4, hq r' _ w s2 ⟨l'.pre, fun b xs e => ht _ _ (l'.tup _ _ (L1.tup _ _ e)), back l'⟩ (qw.mono (fun _ _ e => e) ht)⟩⟩
/-! what is walked -/
def kD : Key → D
  | .inl i => .int i
  | .inr x => .str x
theorem kD_ok {r : List Addr} {H : Hp} : ∀ k : Key, RepV X.K X.mg r H (kD k) (kV k)
  | .inl i => .int i
  | .inr x => .str x
theorem RepKs.get {k : Type} {r : List Addr} {H : Hp} : ∀ {ks : List (k × D)} {ws : List (k × V)} {i : Nat} {p : k × D}, RepKs X.K X.mg r H ks ws → ks[i]? = some p → ∃ w, ws[i]? = some (p.1, w) ∧ RepV X.K X.mg r H p.2 w
  | _, _, _, _, .nil, e => by simp at e
  | _, _, 0, _, .cons (b := b) h _, e => by
    simp at e; subst e
    obtain ⟨z1, z2⟩ := h
    obtain ⟨b1, b2⟩ := b
    simp only at z1 z2
    subst z1
    exact ⟨_, rfl, z2⟩
  | _, _, i + 1, p, .cons _ q, e => by
    obtain ⟨w, h1, h2⟩ := RepKs.get (i := i) (p := p) q (by simpa using e)
    exact ⟨w, by simpa using h1, h2⟩
theorem itKeys {r0 : List Addr} {H0 : Hp} {d : Addr} {o : Obj} {kvs : List (Key × D)} {ws : List (Key × V)} (h0 : H0 d = some (.frz o (.dK ws))) (q0 : RepKs X.K X.mg r0 H0 kvs ws) : ItOk X (Itk d o ws) r0 H0 (nxT (kvs.map fun p => kD p.1)) where
  stop i S r H s l e := by
    have e' := List.getElem?_eq_none_iff.mp (Option.some.inj e)
    rw [List.length_map, Paired.len q0] at e'
    exact ⟨l.frz _ _ _ h0, e'⟩
  go i S r H x s l e := by
    have e' := (List.getElem?_eq_some_iff.mp (Option.some.inj e)).1
    rw [List.length_map, Paired.len q0] at e'
    exact ⟨l.frz _ _ _ h0, e'⟩
  yld i S r H x v H' s l e y := by
    obtain ⟨rfl, k, w, e1, rfl⟩ := y
    have e2 := Option.some.inj e
    rw [List.getElem?_map] at e2
    obtain ⟨p, e3, e4⟩ := Option.map_eq_some_iff.mp e2
    obtain ⟨w', e5, _⟩ := q0.get e3
    rw [e1] at e5
    cases e5
    subst e4
    exact ⟨s, .refl, kD_ok _⟩
theorem itVals {r0 : List Addr} {H0 : Hp} {d : Addr} {o : Obj} {kvs : List (Key × D)} {ws : List (Key × V)} (h0 : H0 d = some (.frz o (.dK ws))) (q0 : RepKs X.K X.mg r0 H0 kvs ws) : ItOk X (Itd d o ws) r0 H0 (nxT (kvs.map fun p => p.2)) where
  stop i S r H s l e := by
    have e' := List.getElem?_eq_none_iff.mp (Option.some.inj e)
    rw [List.length_map, Paired.len q0] at e'
    exact ⟨l.frz _ _ _ h0, e'⟩
  go i S r H x s l e := by
    have e' := (List.getElem?_eq_some_iff.mp (Option.some.inj e)).1
    rw [List.length_map, Paired.len q0] at e'
    exact ⟨l.frz _ _ _ h0, e'⟩
  yld i S r H x v H' s l e y := by
    obtain ⟨rfl, k, e1⟩ := y
    have e2 := Option.some.inj e
    rw [List.getElem?_map] at e2
    obtain ⟨p, e3, e4⟩ := Option.map_eq_some_iff.mp e2
    obtain ⟨w', e5, q5⟩ := q0.get e3
    rw [e1] at e5
    cases e5
    subst e4
    exact ⟨s, .refl, q5.lat l⟩
theorem itItems {r0 : List Addr} {H0 : Hp} {d : Addr} {o : Obj} {kvs : List (Key × D)} {ws : List (Key × V)} (h0 : H0 d = some (.frz o (.dK ws))) (q0 : RepKs X.K X.mg r0 H0 kvs ws) : ItOk X (Iti d o ws) r0 H0 (nxT (kvs.map fun p => .tup [kD p.1, p.2])) where
  stop i S r H s l e := by
    have e' := List.getElem?_eq_none_iff.mp (Option.some.inj e)
    rw [List.length_map, Paired.len q0] at e'
    exact ⟨l.frz _ _ _ h0, e'⟩
  go i S r H x s l e := by
    have e' := (List.getElem?_eq_some_iff.mp (Option.some.inj e)).1
    rw [List.length_map, Paired.len q0] at e'
    exact ⟨l.frz _ _ _ h0, e'⟩
  yld i S r H x v H' s l e y := by
    obtain ⟨T, k, w, e1, rfl, nT, rfl⟩ := y
    have e2 := Option.some.inj e
    rw [List.getElem?_map] at e2
    obtain ⟨p, e3, e4⟩ := Option.map_eq_some_iff.mp e2
    obtain ⟨w', e5, q5⟩ := q0.get e3
    rw [e1] at e5
    cases e5
    subst e4
    exact tup2 s nT (kD_ok _) (q5.lat l)
def lkOf (d : D) (S : Sto) : Option (List (Key × D)) := match d with
  | .ref n => match S[n]? with
    | some (.lkK kvs) => some kvs
    | _ => none
  | _ => none
theorem lkOf_ok {d : D} {S : Sto} {kvs : List (Key × D)} {r : List Addr} {H : Hp} {v : V} (s : Sim X.K X.mg r S H) (q : RepV X.K X.mg r H d v) (h : lkOf d S = some kvs) : ∃ a o ws, v = .ref a ∧ H a = some (.frz o (.dK ws)) ∧ RepKs X.K X.mg r H kvs ws := by
  unfold lkOf at h
  split at h
  case h_2 => cases h
  split at h
  case h_2 => cases h
  rename_i es
  cases h
  cases q with
  | ref ea =>
    obtain ⟨o, ws, e, z⟩ := s.ob _ _ _ es ea
    exact ⟨_, o, ws, rfl, e, z⟩
def mWalk (f : Key × D → D) (m : ME) : MI := fun env S => (m env S).bind fun p => (lkOf p.1 p.2).map fun kvs => ((kvs.length + 1, nxT (kvs.map f)), p.2)
theorem cI_keys {tg e : Expr} {m : ME} (he : CE X e m) : CI X tg e (mWalk (fun p => kD p.1) m) := by
  refine ⟨_, pi_keys pe_tm, fun env S k nx S' h r σ H Q A hq => ?_⟩
  obtain ⟨⟨d, S1⟩, e1, h⟩ := Option.bind_eq_some_iff.mp h
  obtain ⟨kvs, e2, h⟩ := Option.map_eq_some_iff.mp h
  cases h
  refine he env S _ _ e1 r σ H _ A fun r1 H1 v s1 l1 q1 => ?_
  obtain ⟨a, o, ws, rfl, e3, q3⟩ := lkOf_ok (X := X) s1 q1 e2
  exact ⟨a, o, rfl, .inl ⟨ws, e3, hq r1 H1 _ s1 l1 (itKeys e3 q3)⟩⟩
theorem cI_vals {tg e : Expr} {m : ME} {apos cpos : Pos} (he : CE X e m) (hb : attributeBase e "values" X.env (eval e X.env) = eval e X.env := by rfl) (hl : (apos.endLine == cpos.line) = true := by rfl) : CI X tg (.Call (.Attribute e "values" apos) [] [] cpos) (mWalk (fun p => p.2) m) := by
  refine ⟨_, pi_values pe_tm hb hl, fun env S k nx S' h r σ H Q A hq => ?_⟩
  obtain ⟨⟨d, S1⟩, e1, h⟩ := Option.bind_eq_some_iff.mp h
  obtain ⟨kvs, e2, h⟩ := Option.map_eq_some_iff.mp h
  cases h
  refine he env S _ _ e1 r σ H _ A fun r1 H1 v s1 l1 q1 => ?_
  obtain ⟨a, o, ws, rfl, e3, q3⟩ := lkOf_ok (X := X) s1 q1 e2
  exact ⟨a, o, ws, rfl, e3, hq r1 H1 _ s1 l1 (itVals e3 q3)⟩
theorem cI_items {e : Expr} {m : ME} {apos cpos tpos : Pos} {elts : List Expr} {kk : Nat} (he : CE X e m) (hb : attributeBase e "items" X.env (eval e X.env) = eval e X.env := by rfl) (hl : (apos.endLine == cpos.line) = true := by rfl) : CI X (.Tuple elts kk tpos) (.Call (.Attribute e "items" apos) [] [] cpos) (mWalk (fun p => .tup [kD p.1, p.2]) m) := by
  refine ⟨_, pi_items pe_tm hb hl, fun env S k nx S' h r σ H Q A hq => ?_⟩
  obtain ⟨⟨d, S1⟩, e1, h⟩ := Option.bind_eq_some_iff.mp h
  obtain ⟨kvs, e2, h⟩ := Option.map_eq_some_iff.mp h
  cases h
  refine he env S _ _ e1 r σ H _ A fun r1 H1 v s1 l1 q1 => ?_
  obtain ⟨a, o, ws, rfl, e3, q3⟩ := lkOf_ok (X := X) s1 q1 e2
  exact ⟨a, o, ws, rfl, e3, hq r1 H1 _ s1 l1 (itItems e3 q3)⟩
end
end PL
end

section
set_option Elab.async false
set_option linter.all false
set_option maxRecDepth 100000
/-! PL11: the rules of PL9, PL10 with looks at the outermost sign; dicts from pairs -/
namespace PL
open PySem PySem.Spec PyProof.Rows L2

section
variable {X : Cx}
/-- the name of a built-in type -/
theorem cE_bty {x : Str} {T : String} {pos : Pos} (hm : X.mg x = none) (hv : bootBuiltins x = some (.type T)) (hg : Gl X x := by rfl) (hn : x ≠ "__name__" := by decide) (hd : (x == ("__debug__" : Str)) = false := by decide) : CE X (.Name x pos) (mC (.ty T)) :=
  cE_const (pe_bltn hg hm hv (v := .ty T) rfl hn hd) fun _ _ => .ty T
theorem kZip {e e2 : Expr} {m : MA} {elts : List Expr} {kk : Nat} {p pos tpos : Pos} (hm : X.mg "zip" = none) (ha : CA X [e, e2] m) (hg : Gl X "zip" := by rfl) (h : nSs [e, e2] = true := by rfl) : CI X (.Tuple elts kk tpos) (.Call (.Name "zip" p) [e, e2] [] pos) (mZip m) :=
  cI_zip hg hm ha (star_cons (nSs_cons h).1) (star_plain (nSs_cons h).2)
theorem kVals {tg e : Expr} {m : ME} {apos cpos : Pos} (he : CE X e m) (h : nCall e = true := by rfl) (hl : (apos.endLine == cpos.line) = true := by rfl) : CI X tg (.Call (.Attribute e "values" apos) [] [] cpos) (mWalk (fun p => p.2) m) := cI_vals he (base_no h) hl
theorem kItems {e : Expr} {m : ME} {apos cpos tpos : Pos} {elts : List Expr} {kk : Nat} (he : CE X e m) (h : nCall e = true := by rfl) (hl : (apos.endLine == cpos.line) = true := by rfl) : CI X (.Tuple elts kk tpos) (.Call (.Attribute e "items" apos) [] [] cpos) (mWalk (fun p => .tup [kD p.1, p.2]) m) := cI_items he (base_no h) hl
/-- dict(a list of pairs), keys numbers and texts -/
def pairsD : List D → Option (List (Key × D))
  | [] => some []
  | .tup [k, v] :: ds => (keyD k).bind fun k => (pairsD ds).map ((k, v) :: ·)
  | _ => none
theorem pairsD_ok {r : List Addr} {H : Hp} : ∀ {ds : List D} {vs : List V} {kvs : List (Key × D)}, RepL X.K X.mg r H ds vs → pairsD ds = some kvs →
    ∃ ps ws, vs = ps.map V.ref ∧ Paired (fun p kv => SqT X.K H p [kV kv.1, kv.2]) ps ws ∧ RepKs X.K X.mg r H kvs ws
  | [], _, _, q, h => by cases q; cases h; exact ⟨[], [], rfl, .nil, .nil⟩
  | d :: ds, _, _, q, h => by
    unfold pairsD at h
    split at h
    · cases h; rename_i e; cases e
    · rename_i k v ds' e
      cases e
      obtain ⟨k', e1, h⟩ := Option.bind_eq_some_iff.mp h
      obtain ⟨kvs', e2, h⟩ := Option.map_eq_some_iff.mp h
      subst h
      cases q with
      | cons q1 q2 =>
        cases q1 with
        | tup t l =>
          obtain ⟨ps, ws, g1, g2, g3⟩ := pairsD_ok q2 e2
          subst g1
          match l with
          | .cons l1 (.cons l2 .nil) =>
            have := keyD_ok l1 e1
            subst this
            exact ⟨_ :: ps, (k', _) :: ws, rfl, .cons t.sq g2, .cons ⟨rfl, l2⟩ g3⟩
    · cases h
def gDict : List D → Sto → R
  | [.ref n], S => (seqAt n S).bind fun xs => (pairsD xs).bind fun kvs => some (.ref S.length, S ++ [.dK (mergeD [] kvs)])
  | _, _ => none
def rDictP (K : PySem.W.Frag) : List V → Hp → VK → Prop := fun xs H Q => ∃ a ps kvs, xs = [V.ref a] ∧ SqL K H a (ps.map V.ref) ∧ Paired (fun p kv => SqT K H p [kV kv.1, kv.2]) ps kvs ∧ ∀ (p : Addr), H p = none → Q (.ref p) (upd H p (.dK (mergeK [] kvs)))
theorem callR_dict (hc : X.calm = true) : CallR X (.type "dict") (rDictP X.K) := call_dictP hc
theorem callS_dict : CallS X (rDictP X.K) gDict := by
  intro xs S d S' e r H vs Q s q hq
  unfold gDict at e
  split at e
  case h_2 => cases e
  obtain ⟨ys, e1, e⟩ := Option.bind_eq_some_iff.mp e
  obtain ⟨kvs, e2, e⟩ := Option.bind_eq_some_iff.mp e
  cases e
  match vs, q with
  | [v], .cons z .nil =>
    cases z with
    | ref ea =>
      obtain ⟨ws, hs, l⟩ := seqAt_ok (X := X) s ea e1
      obtain ⟨ps, ws', g1, g2, g3⟩ := pairsD_ok l e2
      subst g1
      refine ⟨_, ps, ws', rfl, hs, g2, fun p np => ?_⟩
      exact hq _ _ _ (s.new np ⟨_, upd_same, (mergeD_ok g3 .nil).lat (lat_new np)⟩) (lat_new np) (.ref (new_at (X := X) s))
end
end PL
end

section
set_option Elab.async false
set_option linter.all false
set_option maxRecDepth 100000
/-! PL12: sets of keys: made of a list, counted, sorted -/
namespace PL
open PySem PySem.Spec PyProof.Rows L2

section
variable {P : Program} {w : World} {Kt : Type} [DecidableEq Kt] {knd : PySem.KeyKind P w Kt} {kf : Value → Kt}
def keysE (kf : Value → Kt) (es : Array (Int × Value)) : List Kt := es.toList.map fun e => kf e.2
/-- a set on the heap: its keys are those of L, at most c -/
def SetX (knd : PySem.KeyKind P w Kt) (kf : Value → Kt) (h : Heap) (a : Addr) (L : List Kt) (c : Nat) : Prop := ∃ o es ep t, h.get? a = some o ∧ o.ExactSet ∧ o.data = Data.set es ep t ∧
  ElemsOf knd es.toList ∧ (keysE kf es).Nodup ∧ (∀ k, k ∈ L ↔ k ∈ keysE kf es) ∧ es.size ≤ c ∧ t.fits es.size = true ∧ Ris t.place.toList ∧ (w.params.followText "set-order" = true ∨ t.led = true)
theorem unit_step {M : Model} {A : Around} {E : Value → Shared → Prop} {s : Shared} {m : Sem Unit} {Q : Unit → Shared → Prop} (hm : ∀ Q' : Unit → Shared → Prop, Q' () s → wpAny M A m Q' E s) (h : Q () s) : wpAny M A m Q E s := hm _ h
theorem tailX {A : Around} {E : Value → Shared → Prop} {s : Shared} {a : Addr} {g : Bool → Sem Unit} (hg : ∀ (b : Bool) (s₁ : Shared) (Q' : Unit → Shared → Prop), Q' () s₁ → wpAny (model P w) A (g b) Q' E s₁)
    {o : Obj} {es : Array (Int × Value)} {ep : Nat} {t : SetTable} (ho : s.heap.get? a = some o) (hex : o.ExactSet) (hd : o.data = Data.set es ep t) {es1 : Array (Int × Value)} {t2 : SetTable} {L : List Kt} {c : Nat} (hel : ElemsOf knd es1.toList) (nd : (keysE kf es1).Nodup)
    (hm : ∀ k, k ∈ L ↔ k ∈ keysE kf es1) (hb : es1.size ≤ c) (hc : c < scanBound) (hf : t2.fits es1.size = true) (hr : Ris t2.place.toList) (hl : w.params.followText "set-order" = true ∨ t2.led = true) {wasDummy : Bool} {R : Option Bool → Shared → Prop}
    (hR : ∀ h' : Heap, Heap.SameBut a s.heap h' → SetX knd kf h' a L c → R (some true) { s with heap := h' }) :
    wpAny (model P w) A (do
      storeSet a es1 t2
      if (!wasDummy && t2.tooFull) = true then do
        g (relayAll t2 es1 (SetTable.grown es1.size)).2.2
        storeSet a (relayAll t2 es1 (SetTable.grown es1.size)).1 (relayAll t2 es1 (SetTable.grown es1.size)).2.1
        pure (some true)
      else pure (some true)) R E s := by
  have hsl : es1.size ≤ sizeLine := by
    have : scanBound ≤ sizeLine := by decide
    omega
  refine wpAny_bind (wpAny_storeSet_of ho hd ?_ hsl)
  have ho1 := store_at (es' := es1) (t' := t2) ho hd
  have sb1 := Heap.SameBut.update s.heap a (Obj.putSet es1 t2)
  by_cases h : (!wasDummy && t2.tooFull) = true
  · rw [if_pos h]
    have pm := relayAll_perm t2 es1 (SetTable.grown es1.size)
    have hf3 := relayAll_fits t2 es1 (SetTable.grown es1.size)
    have hr3 := relayAll_ris t2 es1 (SetTable.grown es1.size)
    have hl3 := relayAll_led t2 es1 (SetTable.grown es1.size)
    revert pm hf3 hr3 hl3
    generalize relayAll t2 es1 (SetTable.grown es1.size) = z
    obtain ⟨es2, t3, gave⟩ := z
    intro pm hf3 hr3 hl3
    have hsz : es2.size = es1.size := by
      have := pm.length_eq
      simpa using this
    refine wpAny_bind (hg _ _ _ (wpAny_bind (wpAny_storeSet_of ho1 rfl ?_ (by show es2.size ≤ sizeLine; rw [hsz]; exact hsl))))
    have ho2 := store_at (es' := es2) (t' := t3) ho1 rfl
    refine wpAny_pure (hR _ (Heap.SameBut.trans sb1 (Heap.SameBut.update _ a (Obj.putSet es2 t3))) ⟨_, es2, _, t3, ho2, hex, rfl, ?_, ?_, ?_, by rw [hsz]; exact hb, hf3, hr3, ?_⟩)
    · exact fun e he => hel e (pm.mem_iff.mp he)
    · exact ((pm.map _).nodup_iff).mpr nd
    · exact fun k => (hm k).trans ((pm.map _).mem_iff).symm
    · exact hl.imp id fun h => hl3.trans h
  · rw [if_neg h]
    exact wpAny_pure (hR _ sb1 ⟨_, es1, _, t2, ho1, hex, rfl, hel, nd, hm, hb, hf, hr, hl⟩)
theorem keys_of (is : ∀ k v, knd.is k v = true → kf v = k) {es : Array (Int × Value)} (hel : ElemsOf knd es.toList) (k : Kt) : k ∈ keysE kf es ↔ ∃ e ∈ es.toList, knd.is k e.2 = true := by
  unfold keysE
  rw [List.mem_map]
  constructor
  · rintro ⟨e, he, rfl⟩
    obtain ⟨⟨k', h1, _⟩, _⟩ := hel e he
    exact ⟨e, he, by rw [is _ _ h1]; exact h1⟩
  · rintro ⟨e, he, h1⟩
    exact ⟨e, he, is _ _ h1⟩
theorem addX (is : ∀ k v, knd.is k v = true → kf v = k) {A : Around} {E : Value → Shared → Prop} {s : Shared} {a : Addr} {L : List Kt} {c : Nat} {k : Kt} {x : Value} {Q : Bool → Shared → Prop} (R : SetX knd kf s.heap a L c) (hk : knd.is k x = true) (hs : x.scannable = true) (hc : c + 1 < scanBound)
    (hQ : ∀ (h' : Heap) (b : Bool), Heap.SameBut a s.heap h' → SetX knd kf h' a (L ++ [k]) (c + 1) → Q b { s with heap := h' }) : wpAny (model P w) A (setAddHashed a x (knd.hash k)) Q E s := by
  obtain ⟨o, es, ep, t, ho, hex, hd, hel, nd, hm, hb, hf, hr, hl⟩ := R
  show wpAny _ _ (holding [x] (setAddHashedIn a x (knd.hash k) (99999 + 1))) Q E s
  refine wpAny_holding ?_
  rw [setAddHashedIn_succ]
  refine wpAny_bind (wpAny_setState_of ho hd hf ?_)
  simp only [byScan_of (knd := knd) hs (show es.size < scanBound by omega) hel, if_true]
  unfold setAddByScan
  refine wpAny_bind (wpAny_bind (wpAny_rule (wpAny_bind (wpAny_setScan_of hk ho hd hf hel ?_))))
  cases hfi : List.findIdx? (fun e => knd.is k e.2) es.toList with
  | some j =>
    obtain ⟨hj, h1, _⟩ := List.findIdx?_eq_some_iff_getElem.mp hfi
    have hmem : k ∈ keysE kf es := (keys_of is hel k).mpr ⟨_, List.getElem_mem hj, h1⟩
    refine wpAny_pure (wpAny_pure (hQ _ _ (Heap.SameBut.refl _ _) ⟨o, es, ep, t, ho, hex, hd, hel, nd, fun k' => ?_, by omega, hf, hr, hl⟩))
    rw [List.mem_append, hm k', List.mem_singleton]
    exact ⟨fun h => h.elim id fun e => e ▸ hmem, .inl⟩
  | none =>
    have hno : k ∉ keysE kf es := fun h => by
      obtain ⟨e, he, h1⟩ := (keys_of is hel k).mp h
      have := (List.findIdx?_eq_none_iff.mp hfi) e he
      rw [h1] at this
      cases this
    have pm := layNew_perm t es (knd.hash k) x
    have hf1 := layNew_fits t es (knd.hash k) x
    have hr1 := layNew_ris t es (knd.hash k) x hr
    have hl1 := layNew_led t es (knd.hash k) x
    revert pm hf1 hr1 hl1
    dsimp only
    generalize layNew t es (knd.hash k) x = z
    obtain ⟨es1, t1, wd, gave⟩ := z
    intro pm hf1 hr1 hl1
    dsimp only at pm hf1 hr1 hl1 ⊢
    have pm' : es1.toList.Perm ((knd.hash k, x) :: es.toList) := pm.trans (by rw [Array.toList_push]; exact List.perm_append_singleton _ _)
    have hsz : es1.size = es.size + 1 := by
      have := pm'.length_eq
      simpa using this
    have hel1 : ElemsOf knd es1.toList := fun e he => by
      rcases List.mem_cons.mp (pm'.mem_iff.mp he) with rfl | he
      · exact ⟨⟨k, hk, rfl⟩, hs⟩
      · exact hel e he
    have pk : (keysE kf es1).Perm (k :: keysE kf es) := by
      have := pm'.map (fun e : Int × Value => kf e.2)
      rw [List.map_cons, is _ _ hk] at this
      exact this
    have nd1 : (keysE kf es1).Nodup := pk.nodup_iff.mpr (List.nodup_cons.mpr ⟨hno, nd⟩)
    have hm1 : ∀ k', k' ∈ L ++ [k] ↔ k' ∈ keysE kf es1 := fun k' => by
      rw [pk.mem_iff, List.mem_append, List.mem_singleton, List.mem_cons, hm k']
      exact or_comm
    refine wpAny_bind ?_
    refine unit_step (fun Q' h => by cases gave <;> first | exact wpAny_rule h | exact wpAny_pure h) ?_
    by_cases hp : t1.plain = true
    · rw [if_pos hp, hashByValue_scannable 8 hs]
      refine wpAny_bind (wpAny_pure ?_)
      generalize plainKind x = bv
      refine tailX (fun b s₁ Q' h => by cases b <;> first | exact wpAny_rule h | exact wpAny_pure h) ho hex hd hel1 nd1 hm1 (c := c + 1) (by omega) hc ?_ ?_ ?_ (fun h' sb R' => wpAny_pure (hQ _ _ sb R'))
      · cases bv <;> exact hf1
      · cases bv <;> exact hr1
      · cases bv <;> exact hl.imp id fun h => hl1.trans h
    · rw [if_neg hp]
      refine wpAny_bind (wpAny_pure ?_)
      exact tailX (fun b s₁ Q' h => by cases b <;> first | exact wpAny_rule h | exact wpAny_pure h) ho hex hd hel1 nd1 hm1 (c := c + 1) (by omega) hc hf1 hr1 (hl.imp id fun h => hl1.trans h) (fun h' sb R' => wpAny_pure (hQ _ _ sb R'))
theorem SetX.at {h h' : Heap} {a : Addr} {L : List Kt} {c : Nat} (R : SetX knd kf h a L c) (hh : ∀ o, h.get? a = some o → h'.get? a = some o) : SetX knd kf h' a L c := by
  obtain ⟨o, es, ep, t, ho, r⟩ := R
  exact ⟨o, es, ep, t, hh o ho, r⟩
theorem loopX (is : ∀ k v, knd.is k v = true → kf v = k) {A : Around} {I : Addr} {fp wr : List Addr} {G : Array GenState → Array GenState → Prop} {n : Nat} {Pv : Nat → Value → Prop} {St : Nat → Shared → Prop} {R : Result → Shared → Prop} (W : WalksS P w A.in1 I fp wr G n Pv St) (S : Addr)
    (hSf : S ∉ fp) (ks : List Kt) (hn : n = ks.length) (hb : ks.length + 1 < scanBound) (hval : ∀ i v, Pv i v → ∃ k, ks[i]? = some k ∧ knd.is k v = true ∧ v.scannable = true) :
    ∀ (k i : Nat) (s : Shared), n - i = k → i ≤ n → St i s → SetX knd kf s.heap S (ks.take i) i →
      (∀ s', Moved (S :: wr) G s s' → SetX knd kf s'.heap S ks n → R (.ok (.ret .none)) s') → codeAny (model P w) A (Code.builtin "set.update.loop" { pos := [.ref S, .ref I] }) R s := by
  have hSw : S ∉ wr := fun h => hSf (W.sub S h)
  have hsub : ∀ b, b ∈ wr → b ∈ S :: wr := fun b hb => List.mem_cons_of_mem S hb
  intro k
  induction k with
  | zero =>
    intro i s hk' hi hst hS hR
    have e : i = n := by omega
    subst e
    refine codeAny_builtin F.entry_set_update_loop ?_
    rw [Around.under_plainId F.plain_set_update_loop]
    refine wpAny_bind (W.done s _ _ hst fun s' hm => ?_)
    refine wpAny_pure (hR s' (Moved.mono hm hsub) ?_)
    rw [hn, List.take_length] at hS
    rw [hn]
    exact hS.at fun o e => hm.heap S o hSw e
  | succ k ih =>
    intro i s hk' hi hst hS hR
    have hlt : i < n := by omega
    refine codeAny_builtin F.entry_set_update_loop ?_
    rw [Around.under_plainId F.plain_set_update_loop]
    refine wpAny_bind (W.item i s _ _ hlt hst fun v s' hP hst' hm => ?_)
    obtain ⟨z, hz, hk, hs⟩ := hval i v hP
    have hS' : SetX knd kf s'.heap S (ks.take i) i := hS.at fun o e => hm.heap S o hSw e
    refine wpAny_bind (wpAny_holding ?_)
    refine wpAny_holding (wpAny_bind (knd.pyHash hk (addX is hS' hk hs (by omega) fun h' b hsb hS2 => ?_)))
    refine wpAny_pure ⟨plainId_quiet F.plain_set_update_loop _, ?_⟩
    have et : ks.take (i + 1) = ks.take i ++ [z] := by
      rw [List.take_add_one, hz]
      rfl
    refine ih (i + 1) _ (by omega) hlt (W.frame (i + 1) s' h' _ hst' (Nat.le_succ s'.toks) fun b hb o e => ?_) (by rw [et]; exact hS2) fun s'' hm'' hS'' => ?_
    · rw [hsb.2 b fun h => hSf (h ▸ hb)]
      exact e
    · refine hR s'' (Moved.trans W.gtrans (Moved.then_heap (Moved.mono hm hsub) (Nat.le_succ s'.toks) fun b o hb e => ?_) hm'') hS''
      rw [hsb.2 b fun h => hb (h ▸ List.mem_cons_self)]
      exact e
end
end PL
end

section
set_option Elab.async false
set_option linter.all false
set_option maxRecDepth 100000
/-! PL13: set(list) -/
namespace PL
open PySem PySem.Spec PyProof.Rows L2
section
variable {P : Program} {w : World} {Kt : Type} [DecidableEq Kt] {knd : PySem.KeyKind P w Kt} {kf : Value → Kt}
theorem call_setX (is : ∀ k v, knd.is k v = true → kf v = k) {A : Around} {E : Value → Shared → Prop} {s : Shared} {l : Addr} {items : Array Value} {ks : List Kt} {Q : Value → Shared → Prop} (hh : A.handled = none) (hl : s.heap.IsList l items)
    (hk : ∀ (i : Nat) v, items[i]? = some v → ∃ k, ks[i]? = some k ∧ knd.is k v = true ∧ v.scannable = true) (hn : items.size = ks.length) (hb : ks.length + 1 < scanBound)
    (h : ∀ (h' : Heap) (tk : Nat), SetX knd kf h' s.heap.objs.size ks ks.length → (∀ (b : Nat) (o : Obj), b < s.heap.objs.size → s.heap.get? b = some o → h'.get? b = some o) → Q (.ref s.heap.objs.size) { s with heap := h', toks := tk }) :
    wpAny (model P w) A (call (.type "set") [.ref l]) Q E s := by
  obtain ⟨c, tl, hmro⟩ := F.called_set.mro
  have hmade := F.called_set.made
  have hsub := F.called_set.sub
  refine wpAny_call (codeAny_of_tree ?_)
  refine wpAny_pure ⟨Code.quiet_builtin _ (by decide +kernel), codeAny_builtin F.entry_type_call ?_⟩
  rw [Around.under_plain (weight_type_call_type "set" [.ref l] []) rfl]
  have h1 := F.called_set.notType
  have h2 := F.called_set.canCreate
  have hct := F.typeCall_set_1 (.ref l)
  unfold Builtin.«type.__call__»
  refine wpAny_ite_false rfl ?_
  try dsimp only
  refine wpAny_ite_false h2 ?_
  try dsimp only
  refine wpAny_bind (wpAny_of_eq hct ?_)
  try dsimp only
  refine wpAny_bind (wpAny_of_eq hmro ?_)
  try dsimp only
  refine wpAny_ite_false rfl ?_
  try dsimp only
  refine wpAny_bind (wpAny_of_eq hmade ?_)
  try dsimp only
  refine wpAny_bind (wpAny_pure ?_)
  try dsimp only
  refine wpAny_bind (wpAny_holding (wpAny_call (codeAny_mono (L2.code_set_led1 (E := E) (.ref l) (Q₁ := fun v s' => v = .ref s.heap.objs.size ∧ s' = _) ⟨rfl, rfl⟩) fun r s₁ hr => ?_)))
  match r, hr with
  | .error e, hr => exact hr
  | .ok .next, hr => exact hr.elim
  | .ok .brk, hr => exact hr.elim
  | .ok .cont, hr => exact hr.elim
  | .ok (.ret v), hr =>
    obtain ⟨rfl, rfl⟩ := hr
    have hS := Heap.get?_push_size s.heap (o := { cls := .type "set", data := Data.set #[] 0 (SetTable.fresh 0 0 !w.params.followText "set-order") }) rfl
    have hT : Shared.TypeIs { s with heap := s.heap.push { cls := .type "set", data := Data.set #[] 0 (SetTable.fresh 0 0 !w.params.followText "set-order") } } (.ref s.heap.objs.size) "set" := ⟨_, hS, rfl⟩
    have hli := F.called_set.init.lookup
    have hbi := F.called_set.init.bind (.ref s.heap.objs.size)
    refine wpAny_bind (wpAny_isInstance hT hsub ?_)
    refine wpAny_ite_false rfl ?_
    refine wpAny_bind (wpAny_holding ?_)
    unfold callSpecial?
    refine wpAny_bind (wpAny_specialOf hT hli (wpAny_holding (wpAny_bind (wpAny_of_eq hbi (wpAny_bind (wpAny_call (codeAny_mono (codeAny_call_builtin (R := wants (fun v s' => v = Value.none ∧ ∃ h' tk, s' = { s with heap := h', toks := tk } ∧ SetX knd kf h' s.heap.objs.size ks ks.length ∧ ∀ (b : Nat) (o : Obj), b < s.heap.objs.size → s.heap.get? b = some o → h'.get? b = some o) E) F.called_set.init.plain F.entry_set_init (check_set_init_1 hT ?_)) fun r₂ s₂ hr₂ => ?_)))))))
    · obtain ⟨⟨ocls, odict, odata, oslots⟩, hol, hcl, nl, hdl⟩ := hl
      dsimp only at hcl hdl
      subst hcl
      subst hdl
      have hol' := Heap.get?_push_of_some { cls := .type "set", data := Data.set #[] 0 (SetTable.fresh 0 0 !w.params.followText "set-order") } hol
      have hsls := F.sub_list_set
      have hslf := F.sub_list_frozenset
      have hl1 : Heap.IsList (s.heap.push { cls := .type "set", data := Data.set #[] 0 (SetTable.fresh 0 0 !w.params.followText "set-order") }) l items := ⟨_, hol', rfl, nl, rfl⟩
      unfold Builtin.«set.__init__»
      refine wpAny_bind ?_
      refine wpAny_ite_true rfl ?_
      refine wpAny_pure ?_
      dsimp only [List.cons_append, List.nil_append]
      refine wpAny_bind ?_
      unfold typeNameOfCut
      refine wpAny_bind ?_
      refine wpAny_bind (wpAny_typeOf hT ?_)
      refine wpAny_ite_false rfl ?_
      refine wpAny_pure ?_
      refine wpAny_pure ?_
      refine wpAny_bind ?_
      unfold checkCount
      refine wpAny_ite_false rfl ?_
      refine wpAny_ite_false rfl ?_
      refine wpAny_ite_false rfl ?_
      refine wpAny_pure ?_
      refine wpAny_bind ?_
      refine wpAny_pure ?_
      refine wpAny_bind ?_
      unfold setUsed
      refine wpAny_bind (wpAny_setState_of hS rfl rfl ?_)
      refine wpAny_pure ?_
      refine wpAny_ite_false rfl ?_
      refine wpAny_bind ?_
      unfold Builtin.Frozenset.updateFrom
      have hTl : Shared.TypeIs { s with heap := s.heap.push { cls := .type "set", data := Data.set #[] 0 (SetTable.fresh 0 0 !w.params.followText "set-order") } } (.ref l) "list" := ⟨_, hol', rfl⟩
      refine wpAny_bind ?_
      unfold Builtin.Frozenset.isAnySet
      refine wpAny_bind (wpAny_isInstance hTl hsls ?_)
      refine wpAny_isInstance hTl hslf ?_
      refine wpAny_ite_false rfl ?_
      refine wpAny_bind (wpAny_typeOf hTl ?_)
      refine wpAny_ite_false rfl ?_
      refine wpAny_bind (wpAny_pyIter_list hl1 ?_)
      refine wpAny_bind (wpAny_runValue ?_)
      have hlS := Heap.lt_size hol
      have hSf : s.heap.objs.size ∉ [(s.heap.push { cls := .type "set", data := Data.set #[] 0 (SetTable.fresh 0 0 !w.params.followText "set-order") }).objs.size, l] := by
        rw [Heap.size_push]
        simp only [List.mem_cons, List.not_mem_nil, or_false, not_or]
        exact ⟨Nat.ne_of_lt (Nat.lt_succ_self _), Nat.ne_of_gt hlS⟩
      have hneI : l ≠ (s.heap.push { cls := .type "set", data := Data.set #[] 0 (SetTable.fresh 0 0 !w.params.followText "set-order") }).objs.size := by
        rw [Heap.size_push]
        exact Nat.ne_of_lt (Nat.lt_succ_of_lt hlS)
      refine loopX is (Walks.toS (Walks.list (by exact hh) _ l hneI items)) s.heap.objs.size hSf ks hn hb (fun i v hv => hk i v hv) items.size 0 _ (by omega) (Nat.zero_le _) ⟨⟨_, Heap.get?_push_size _ rfl, rfl, rfl⟩, Heap.IsList.push hl1 _⟩ ?_ fun s' hm hS' => ?_
      · have hget := Heap.get?_push_of_some { cls := .type "list_iterator", data := Data.fields #[.ref l, .int 0 0] } hS
        refine ⟨_, #[], 0, _, hget, ⟨rfl, rfl, rfl⟩, rfl, fun e he => by simp at he, by simp [keysE], fun k => by simp [keysE], by simp, rfl, by simp [Ris, SetTable.fresh], ?_⟩
        cases w.params.followText "set-order"
        · exact .inr rfl
        · exact .inl rfl
      · obtain ⟨h', g', d', tk', os'⟩ := s'
        have eg := hm.gens
        have ed := hm.drawn
        have eo := hm.os
        dsimp only at eg ed eo
        subst eg
        subst ed
        subst eo
        refine wpAny_pure (wpAny_pure ⟨rfl, h', tk', rfl, by rw [← hn]; exact hS', fun b o hb' e => ?_⟩)
        refine hm.heap b o ?_ (Heap.get?_push_of_some _ (Heap.get?_push_of_some _ e))
        rw [Heap.size_push]
        simp only [List.mem_cons, List.not_mem_nil, or_false, not_or]
        exact ⟨Nat.ne_of_lt hb', Nat.ne_of_lt (Nat.lt_succ_of_lt hb')⟩
    · match r₂, hr₂ with
      | .error e, hr => exact hr
      | .ok .next, hr => exact hr.elim
      | .ok .brk, hr => exact hr.elim
      | .ok .cont, hr => exact hr.elim
      | .ok (.ret v₂), hr =>
        obtain ⟨rfl, h', tk, rfl, hS', hk'⟩ := hr
        exact wpAny_pure (wpAny_ite_false rfl (wpAny_pure (h h' tk hS' hk')))
end
end PL
end

section
set_option Elab.async false
set_option linter.all false
set_option maxRecDepth 100000
/-! PL14: sets of texts: counted, sorted -/
namespace PL
open PySem PySem.Spec PyProof.Rows L2

def leS (x y : Str) : Bool := decide (x.cps.toList ≤ y.cps.toList)
theorem leS_trans (a b c : Str) (h1 : leS a b = true) (h2 : leS b c = true) : leS a c = true := by
  unfold leS at *
  rw [decide_eq_true_eq] at *
  exact List.le_trans h1 h2
theorem leS_total (a b : Str) : (leS a b || leS b a) = true := by
  unfold leS
  rw [Bool.or_eq_true, decide_eq_true_eq, decide_eq_true_eq]
  exact List.le_total _ _
theorem leS_anti {a b : Str} (h1 : leS a b = true) (h2 : leS b a = true) : a = b := by
  unfold leS at *
  rw [decide_eq_true_eq] at *
  exact PySem.W.str_of_cps (List.le_antisymm h1 h2)
def ded {α : Type} [DecidableEq α] : List α → List α
  | [] => []
  | x :: xs => if x ∈ xs then ded xs else x :: ded xs
theorem mem_ded {α : Type} [DecidableEq α] {k : α} : ∀ {l : List α}, k ∈ ded l ↔ k ∈ l
  | [] => Iff.rfl
  | x :: xs => by
    unfold ded
    by_cases h : x ∈ xs
    · rw [if_pos h, mem_ded, List.mem_cons]
      exact ⟨.inr, fun z => z.elim (fun e => e ▸ h) id⟩
    · rw [if_neg h, List.mem_cons, List.mem_cons, mem_ded]
theorem nodup_ded {α : Type} [DecidableEq α] : ∀ {l : List α}, (ded l).Nodup
  | [] => List.nodup_nil
  | x :: xs => by
    unfold ded
    by_cases h : x ∈ xs
    · rw [if_pos h]; exact nodup_ded
    · rw [if_neg h]; exact List.nodup_cons.mpr ⟨fun z => h (mem_ded.mp z), nodup_ded⟩
theorem sort_perm {l m : List Str} (h : l.Perm m) : l.mergeSort leS = m.mergeSort leS :=
  List.Perm.eq_of_pairwise (fun a b _ _ h1 h2 => leS_anti h1 h2) (List.pairwise_mergeSort leS_trans leS_total l) (List.pairwise_mergeSort leS_trans leS_total m) (((List.mergeSort_perm l _).trans h).trans (List.mergeSort_perm m _).symm)
def sortS (xs : List Str) : List Str := (ded xs).mergeSort leS

section
variable {P : Program} {w : World}
def kfS : Value → Str
  | .str x _ => x
  | _ => Str.empty
theorem is_str {k x : Str} {t : Tok} (h : Value.isStrOf k (.str x t) = true) : x = k := by
  have hx : Value.isStrOf x (.str x t) = true := by
    show (x == x) = true
    exact beq_self_eq_true x
  exact Value.isStrOf_inj _ _ _ hx h
theorem kfS_is (k : Str) (v : Value) (h : (PySem.strKind P w).is k v = true) : kfS v = k := by
  cases v
  case str x t => exact is_str (t := t) h
  all_goals exact absurd h (by simp [PySem.strKind, Value.isStrOf])
theorem len_setX {A : Around} {E : Value → Shared → Prop} {s : Shared} {a : Addr} {L : List Str} {c : Nat} {Q : Value → Shared → Prop} (R : SetX (PySem.strKind P w) kfS s.heap a L c) (hc : c < scanBound)
    (hQ : ∀ tk tk', Q (.int (ded L).length tk) { s with toks := tk' }) : wpAny (model P w) A (call (.builtin "len") [.ref a]) Q E s := by
  obtain ⟨o, es, ep, t, ho, hex, hd, hel, nd, hm, hb, hf, hr, hl⟩ := R
  have hp : (keysE kfS es).Perm (ded L) := (List.perm_ext_iff_of_nodup nd nodup_ded).mpr fun k => (hm k).symm.trans mem_ded.symm
  have hn : es.size = (ded L).length := by
    rw [← hp.length_eq]
    simp [keysE]
  refine call_len_set ho hex hd hf ?_ ?_
  · have : (scanBound : Int) < 2 ^ 63 := by decide
    omega
  · rw [hn]
    exact hQ _ _
theorem sorted_setX {A : Around} {E : Value → Shared → Prop} {s : Shared} {a : Addr} {L : List Str} {c : Nat} {Q : Value → Shared → Prop} (R : SetX (PySem.strKind P w) kfS s.heap a L c) (hh : A.handled = none) (hc : c < scanBound) (hu : A.units + 10 < cLine)
    (hQ : ∀ (s' : Shared) (p : Nat) (out : List Value) (e : Nat), (∀ (b : Addr) (o : Obj), s.heap.get? b = some o → s'.heap.get? b = some o) → s'.gens = s.gens → s'.os = s.os → s.heap.objs.size ≤ p → s'.heap.get? p = some (seqObj "list" out.toArray e) →
      PySem.W.EachIs (fun v (x : Str) => ∃ t, v = Value.str x t) out (sortS L) → Q (.ref p) s') : wpAny (model P w) A (call (.builtin "sorted") [.ref a]) Q E s := by
  obtain ⟨o, es, ep, t, ho, hex, hd, hel, nd, hm, hb, hf, hr, hl⟩ := R
  refine Calls.call_function_entry kind_sorted plain_sorted entry_sorted (args_sorted1 (.ref a)) ?_
  unfold Builtin.sorted
  refine wpAny_bind (wpAny_pure ?_)
  refine wpAny_bind (collect_set (by exact hh) ⟨o, ho, hex.1, hd⟩ hf (by omega) hr hl fun s1 vs k1 hz g1 o1 pm => ?_)
  have hv : ∀ vs : List Value, (∀ v ∈ vs, ∃ x tk, v = Value.str x tk) → PySem.W.EachIs (fun v (x : Str) => ∃ t, v = Value.str x t) vs (vs.map kfS) := fun vs => by
    induction vs with
    | nil => intro _; exact .nil
    | cons v vs ih =>
      intro h
      obtain ⟨x, tk, rfl⟩ := h v (by simp)
      exact .cons ⟨tk, rfl⟩ (ih fun v' hv' => h v' (by simp [hv']))
  have hstr : ∀ v ∈ vs, ∃ x tk, v = Value.str x tk := fun v hv' => by
    obtain ⟨e, he, rfl⟩ := List.mem_map.mp (pm.mem_iff.mp hv')
    obtain ⟨⟨k, h1, _⟩, _⟩ := hel e he
    revert h1
    cases e.2 <;> intro h1 <;> first | exact ⟨_, _, rfl⟩ | exact absurd h1 (by simp [PySem.strKind, Value.isStrOf])
  have hlen : vs.length = es.size := by rw [pm.length_eq]; simp
  have hsl : vs.length ≤ sizeLine := by
    have : scanBound ≤ sizeLine := by decide
    omega
  have hb1 := hv vs hstr
  have hreads : ∀ (h : Heap) (vs : List Value), (∀ v ∈ vs, ∃ x tk, v = Value.str x tk) → ∀ a : Addr, PySem.W.EachIs (fun v (x : Str) => ∃ as, Reads h v (.str x) as ∧ a ∉ as) vs (vs.map kfS) := fun h vs => by
    induction vs with
    | nil => intro _ _; exact .nil
    | cons v vs ih =>
      intro h a
      obtain ⟨x, tk, rfl⟩ := h v (by simp)
      exact .cons ⟨[], .str x tk, by simp⟩ (ih (fun v' hv' => h v' (by simp [hv'])) a)
  refine wpAny_bind (wpAny_newList ?_ hsl)
  have hoL := Heap.get?_push_size s1.heap (o := seqObj "list" vs.toArray 0) rfl
  refine wpAny_bind (wpAny_holding (PySem.W.list_sort_data (enc := PyData.str) (R := fun v (x : Str) => ∃ t, v = Value.str x t) hoL hb1 (hreads _ vs hstr _) ?_ ?_ (by rw [List.length_map]; exact hsl) ?_ fun out ol oe => ?_))
  · intro d hd' d' hd''
    obtain ⟨x, _, rfl⟩ := List.mem_map.mp hd'
    obtain ⟨y, _, rfl⟩ := List.mem_map.mp hd''
    exact PySem.W.alike.eq_4 x y
  · refine .inr fun d hd' => ?_
    obtain ⟨x, _, rfl⟩ := List.mem_map.mp hd'
    exact ⟨(by intro e; cases e), (by intro xs e; cases e)⟩
  · intro b _
    have : (PyData.str b).depth = 0 := by simp [PyData.depth]
    have hu' : A.in1.units ≤ A.units + 1 := by
      first | exact Nat.le_refl _ | (simp [Around.in1, Around.units])
    omega
  · obtain ⟨e1, he1⟩ := sortedHeap_at (out := out.toArray) hoL
    refine wpAny_pure ⟨_, rfl, hQ _ _ out e1 (fun b o' hb' => ?_) g1 o1 hz he1 ?_⟩
    · have hlt : b < s1.heap.objs.size := Heap.lt_size (k1 b o' hb')
      rw [sortedHeap_old (Nat.ne_of_lt hlt) (by rw [Heap.size_push]; exact Nat.lt_succ_of_lt hlt)]
      exact Heap.get?_push_of_some _ (k1 b o' hb')
    · have hp : (vs.map kfS).Perm (ded L) := by
        have q := pm.map kfS
        rw [List.map_map] at q
        exact q.trans ((List.perm_ext_iff_of_nodup nd nodup_ded).mpr fun k => (hm k).symm.trans mem_ded.symm)
      have hle : PySem.W.dataLe false PyData.str = leS := PySem.W.dataLe_str id
      rw [hle, sort_perm hp] at oe
      exact oe
end
end PL
end

section
set_option Elab.async false
set_option linter.all false
set_option maxRecDepth 100000
/-! PL15: sorted(set(xs)), len(set(xs)) of texts; sorted(d) of a dict of text keys -/
namespace PL
open PySem PySem.Spec PyProof.Rows L2

section
variable {X : Cx}
def setHO (P : Program) (w : World) (p : Addr) (ks : List Str) : HO := .ext fun h => SetX (PySem.strKind P w) kfS h p ks ks.length
def rSetS (X : Cx) : List V → Hp → VK → Prop := fun vs H Q => ∃ a ks, vs = [.ref a] ∧ SqL X.K H a (ks.map V.str) ∧ ks.length + 1 < scanBound ∧ ∀ p, H p = none → Q (.ref p) (upd H p (setHO X.prog X.w p ks))
theorem vals_strs : ∀ {ks : List Str} {its : List Value}, Vals (ks.map V.str) its → ∀ (i : Nat) v, its[i]? = some v → ∃ k, ks[i]? = some k ∧ ∃ t, v = Value.str k t
  | [], _, .nil, i, v, e => by simp at e
  | k :: ks, _, .cons (b := b) h t, 0, v, e => by
    simp at e
    subst e
    obtain ⟨tk, rfl⟩ := h
    exact ⟨k, rfl, tk, rfl⟩
  | k :: ks, _, .cons h t, i + 1, v, e => by
    obtain ⟨k', h1, h2⟩ := vals_strs t i v (by simpa using e)
    exact ⟨k', by simpa using h1, h2⟩
theorem callR_set (hc : X.calm = true) : CallR X (.type "set") (rSetS X) := by
  intro pins s σ H vs us Q I rv h
  obtain ⟨a, ks, rfl, hs, hb, q⟩ := h
  cases rv with
  | cons r1 r2 =>
    cases r2
    cases r1
    obtain ⟨its, hv, pl, ll⟩ := I.list hs
    have hlen : its.toArray.size = ks.length := by
      have := Paired.len hv
      simpa using this.symm
    refine call_setX (knd := PySem.strKind X.prog X.w) (kf := kfS) (ks := ks) kfS_is (I.ok.hd hc) (PlainL.isList pl) (fun i v e => ?_) hlen hb fun h' tk R kp => ?_
    · obtain ⟨k, e1, t, rfl⟩ := vals_strs hv i v (by simpa using e)
      exact ⟨k, e1, by show (k == k) = true; exact beq_self_eq_true k, rfl⟩
    · have kp' : ∀ (b : Addr) (o : Obj), s.heap.get? b = some o → h'.get? b = some o := fun b o e => kp b o (Heap.lt_size e) e
      refine ⟨.ref s.heap.objs.size, _, I.laid kp' (Nat.le_refl _) ?_, rfl, q _ I.fresh⟩
      unfold ObjOk setHO
      exact ⟨R, ⟨_, R.choose_spec.choose_spec.choose_spec.choose_spec.1⟩, fun h1 h2 R1 hk => R1.at hk⟩
def rSortedX (X : Cx) : List V → Hp → VK → Prop := fun vs H Q => ∃ p ks, vs = [.ref p] ∧ H p = some (setHO X.prog X.w p ks) ∧ ks.length + 1 < scanBound ∧ ∀ l, H l = none → Q (.ref l) (upd H l (.lst ((sortS ks).map V.str)))
theorem each_strs : ∀ {out : List Value} {ks : List Str}, PySem.W.EachIs (fun v (x : Str) => ∃ t, v = Value.str x t) out ks → Vals (ks.map V.str) out
  | _, _, .nil => .nil
  | _, _, .cons h t => .cons h (each_strs t)
theorem setX_of {pins : List (Addr × Obj)} {σ : L2.St} {H : Hp} {s : Shared} {p : Addr} {ks : List Str} (I : L2.Inv X pins σ H s) (h : H p = some (setHO X.prog X.w p ks)) : SetX (PySem.strKind X.prog X.w) kfS s.heap p ks ks.length := by
  have := I.hok p _ h
  unfold ObjOk setHO at this
  exact this.1
theorem ded_le {α : Type} [DecidableEq α] : ∀ {l : List α}, (ded l).length ≤ l.length
  | [] => Nat.le_refl _
  | x :: xs => by
    unfold ded
    have := ded_le (l := xs)
    split <;> simp <;> omega
theorem callR_sortedX (hc : X.calm = true) (hu : X.A.units + 64 < cLine) : CallR X (.builtin "sorted") (rSortedX X) := by
  intro pins s σ H vs us Q I rv h
  obtain ⟨p, ks, rfl, hs, hb, q⟩ := h
  cases rv with
  | cons r1 r2 =>
    cases r2
    cases r1
    refine sorted_setX (setX_of I hs) (I.ok.hd hc) (by omega) (by omega) fun s' l out e kp g1 o1 hz hl ev => ?_
    obtain ⟨h', g', d', t', os'⟩ := s'
    dsimp only at g1 o1 kp hz hl
    subst g1
    subst o1
    have hsl : ((sortS ks).map V.str).length ≤ sizeLine := by
      have h1 : (sortS ks).length = (ded ks).length := List.length_mergeSort _
      have h2 := ded_le (l := ks)
      have h3 : scanBound ≤ sizeLine := by decide
      rw [List.length_map]
      omega
    have J := I.laid (h' := h') (a := l) (o := .lst ((sortS ks).map V.str)) (t' := t') kp hz (by
      unfold ObjOk
      exact ⟨hsl, out, e, each_strs ev, hl⟩)
    exact ⟨.ref l, _, ⟨J.ok, J.os, J.bare, J.base, J.loc, J.cell, J.free, J.freeC, J.pin, J.hok, J.len⟩, rfl, q l (I.hok.fresh hz)⟩
def rLenX (X : Cx) : List V → Hp → VK → Prop := fun vs H Q => ∃ p ks, vs = [.ref p] ∧ H p = some (setHO X.prog X.w p ks) ∧ ks.length + 1 < scanBound ∧ Q (.int (ded ks).length) H
theorem callR_lenX : CallR X (.builtin "len") (rLenX X) := by
  intro pins s σ H vs us Q I rv h
  obtain ⟨p, ks, rfl, hs, hb, q⟩ := h
  cases rv with
  | cons r1 r2 =>
    cases r2
    cases r1
    refine len_setX (setX_of I hs) (by omega) fun tk tk' => ?_
    exact ⟨.int _, H, I.kept (fun _ _ e => e), ⟨_, rfl⟩, q⟩
/-! in the layer -/
theorem lat_junk {r : List Addr} {H : Hp} {p : Addr} {u : HO} (np : H p = none) : Lat r H r (upd H p u) :=
  ⟨fun _ _ h => h, fun b xs e => by rw [upd_ne (ne_of_none e np)]; exact e, fun b o u e => by rw [upd_ne (ne_of_none e np)]; exact e⟩
theorem Sim.junk {K : PySem.W.Frag} {mg : Str → Option Value} {r : List Addr} {S : Sto} {H : Hp} {p : Addr} {u : HO} (h : Sim K mg r S H) (np : H p = none) : Sim K mg r S (upd H p u) := by
  refine ⟨h.len, h.nd, fun n o a e1 e2 => ?_⟩
  have q := h.ob n o a e1 e2
  cases o with
  | cst xs => obtain ⟨ws, e, z⟩ := q; exact ⟨ws, e.lat (lat_junk (r := r) np), z.lat (lat_junk np)⟩
  | lst xs => obtain ⟨ws, e, _⟩ := id q; exact q.lat (lat_junk np) (upd_ne (ne_of_none e np))
  | dK xs => obtain ⟨ws, e, _⟩ := id q; exact q.lat (lat_junk np) (upd_ne (ne_of_none e np))
  | dT xs => obtain ⟨ws, e, _⟩ := id q; exact q.lat (lat_junk np) (upd_ne (ne_of_none e np))
  | lkK xs => obtain ⟨od, ws, e, _⟩ := id q; exact q.lat (lat_junk np) (upd_ne (ne_of_none e np))
def strsD : List D → Option (List Str)
  | [] => some []
  | .str x :: ds => (strsD ds).map (x :: ·)
  | _ => none
theorem strsD_ok {K : PySem.W.Frag} {mg : Str → Option Value} {r : List Addr} {H : Hp} : ∀ {ds : List D} {vs : List V} {ks : List Str}, RepL K mg r H ds vs → strsD ds = some ks → vs = ks.map V.str
  | [], _, _, q, h => by cases q; cases h; rfl
  | d :: ds, _, _, q, h => by
    cases q with
    | cons q1 q2 =>
      cases d with
      | str b =>
        obtain ⟨a, e1, e2⟩ := Option.map_eq_some_iff.mp (show (strsD ds).map (b :: ·) = _ from h)
        subst e2
        cases q1
        rw [strsD_ok q2 e1]; rfl
      | _ => cases h
theorem repStrs {K : PySem.W.Frag} {mg : Str → Option Value} {r : List Addr} {H : Hp} : ∀ ns : List Str, RepL K mg r H (ns.map D.str) (ns.map V.str)
  | [] => .nil
  | c :: cs => .cons (.str c) (repStrs cs)
def setArg (d : D) (S : Sto) : Option (List Str) := match d with
  | .ref n => (seqAt n S).bind fun xs => (strsD xs).bind fun ks => if ks.length + 1 < scanBound then some ks else none
  | _ => none
def mOfSet (g : List Str → Sto → R) (m : ME) : ME := fun env S => (m env S).bind fun p => (setArg p.1 p.2).bind fun ks => g ks p.2
theorem cE_ofSet {id : String} {rr : List V → Hp → VK → Prop} {x : Str} {e : Expr} {m : ME} {g : List Str → Sto → R} {p p2 pos pos2 : Pos} (hc : CallR X (.builtin id) rr)
    (hs : ∀ ks S d S' r H p (Q : VK), g ks S = some (d, S') → ks.length + 1 < scanBound → Sim X.K X.mg r S H → H p = some (setHO X.prog X.w p ks) → (∀ r' H' v, Sim X.K X.mg r' S' H' → Lat r H r' H' → RepV X.K X.mg r' H' d v → Q v H') → rr [.ref p] H Q)
    (hcalm : X.calm = true) (hm : X.mg x = none) (hv : bootBuiltins x = some (.builtin id)) (hm2 : X.mg "set" = none) (he : CE X e m) (hg : Gl X x := by rfl) (hg2 : Gl X "set" := by rfl) (hn : x ≠ "__name__" := by decide) (hdb : (x == ("__debug__" : Str)) = false := by decide) (h : nS e = true := by rfl) :
    CE X (.Call (.Name x p) [.Call (.Name "set" p2) [e] [] pos2] [] pos) (mOfSet g m) := by
  refine ⟨?_⟩
  intro env S d S' h0 r σ H Q A hq
  obtain ⟨⟨d0, S1⟩, e1, h0⟩ := Option.bind_eq_some_iff.mp h0
  obtain ⟨ks, e2, h0⟩ := Option.bind_eq_some_iff.mp h0
  have st : ∀ {e : Expr}, nS e = true → starEach [e] X.env = (false, eval e X.env) :: starEach [] X.env := fun h => star_cons h
  refine tm_of (pe_callB hc hg hm hv (pa_cons (pe_callTy (callR_set hcalm) hg2 hm2 (by rfl) (pa_cons pe_tm pa_nil (st h)) (by decide) (by decide) (st h) (star_plain rfl)) pa_nil (st rfl)) hn hdb (st rfl) (star_plain rfl)) ?_
  refine he env S d0 S1 e1 r σ H _ A fun r1 H1 v s1 l1 q1 => ?_
  have e2' : setArg d0 S1 = some ks := e2
  clear e2
  unfold setArg at e2'
  split at e2'
  case h_2 => cases e2'
  obtain ⟨xs, e3, e2'⟩ := Option.bind_eq_some_iff.mp e2'
  obtain ⟨ks', e4, e2'⟩ := Option.bind_eq_some_iff.mp e2'
  split at e2'
  case isFalse => cases e2'
  rename_i hb
  cases e2'
  cases q1 with
  | ref ea =>
    obtain ⟨vs, h1, q⟩ := seqAt_ok (X := X) s1 ea e3
    have := strsD_ok q e4
    subst this
    refine ⟨_, ks, rfl, h1, hb, fun q' np => ?_⟩
    exact hs ks S1 d S' r1 _ q' Q h0 hb (s1.junk np) upd_same fun r2 H2 w s2 l2 q2 => hq r2 H2 w s2 (l1.trans ((lat_junk np).trans l2)) q2
def gSortS (ks : List Str) (S : Sto) : R := newL ((sortS ks).map D.str) S
def gLenS (ks : List Str) (S : Sto) : R := some (.int (ded ks).length, S)
theorem cE_sortSet {e : Expr} {m : ME} {p p2 pos pos2 : Pos} (hcalm : X.calm = true) (hu : X.A.units + 64 < cLine) (hm : X.mg "sorted" = none) (hm2 : X.mg "set" = none) (he : CE X e m) (hg : Gl X "sorted" := by rfl) (hg2 : Gl X "set" := by rfl) (h : nS e = true := by rfl) :
    CE X (.Call (.Name "sorted" p) [.Call (.Name "set" p2) [e] [] pos2] [] pos) (mOfSet gSortS m) :=
  cE_ofSet (callR_sortedX hcalm hu) (fun ks S d S' r H p Q h0 hb s hp hq => ⟨p, ks, rfl, hp, hb, fun l nl => by
    obtain ⟨a1, a2, a3⟩ := newL_ok (X := X) s nl (repStrs (sortS ks)) h0
    exact hq _ _ _ a1 a2 a3⟩) hcalm hm (by rfl) hm2 he hg hg2 (by decide) (by decide) h
theorem cE_lenSet {e : Expr} {m : ME} {p p2 pos pos2 : Pos} (hcalm : X.calm = true) (hm : X.mg "len" = none) (hm2 : X.mg "set" = none) (he : CE X e m) (hg : Gl X "len" := by rfl) (hg2 : Gl X "set" := by rfl) (h : nS e = true := by rfl) :
    CE X (.Call (.Name "len" p) [.Call (.Name "set" p2) [e] [] pos2] [] pos) (mOfSet gLenS m) :=
  cE_ofSet callR_lenX (fun ks S d S' r H p Q h0 hb s hp hq => by
    cases h0
    exact ⟨p, ks, rfl, hp, hb, hq r H _ s .refl (.int _)⟩) hcalm hm (by rfl) hm2 he hg hg2 (by decide) (by decide) h
end
end PL
end

section
set_option Elab.async false
set_option linter.all false
set_option maxRecDepth 100000
/-! PL16: d.update(e), sorted(d) -/
namespace PL
open PySem PySem.Spec PyProof.Rows L2

section
variable {X : Cx}
def rUpdK : V → List V → Hp → VK → Prop := fun x xs H Q => ∃ a b kvs more, x = .ref a ∧ xs = [.ref b] ∧ a ≠ b ∧ H a = some (.dK kvs) ∧ H b = some (.dK more) ∧ kvs.length + more.length ≤ sizeLine ∧ Q .non (upd H a (.dK (mergeK kvs more)))
theorem mtR_update : MtR X "dict.update" rUpdK := by
  intro pins s σ H x xs v us Q I rv rvs h
  obtain ⟨a, b, kvs, more, rfl, rfl, hab, ha, hb, hl, q⟩ := h
  cases rv
  cases rvs with
  | cons r1 r2 =>
    cases r2
    cases r1
    obtain ⟨l1, s1, vs1, k1, d1⟩ := dk_of I.hok ha
    obtain ⟨l2, s2, vs2, k2, d2⟩ := dk_of I.hok hb
    refine call_meetsIn F.slot_dict_update (isD_at I (.inl ⟨kvs, .inl ha⟩)).1 F.entry_dict_update (F.args_dict_update_2 _ _) (meets_dict_update (mixKind X.prog X.w) a b hab s2) ?_
    refine ⟨vs1, vs2, d1, d2, by rw [← Paired.len k1, ← Paired.len k2]; exact hl, fun h' d3 d4 sb => ?_⟩
    have hk : KV (mergeK kvs more) (merged vs1 vs2) := KV.merge k2 k1
    have ob : ObjOk X.prog X.w (upd H a (.dK (mergeK kvs more))) h' a (.dK (mergeK kvs more)) := dk_new (by
      have := length_mergeK more kvs
      omega) s1 hk d3
    refine ⟨.non, _, I.write (e := a) (t' := s.toks) (by rw [ha]; trivial) (.inl rfl) (fun b' u hne e => by rw [sb.2 b' hne]; exact e) ?_ ob, rfl, q⟩
    obtain ⟨o, es, ep, ho, _⟩ := d3
    exact ⟨o, ho⟩
def gUpdate : D → List D → Sto → R
  | .ref n, [.ref m], S => match S[n]?, S[m]? with
    | some (.dK kvs), some (.dK more) => if n ≠ m ∧ kvs.length + more.length ≤ sizeLine then some (.non, S.set n (.dK (mergeD kvs more))) else none
    | _, _ => none
  | _, _, _ => none
theorem mtS_update {T : String} : MtS X T rUpdK gUpdate := by
  intro x xs S d S' e r H u vs Q s q1 q2 hq
  unfold gUpdate at e
  split at e
  case h_2 => cases e
  rename_i n m
  split at e
  case h_2 => cases e
  rename_i kvs more ex em
  split at e
  case isFalse => cases e
  rename_i hz
  cases e
  cases q1 with
  | ref ea =>
    match vs, q2 with
    | [v], .cons z .nil =>
      cases z with
      | ref eb =>
        obtain ⟨ws, h1, l⟩ := s.ob _ _ _ ex ea
        obtain ⟨ws2, h2, l2⟩ := s.ob _ _ _ em eb
        refine ⟨_, _, ws, ws2, rfl, rfl, fun hab => ?_, h1, h2, by rw [← Paired.len l, ← Paired.len l2]; exact hz.2, ?_⟩
        · subst hab
          exact hz.1 (s.nd n m _ _ _ ea eb ex em rfl rfl)
        · have L : Lat r H r (upd H _ (.dK (mergeK ws ws2))) := lat_upd h1 trivial
          obtain ⟨s8, l8⟩ := s.put (o' := .dK (mergeD kvs more)) (v := .dK (mergeK ws ws2)) ex ea rfl rfl ⟨_, upd_same, (mergeD_ok l2 l).lat L⟩
          exact hq r _ _ s8 l8 .non
/-! sorted(d), keys texts, fewer than 64 -/
def keyStrs : List (Key × D) → Option (List Str)
  | [] => some []
  | (.inr x, _) :: ks => (keyStrs ks).map (x :: ·)
  | _ => none
theorem keyStrs_ok {r : List Addr} {H : Hp} : ∀ {kvs : List (Key × D)} {ws : List (Key × V)} {ks : List Str}, RepKs X.K X.mg r H kvs ws → keyStrs kvs = some ks → ws.map (fun x => x.1) = ks.map Sum.inr
  | [], _, _, .nil, h => by cases h; rfl
  | (.inl i, d) :: kvs, _, _, .cons h t, e => by cases e
  | (.inr x, d) :: kvs, (k, w) :: ws, _, .cons h t, e => by
    obtain ⟨ks', e1, e2⟩ := Option.map_eq_some_iff.mp (show (keyStrs kvs).map (x :: ·) = _ from e)
    subst e2
    have h1 : Sum.inr x = k := h.1
    subst h1
    rw [List.map_cons, List.map_cons, keyStrs_ok t e1]
def gSortedD : List D → Sto → R
  | [.ref n], S => match S[n]? with
    | some (.dK kvs) => (keyStrs kvs).bind fun ks => if ks.length < 64 then newL ((ks.mergeSort leS).map D.str) S else none
    | _ => none
  | _, _ => none
def rSortedDK : List V → Hp → VK → Prop := fun xs H Q => ∃ a kvs ks, xs = [V.ref a] ∧ Rd H a (.dK kvs) ∧ kvs.map (fun x => x.1) = ks.map Sum.inr ∧ ks.length < 64 ∧ ∀ (ys : List Str) (p : Addr), ys.Perm ks → sortedS ys = true → H p = none → Q (.ref p) (upd H p (.lst (ys.map V.str)))
theorem callR_sortedD (hc : X.calm = true) : CallR X (.builtin "sorted") rSortedDK := call_sortedD hc
theorem rising_pair : ∀ {ys : List Str} {x : Str}, risingS x ys = true → (x :: ys).Pairwise fun a b => leS a b = true
  | [], x, _ => List.pairwise_singleton _ _
  | y :: ys, x, h => by
    rw [risingS.eq_2, Bool.and_eq_true] at h
    have hxy : leS x y = true := by
      have h1 := h.1
      rw [ltCps_eq, PySem.W.not_lt_str] at h1
      exact h1
    have ih := rising_pair h.2
    refine List.pairwise_cons.mpr ⟨fun z hz => ?_, ih⟩
    rcases List.mem_cons.mp hz with rfl | hz
    · exact hxy
    · exact leS_trans _ _ _ hxy ((List.pairwise_cons.mp ih).1 z hz)
theorem sorted_pair {ys : List Str} (h : sortedS ys = true) : ys.Pairwise fun a b => leS a b = true := by
  cases ys with
  | nil => exact .nil
  | cons x r => exact rising_pair h
theorem callS_sortedD : CallS X rSortedDK gSortedD := by
  intro xs S d S' e r H vs Q s q hq
  unfold gSortedD at e
  split at e
  case h_2 => cases e
  rename_i n
  split at e
  case h_2 => cases e
  rename_i kvs ex
  obtain ⟨ks, e1, e⟩ := Option.bind_eq_some_iff.mp e
  split at e
  case isFalse => cases e
  rename_i hk
  match vs, q with
  | [v], .cons z .nil =>
    cases z with
    | ref ea =>
      obtain ⟨ws, h1, l⟩ := s.ob _ _ _ ex ea
      refine ⟨_, ws, ks, rfl, .inl h1, keyStrs_ok (X := X) l e1, hk, fun ys p hp hs np => ?_⟩
      have : ys = ks.mergeSort leS := List.Perm.eq_of_pairwise (fun a b _ _ h1 h2 => leS_anti h1 h2) (sorted_pair hs) (List.pairwise_mergeSort leS_trans leS_total ks) (hp.trans (List.mergeSort_perm ks _).symm)
      subst this
      obtain ⟨a1, a2, a3⟩ := newL_ok (X := X) s np (repStrs _) e
      exact hq _ _ _ a1 a2 a3
end
end PL
end

section
set_option Elab.async false
set_option linter.all false
set_option maxRecDepth 100000
/-! PL17: one of two mirrors, a call of a def that a slot holds -/
namespace PL
open PySem PySem.Spec PyProof.Rows L2
section
variable {X : Cx}
/-- the first mirror where it gives something, else the second -/
def mOr (a b : ME) : ME := fun env S => (a env S).orElse fun _ => b env S
theorem CE.or {e : Expr} {a b : ME} (ha : CE X e a) (hb : CE X e b) : CE X e (mOr a b) := by
  refine ⟨?_⟩
  intro env S d S' h r σ H Q A hq
  unfold mOr at h
  cases eg : a env S with
  | some z =>
    rw [eg] at h
    cases h
    exact ha env S d S' eg r σ H Q A hq
  | none =>
    rw [eg] at h
    exact hb env S d S' h r σ H Q A hq
/-- one of two mirrors, by what stands there -/
def mSel (c : Env → Sto → Bool) (a b : ME) : ME := fun env S => if c env S = true then a env S else b env S
theorem CE.sel {e : Expr} {a b : ME} (c : Env → Sto → Bool) (ha : CE X e a) (hb : CE X e b) : CE X e (mSel c a b) := by
  refine ⟨?_⟩
  intro env S d S' h r σ H Q A hq
  unfold mSel at h
  split at h
  · exact ha env S d S' h r σ H Q A hq
  · exact hb env S d S' h r σ H Q A hq
/-- a call of what a slot holds: fs tells a def's number and how many it asks -/
def mCallV (i : Nat) (fs : Str → Option (Nat × Nat)) (C : Nat → MF) (a : MA) : ME := fun env S => match env[i]? with
  | some (some (.fn x)) => match fs x with
    | some (j, n) => (a env S).bind fun p => if p.1.length = n then C j p.1 p.2 else none
    | none => none
  | _ => none
theorem cE_callV {k i : Nat} {fs : Str → Option (Nat × Nat)} {C : Nat → MF} {x : Str} {p pos : Pos} {e : Expr} {es : List Expr} {a : MA}
    (hT : ∀ y j n, fs y = some (j, n) → ∃ (f : Addr) (fd : FuncData) (ps : List Str), X.mg y = some (.ref f) ∧ FnG X.prog X.w X.K X.mg X.base k f fd ps (spM X.K X.mg n (C j)) ∧ PySem.W.keepIn X.K (.ref f) = true ∧ Binds X.K fd ps [])
    (hr : Room k X.A) (hgd : X.A.guards = some []) (hN : X.N[i]? = some x) (hv : Vis X.env.scope x) (ha : CA X (e :: es) a)
    (hdb : (x == ("__debug__" : Str)) = false := by decide) (hcd : (x == ("__classdict__" : Str)) = false := by decide)
    (he : starEach (e :: es) X.env = (false, eval e X.env) :: starEach es X.env := by rfl) (hpl : (backTo pos (starEach es X.env)).any (·.1) = false := by rfl) : CE X (.Call (.Name x p) (e :: es) [] pos) (mCallV i fs C a) := by
  refine ⟨?_⟩
  intro env S d S' h r σ H Q A hq
  unfold mCallV at h
  split at h
  case h_2 => cases h
  rename_i y ey
  split at h
  case h_2 => cases h
  rename_i j n ej
  obtain ⟨f, fd, ps, hm, F, hk, hb⟩ := hT y j n ej
  obtain ⟨⟨ds, S1⟩, e1, h⟩ := Option.bind_eq_some_iff.mp h
  split at h
  case isFalse => cases h
  rename_i hl
  obtain ⟨v, hs, qv⟩ := A.env.at_ i _ ey
  have hvf : v = .ref f := by
    cases qv with
    | fn z =>
      rw [hm] at z
      cases z
      rfl
  subst hvf
  intro pins s I
  refine wpAny_Call_Name_kw (thn ((pe_var (pos := p) hN hv hdb hcd).run pins s σ H (fun v H1 => v = .ref f ∧ H1 = H) I ⟨.ref f, hs, rfl, rfl⟩) fun u s1 ⟨v, H1, I1, r1, q1⟩ => ?_)
  obtain ⟨rfl, rfl⟩ := q1
  cases r1
  have args := ha env S ds S1 e1 r σ _ (fun vs H1 => spM X.K X.mg n (C j) vs H1 Q E0) A fun r1 H1 vs s1 l1 q1 => ⟨r1, S1, ds, d, S', hl, s1, q1, h, fun r2 H2 v s2 l2 q2 => hq r2 H2 v s2 (l1.trans l2) q2⟩
  refine PySem.W.callWith_K (h₀ := X.base) I1.ok.mod.kin hk (thn (args pos pins s1 I1) ?_) he hpl
  rintro us s2 ⟨vs, H1, I2, rv, q⟩
  exact ⟨I2.kIn, F.call hr hgd hb I2 rv q⟩
end
end PL
end

section
set_option Elab.async false
set_option linter.all false
set_option maxRecDepth 100000
/-! PL18: repr of a text, of any tuple -/
namespace PL
open PySem PySem.Spec PyProof.Rows L2
section
variable {X : Cx}
def gOr (g g' : List D → Sto → R) : List D → Sto → R := fun xs S => (g xs S).orElse fun _ => g' xs S
theorem CallS.or {r r' : List V → Hp → VK → Prop} {g g' : List D → Sto → R} (h : CallS X r g) (h' : CallS X r' g') : CallS X (fun xs H Q => r xs H Q ∨ r' xs H Q) (gOr g g') := by
  intro xs S d S' e r1 H vs Q s q hq
  unfold gOr at e
  cases eg : g xs S with
  | some z =>
    rw [eg] at e
    cases e
    exact .inl (h xs S d S' eg r1 H vs Q s q hq)
  | none =>
    rw [eg] at e
    exact .inr (h' xs S d S' e r1 H vs Q s q hq)
def gReprS : List D → Sto → R
  | [.str x], S => if (reprText x).length ≤ sizeLine then some (.str (reprText x), S) else none
  | _, _ => none
def rReprS : List V → Hp → VK → Prop := fun vs H Q => ∃ x, vs = [.str x] ∧ (reprText x).length ≤ sizeLine ∧ Q (.str (reprText x)) H
theorem callR_reprS : CallR X (.builtin "repr") rReprS := by
  intro pins s σ H vs us Q I rv h
  obtain ⟨x, rfl, hz, q⟩ := h
  cases rv with
  | cons r1 r2 =>
    cases r2
    obtain ⟨t, rfl⟩ := r1
    exact P.repr_of_str (hsz := hz) ⟨.str _, H, I.tok _, ⟨_, rfl⟩, q⟩
theorem callS_reprS : CallS X rReprS gReprS := by
  intro xs S d S' e r H vs Q s q hq
  unfold gReprS at e
  split at e
  case h_2 => cases e
  split at e
  case isFalse => cases e
  rename_i ok
  cases e
  match vs, q with
  | [v], .cons z .nil =>
    cases z
    exact ⟨_, rfl, ok, hq r H _ s .refl (.str _)⟩
end
end PL
end

section
set_option Elab.async false
set_option linter.all false
set_option maxRecDepth 100000
/-! PL19: in, not in a list or tuple of any plain data -/
namespace PL
open PySem PySem.Spec PyProof.Rows L2
section
variable {X : Cx}
def mOrTT (a b : MT) : MT := fun env S => (a env S).orElse fun _ => b env S
theorem CT.or {e : Expr} {a b : MT} (ha : CT X e a) (hb : CT X e b) : CT X e (mOrTT a b) := by
  refine ⟨?_⟩
  intro env S d S' h r σ H Q A hq
  unfold mOrTT at h
  cases eg : a env S with
  | some z =>
    rw [eg] at h
    cases h
    exact ha env S d S' eg r σ H Q A hq
  | none =>
    rw [eg] at h
    exact hb env S d S' h r σ H Q A hq
def rInP (K : PySem.W.Frag) (neg : Bool) : R2 := fun x y H Q => ∃ d ps, Dp K H x d ∧ (Dp K H y (.list ps) ∨ Dp K H y (.tuple ps)) ∧ PyData.canLayAll0 ps = true ∧ d.canLay0 = true ∧ d.depth ≤ 40 ∧ Q (.bl (if neg then !(ps.any fun y => PyData.eqv y d) else ps.any fun y => PyData.eqv y d)) H
theorem op_inP (hu : X.A.units + 64 < cLine) : OpR X (compareOp .In) (rInP X.K false) := by
  intro pins s σ H x y v u Q I rx ry h
  obtain ⟨d, ps, hd, he, c1, c2, hz, q⟩ := h
  obtain ⟨as, r1⟩ := Dp.reads I d x v hd rx
  rcases he with he | he
  · obtain ⟨bs, r2⟩ := Dp.reads I _ y u he ry
    exact SeqAt.in_list_reads r2 r1 c1 c2 (by omega) ⟨.bl _, H, I, rfl, q⟩
  · obtain ⟨bs, r2⟩ := Dp.reads I _ y u he ry
    exact SeqAt.in_tuple_reads r2 r1 c1 c2 (by omega) ⟨.bl _, H, I, rfl, q⟩
theorem op_notInP (hu : X.A.units + 64 < cLine) : OpR X (compareOp .NotIn) (rInP X.K true) := by
  intro pins s σ H x y v u Q I rx ry h
  obtain ⟨d, ps, hd, he, c1, c2, hz, q⟩ := h
  obtain ⟨as, r1⟩ := Dp.reads I d x v hd rx
  rcases he with he | he
  · obtain ⟨bs, r2⟩ := Dp.reads I _ y u he ry
    exact SeqAt.notIn_list_reads r2 r1 c1 c2 (by omega) ⟨.bl _, H, I, rfl, q⟩
  · obtain ⟨bs, r2⟩ := Dp.reads I _ y u he ry
    exact SeqAt.notIn_tuple_reads r2 r1 c1 c2 (by omega) ⟨.bl _, H, I, rfl, q⟩
/-- membership by content -/
def inP (neg : Bool) : D → D → Sto → R := fun x y S => (pyD x).bind fun p => (pyT S y).bind fun q => match q with
  | .list ps => if (PyData.canLayAll0 ps && p.canLay0 && decide (p.depth ≤ 40)) = true then some (.bl (if neg then !(ps.any fun y => PyData.eqv y p) else ps.any fun y => PyData.eqv y p), S) else none
  | .tuple ps => if (PyData.canLayAll0 ps && p.canLay0 && decide (p.depth ≤ 40)) = true then some (.bl (if neg then !(ps.any fun y => PyData.eqv y p) else ps.any fun y => PyData.eqv y p), S) else none
  | _ => none
theorem opS_inP {neg : Bool} : OpS X (rInP X.K neg) (inP neg) := by
  intro x y S d S' e r H u v Q s q1 q2 hq
  obtain ⟨p, e1, e⟩ := Option.bind_eq_some_iff.mp e
  obtain ⟨q, e2, e⟩ := Option.bind_eq_some_iff.mp e
  have hd := pyD_ok q1 e1
  have ht := pyT_ok s q2 e2
  split at e
  · rename_i ps
    split at e
    case isFalse => cases e
    rename_i c
    cases e
    simp only [Bool.and_eq_true, decide_eq_true_eq] at c
    exact ⟨p, ps, hd, .inl ht, c.1.1, c.1.2, c.2, hq r H _ s .refl (.bl _)⟩
  · rename_i ps
    split at e
    case isFalse => cases e
    rename_i c
    cases e
    simp only [Bool.and_eq_true, decide_eq_true_eq] at c
    exact ⟨p, ps, hd, .inr ht, c.1.1, c.1.2, c.2, hq r H _ s .refl (.bl _)⟩
  · cases e
theorem kInX {a b : Expr} {ma mb : ME} {pos : Pos} (hu : X.A.units + 64 < cLine) (ha : CE X a ma) (hb : CE X b mb) (h : nSet b = true := by rfl) : CE X (.Compare a [.In] [b] pos) (mOr (mBin (inA id) ma mb) (mBin (inP false) ma mb)) :=
  CE.or (kIn (by omega) ha hb h) (kCmp (op_inP hu) opS_inP ha hb h)
theorem kNotInX {a b : Expr} {ma mb : ME} {pos : Pos} (hu : X.A.units + 64 < cLine) (ha : CE X a ma) (hb : CE X b mb) (h : nSet b = true := by rfl) : CE X (.Compare a [.NotIn] [b] pos) (mOr (mBin (inA not) ma mb) (mBin (inP true) ma mb)) :=
  CE.or (kNotIn (by omega) ha hb h) (kCmp (op_notInP hu) opS_inP ha hb h)
theorem kInXT {a b : Expr} {ma mb : ME} {pos : Pos} (hu : X.A.units + 64 < cLine) (ha : CE X a ma) (hb : CE X b mb) (h : nSet b = true := by rfl) : CT X (.Compare a [.In] [b] pos) (mOrTT (asB (mBin (inA id) ma mb)) (asB (mBin (inP false) ma mb))) :=
  CT.or (kInT (by omega) ha hb h) (kCmpT (op_inP hu) opS_inP ha hb h)
theorem kNotInXT {a b : Expr} {ma mb : ME} {pos : Pos} (hu : X.A.units + 64 < cLine) (ha : CE X a ma) (hb : CE X b mb) (h : nSet b = true := by rfl) : CT X (.Compare a [.NotIn] [b] pos) (mOrTT (asB (mBin (inA not) ma mb)) (asB (mBin (inP true) ma mb))) :=
  CT.or (kNotInT (by omega) ha hb h) (kCmpT (op_notInP hu) opS_inP ha hb h)
end
end PL
end

section
set_option Elab.async false
set_option linter.all false
set_option maxRecDepth 100000
/-! PL20: sets of tuples of ints and texts: what is asked of such tuples, the search -/
namespace PL
open PySem PySem.Spec PyProof.Rows L2
section
variable {P : Program} {w : World} {A : Around} {E : Value → Shared → Prop} {s : Shared}
abbrev TpK (P : Program) (w : World) (h : Heap) (k : List Key) (b : Addr) : Prop := IsTupleKey (mixKind P w) h k b
abbrev hsh (P : Program) (w : World) (k : List Key) : Int := tupleKeyHash (mixKind P w) k
def Flat1 (v : Value) : Prop := (∃ i t, v = Value.int i t) ∨ ∃ x t, v = Value.str x t
theorem flat_items {k : List Key} {vs : List Value} (h : ItemsAre (mixKind P w) k vs) : ∀ v ∈ vs, Flat1 v := by
  induction h with
  | nil => exact fun v hv => nomatch hv
  | cons h1 _ ih =>
    intro v hv
    cases hv with
    | head =>
      rcases keyIs_shape h1 with ⟨i, t, _, e⟩ | ⟨x, t, _, e⟩
      · exact .inl ⟨i, t, e⟩
      · exact .inr ⟨x, t, e⟩
    | tail _ hv => exact ih v hv
theorem flat_class {v : Value} (h : Flat1 v) (n : Nat) : ofAClassStatement n v = pure false := by
  rcases h with ⟨i, t, rfl⟩ | ⟨x, t, rfl⟩ <;> (cases n <;> rfl)
theorem flat_hash {v : Value} (h : Flat1 v) (n : Nat) : ∃ b, hashByValue n v = pure b := by
  rcases h with ⟨i, t, rfl⟩ | ⟨x, t, rfl⟩
  · exact ⟨true, by cases n <;> rfl⟩
  · exact ⟨false, by cases n <;> rfl⟩
/-- a walk over items that nothing comes of -/
theorem walk_none {α : Type} (f : Value → Option α × PUnit → Sem (ForInStep (Option α × PUnit))) (vs : List Value) {Q : Option α × PUnit → Shared → Prop} (hv : ∀ v ∈ vs, ∀ Q' : ForInStep (Option α × PUnit) → Shared → Prop, Q' (.yield (none, ⟨⟩)) s → wpAny (model P w) A (f v (none, ⟨⟩)) Q' E s)
    (hq : Q (none, ⟨⟩) s) : wpAny (model P w) A (forIn vs (none, ⟨⟩) f) Q E s := by
  refine wpAny_forIn_list _ (fun left r s1 => s1 = s ∧ r = (none, ⟨⟩) ∧ ∀ v ∈ left, v ∈ vs) _ ?_ ?_ _ _ ⟨rfl, rfl, fun _ h => h⟩
  · rintro v left r s1 ⟨rfl, rfl, hs⟩
    exact hv v (hs v (.head _)) _ ⟨rfl, rfl, fun u hu => hs u (.tail _ hu)⟩
  · rintro r s1 ⟨rfl, rfl, _⟩
    exact hq
theorem class_T {k : List Key} {b : Addr} {Q : Bool → Shared → Prop} (hk : TpK P w s.heap k b) (hq : Q false s) : wpAny (model P w) A (ofAClassStatement 8 (.ref b)) Q E s := by
  have ty := hk.typeIs
  obtain ⟨o, its, n, ho, _, hd, hi⟩ := hk
  unfold ofAClassStatement
  refine wpAny_bind (wpAny_typeOf ty ?_)
  dsimp only
  simp only [show (("tuple" : String) == "tuple") = true by decide, if_true, Bool.not_true, Bool.false_eq_true, if_false]
  refine wpAny_bind (wpAny_pure ?_)
  simp only [Bool.not_true, Bool.false_eq_true, if_false]
  refine wpAny_bind (wpAny_seqItems ho hd ?_)
  dsimp only
  refine wpAny_bind ?_
  rw [← Array.forIn_toList]
  refine walk_none _ _ (fun v hv Q' q => ?_) (wpAny_pure hq)
  rw [flat_class (flat_items hi v hv)]
  exact wpAny_bind (wpAny_pure (by simp only [Bool.false_eq_true, if_false]; exact wpAny_pure q))
theorem hash_T {k : List Key} {b : Addr} {Q : Bool → Shared → Prop} (hk : TpK P w s.heap k b) (hq : ∀ r, Q r s) : wpAny (model P w) A (hashByValue 8 (.ref b)) Q E s := by
  have ty := hk.typeIs
  obtain ⟨o, its, n, ho, _, hd, hi⟩ := hk
  unfold hashByValue
  refine wpAny_bind (wpAny_specialOf ty F.slot_tuple_hash.lookup ?_)
  refine wpAny_bind (wpAny_seqItems ho hd ?_)
  refine wpAny_bind ?_
  show wpAny _ _ (forIn its _ _) _ _ s
  rw [← Array.forIn_toList]
  refine wpAny_forIn_list _ (fun left r s1 => s1 = s ∧ ∀ v ∈ left, v ∈ its.toList) _ ?_ ?_ _ _ ⟨rfl, fun _ h => h⟩
  · rintro v left r s1 ⟨rfl, hs⟩
    obtain ⟨c, e⟩ := flat_hash (flat_items hi v (hs v (.head _))) 7
    rw [e]
    refine wpAny_bind (wpAny_pure ?_)
    cases c
    · simp only [Bool.not_false, if_true]
      exact wpAny_pure (wpAny_pure (hq _))
    · simp only [Bool.not_true, Bool.false_eq_true, if_false]
      exact wpAny_pure ⟨rfl, fun u hu => hs u (.tail _ hu)⟩
  · rintro ⟨r1, r2⟩ s1 ⟨rfl, _⟩
    cases r1 <;> exact wpAny_pure (hq _)
theorem quiet_T {k : List Key} {b : Addr} {Q : Bool → Shared → Prop} (hk : TpK P w s.heap k b) {ys : List Value} (hy : ∀ y ∈ ys, ∃ c k', y = Value.ref c ∧ TpK P w s.heap k' c) (hq : Q false s) : wpAny (model P w) A (searchCouldBeSeen (.ref b) ys) Q E s := by
  unfold searchCouldBeSeen
  refine wpAny_bind ?_
  refine walk_none _ _ (fun v hv Q' q => ?_) (wpAny_pure hq)
  obtain ⟨c, k', rfl, hc⟩ := hy v hv
  dsimp only
  by_cases e : (b == c || (carriedByValue (.ref b) && carriedByValue (.ref c))) = true
  · exact wp_if_pos e (wpAny_pure q)
  · refine wp_if_neg e (wpAny_bind (wpAny_eqIsQuiet_tuple hk ?_))
    simp only [Bool.not_true, Bool.false_eq_true, if_false]
    refine wpAny_bind (wpAny_eqIsQuiet_tuple hc ?_)
    simp only [Bool.not_true, Bool.false_eq_true, if_false]
    refine wpAny_bind (class_T hk ?_)
    simp only [Bool.false_eq_true, if_false]
    refine wpAny_bind (class_T hc ?_)
    simp only [Bool.false_eq_true, if_false]
    exact wpAny_pure q
end
end PL
end

section
set_option Elab.async false
set_option linter.all false
set_option maxRecDepth 100000
/-! PL21: the search in a set of tuples -/
namespace PL
open PySem PySem.Spec PyProof.Rows L2
abbrev TRow := Addr × List Key
section
variable {P : Program} {w : World} {A : Around} {E : Value → Shared → Prop} {s : Shared}
def entT (P : Program) (w : World) (p : TRow) : Int × Value := (hsh P w p.2, Value.ref p.1)
/-- a set on the heap that holds these tuples -/
structure StT (P : Program) (w : World) (h : Heap) (a : Addr) (L : List TRow) (es : Array (Int × Value)) (ep : Nat) (t : SetTable) : Prop where
  obj : ∃ o, h.get? a = some o ∧ o.ExactSet ∧ o.data = .set es ep t
  ents : es.toList = L.map (entT P w)
  tab : TabOk t (L.map fun p => hsh P w p.2)
  unl : (L.map Prod.snd).Nodup
  keys : ∀ p ∈ L, TpK P w h p.2 p.1
  led : w.params.followText "set-order" = true ∨ t.led = true
  room : L.length * 5 < t.mask * 3
  few : L.length < 64
variable {a : Addr} {L : List TRow} {es : Array (Int × Value)} {ep : Nat} {t : SetTable}
theorem StT.sz (R : StT P w s.heap a L es ep t) : es.size = L.length := by
  rw [← Array.length_toList, R.ents, List.length_map]
theorem StT.fit (R : StT P w s.heap a L es ep t) : t.fits es.size = true := by
  have h1 : t.place.size = L.length := by rw [R.tab.sz, List.length_map]
  have h2 := R.room
  simp only [SetTable.fits, SetTable.fill, R.tab.dm, R.sz, h1, Bool.and_eq_true, beq_iff_eq, decide_eq_true_eq]
  exact ⟨trivial, by simp; omega⟩
theorem StT.get (R : StT P w s.heap a L es ep t) {i : Nat} {p : TRow} (h : L[i]? = some p) : es[i]? = some (entT P w p) := by
  rw [← Array.getElem?_toList, R.ents, List.getElem?_map, h]
  rfl
theorem StT.firm (R : StT P w s.heap a L es ep t) : t.gaveWay = false := by
  simp [SetTable.gaveWay, mask_odd R.tab.mok]
/-- the c-th step of the way of a hash -/
def stp (m : Nat) (h : Int) (c : Nat) : SetTable.Probe := nth m (runAt m (SetTable.bits h % (m + 1)) (SetTable.bits h)) c
theorem stp_j (m : Nat) (h : Int) (c : Nat) : (stp m h c).j = way m h c := rfl
theorem stp_on (m : Nat) (h : Int) (c q : Nat) : nth m (stp m h c) q = stp m h (c + q) := (nth_add m c _ q).symm
theorem stp_live (m : Nat) (h : Int) (c : Nat) : (stp m h c).dummy = none := by
  have all : ∀ (n : Nat) (p : SetTable.Probe), p.dummy = none → (nth m p n).dummy = none := fun n => by
    induction n with
    | zero => exact fun p h => h
    | succ n ih => exact fun p h => ih _ (by unfold adv; split <;> exact h)
  exact all c _ rfl
/-- what is to be found from the c-th step on: an equal one, or the K-th place free -/
theorem seek (R : StT P w s.heap a L es ep t) {x : Addr} {k : List Key} (hx : TpK P w s.heap k x) (hu : A.units < cLine) {K : Nat} (h1 : K < 10 * SetTable.turns t.mask) (h2 : way t.mask (hsh P w k) K ∉ t.place.toList)
    (h3 : ∀ c, c < K → way t.mask (hsh P w k) c ∈ t.place.toList) {Q : SetFound → Shared → Prop} (hin : k ∈ L.map Prod.snd → Q (.there none) s) (hout : k ∉ L.map Prod.snd → Q (.free (way t.mask (hsh P w k) K) false) s) :
    ∀ (f c : Nat) (st : Option SetTable.Probe), st.getD (t.probeStart (hsh P w k)) = stp t.mask (hsh P w k) c → c ≤ K → K < f + c → (∀ (i : Nat) (p : TRow), L[i]? = some p → p.2 = k → ∃ c', c ≤ c' ∧ c' < K ∧ t.place.toList[i]? = some (way t.mask (hsh P w k) c')) →
      wpAny (model P w) A (setSearchFrom a (.ref x) (hsh P w k) true f st) Q E s := by
  intro f
  induction f with
  | zero => intro c st _ h4 h5; omega
  | succ f ih =>
    intro c st e0 h4 h5 ahead
    obtain ⟨o, ho, hex, hd⟩ := R.obj
    rw [setSearchFrom_succ]
    refine wpAny_bind (wpAny_setState_of ho hd R.fit ?_)
    dsimp only
    refine wp_if_neg (by rw [R.firm]; decide) ?_
    have hashes : ∀ (i : Nat) (p : TRow), L[i]? = some p → (es[i]?.map (·.1)).getD 0 = hsh P w p.2 := fun i p hp => by rw [R.get hp]; rfl
    have steps : ∀ q, (nth t.mask (stp t.mask (hsh P w k) c) q).j = way t.mask (hsh P w k) (c + q) := fun q => by rw [stp_on, stp_j]
    have hK : c + (K - c) = K := by omega
    have look := go_spec t R.tab.ris R.tab.dm (fun i => (es[i]?.map (·.1)).getD 0) (hsh P w k) (10 * SetTable.turns t.mask) (K - c) (stp t.mask (hsh P w k) c) (stp_live _ _ _) (by omega) (fun q hq => by rw [steps]; exact h3 _ (by omega)) (by rw [steps, hK]; exact h2)
    have prb : t.probe (fun i => (es[i]?.map (·.1)).getD 0) (hsh P w k) (st.getD (t.probeStart (hsh P w k))) = SetTable.probe.go t (fun i => (es[i]?.map (·.1)).getD 0) (hsh P w k) (10 * SetTable.turns t.mask) (stp t.mask (hsh P w k) c) := by rw [e0]; rfl
    rw [prb]
    rcases look with ⟨q, i, hq, hi, hh, hno, hp⟩ | ⟨hno, hp⟩
    · rw [hp]
      simp only [stp_on, stp_j] at hi hno ⊢
      have hil : i < L.length := by
        have := (List.getElem?_eq_some_iff.mp hi).1
        rw [Array.length_toList, R.tab.sz, List.length_map] at this
        exact this
      obtain ⟨p, ep⟩ : ∃ p, L[i]? = some p := ⟨_, List.getElem?_eq_getElem hil⟩
      have pm := List.mem_of_getElem? ep
      have cont : wpAny (model P w) A (searchRest a (.ref x) (hsh P w k) true f es t (way t.mask (hsh P w k) (c + q)) i (stp t.mask (hsh P w k) (c + (q + 1)))) Q E s := by
        unfold searchRest
        rw [R.get ep]
        refine wpAny_bind (wpAny_holding (wpAny_eqBool_tuple hu (R.keys p pm) hx ?_))
        refine wpAny_bind (wpAny_setState_of ho hd R.fit ?_)
        by_cases same : p.2 = k
        · exact wp_if_pos (by simp [same]) (wpAny_pure (hin (List.mem_map.mpr ⟨p, pm, same⟩)))
        · refine wp_if_neg (by simp [same]) ?_
          have live := slot_live R.tab.ris hi
          rw [sameMem]
          dsimp only
          simp only [if_true]
          rw [live]
          dsimp only
          rw [R.get ep]
          refine wpAny_bind (wpAny_isSame_ref_self (wpAny_bind (wpAny_pure ?_)))
          simp only [if_true]
          refine wp_if_neg (by simp [same]) (ih (c + (q + 1)) _ rfl (by omega) (by omega) fun i' p' e' k' => ?_)
          obtain ⟨c', u1, u2, u3⟩ := ahead i' p' e' k'
          refine ⟨c', ?_, u2, u3⟩
          by_cases lt : c' < c + q
          · exact (hno (c' - c) i' (by omega) (by rw [show c + (c' - c) = c' by omega]; exact u3) ((hashes i' p' e').trans (by rw [k']))).elim
          · by_cases eq : c' = c + q
            · rw [eq] at u3
              have l2 := slot_live R.tab.ris u3
              rw [live] at l2
              cases l2
              rw [ep] at e'
              cases e'
              exact (same k').elim
            · omega
      by_cases led : t.led = true
      · exact wp_if_neg (by simp [led]) cont
      · refine wp_if_pos (by simp [led]) (wpAny_bind (quiet_T hx (fun y hy => ?_) (wp_if_neg (by decide) cont)))
        obtain ⟨e, he, rfl⟩ := List.mem_map.mp hy
        have he' : e ∈ es.toList := by
          have : e ∈ es ∧ e.1 = hsh P w k := by simpa using he
          simpa using this.1
        rw [R.ents] at he'
        obtain ⟨r, hr, rfl⟩ := List.mem_map.mp he'
        exact ⟨r.1, r.2, rfl, R.keys r hr⟩
    · rw [hp]
      simp only [stp_on, stp_j, hK] at hno ⊢
      refine wpAny_pure (hout fun hm => ?_)
      obtain ⟨p, pm, pk⟩ := List.mem_map.mp hm
      obtain ⟨i, hi, ei⟩ := List.getElem_of_mem pm
      have ep : L[i]? = some p := by rw [List.getElem?_eq_getElem hi, ei]
      obtain ⟨c', u1, u2, u3⟩ := ahead i p ep pk
      exact hno (c' - c) i (by omega) (by rw [show c + (c' - c) = c' by omega]; exact u3) ((hashes i p ep).trans (by rw [pk]))
theorem seek_all (R : StT P w s.heap a L es ep t) {x : Addr} {k : List Key} (hx : TpK P w s.heap k x) (hu : A.units < cLine) {Q : SetFound → Shared → Prop} (hin : k ∈ L.map Prod.snd → Q (.there none) s)
    (hout : ∀ K, k ∉ L.map Prod.snd → way t.mask (hsh P w k) K ∉ t.place.toList → (∀ c, c < K → way t.mask (hsh P w k) c ∈ t.place.toList) → Q (.free (way t.mask (hsh P w k) K) false) s) : wpAny (model P w) A (setSearch a (.ref x) (hsh P w k) true) Q E s := by
  have hr := R.room
  obtain ⟨K, h1, h2, h3⟩ := R.tab.first (by rw [List.length_map]; omega) (hsh P w k)
  have hK : K < 100000 := by
    have : 10 * SetTable.turns t.mask ≤ 1420 := by
      rcases R.tab.mok with e | e | e <;> (rw [e]; decide)
    omega
  unfold setSearch
  refine seek R hx hu h1 h2 h3 hin (fun n => hout K n h2 h3) 100000 0 none rfl (Nat.zero_le _) (by omega) fun i p ep pk => ?_
  have hi : i < t.place.toList.length := by
    rw [Array.length_toList, R.tab.sz, List.length_map]
    exact (List.getElem?_eq_some_iff.mp ep).1
  have hj := List.getElem?_eq_getElem hi
  obtain ⟨c, hc, e⟩ := R.tab.before h2 (show (L.map fun p => hsh P w p.2)[i]? = some (hsh P w k) by rw [List.getElem?_map, ep, ← pk]; rfl) hj
  exact ⟨c, Nat.zero_le _, hc, by rw [hj, e]⟩
end
end PL
end

section
set_option Elab.async false
set_option linter.all false
set_option maxRecDepth 100000
/-! PL22: a tuple more in a set of tuples -/
namespace PL
open PySem PySem.Spec PyProof.Rows L2
section
variable {P : Program} {w : World} {A : Around} {E : Value → Shared → Prop} {s : Shared}
theorem TpK.but {h h' : Heap} {k : List Key} {a b : Addr} {o : Obj} {es : Array (Int × Value)} {ep : Nat} {t : SetTable} (hb : TpK P w h k b) (ho : h.get? a = some o) (hd : o.data = .set es ep t) (hs : Heap.SameBut a h h') : TpK P w h' k b := by
  obtain ⟨u, its, n, hu, r1, r2, r3⟩ := hb
  refine ⟨u, its, n, (hs.2 b fun e => ?_).trans hu, r1, r2, r3⟩
  rw [e, ho] at hu
  cases hu
  rw [hd] at r2
  cases r2
/-- entries taken by their numbers are the entries of rows taken so -/
theorem pick_rows {L : List TRow} {es : Array (Int × Value)} (hr : es.toList = L.map (entT P w)) : ∀ {ns : List Nat}, (∀ i ∈ ns, i < L.length) →
    (ns.filterMap fun i => es[i]?) = (ns.filterMap fun i => L[i]?).map (entT P w) ∧ ((ns.filterMap fun i => L[i]?).map fun p => hsh P w p.2) = ns.map fun i => (es.map (·.1)).getD i 0
  | [], _ => ⟨rfl, rfl⟩
  | i :: ns, h => by
    have hi := h i (.head _)
    obtain ⟨u1, u2⟩ := pick_rows hr (ns := ns) fun j hj => h j (.tail _ hj)
    have e1 : L[i]? = some L[i] := List.getElem?_eq_getElem hi
    have e2 : es[i]? = some (entT P w L[i]) := by
      rw [← Array.getElem?_toList, hr, List.getElem?_map, e1]
      rfl
    have e3 : (es.map (·.1)).getD i 0 = hsh P w L[i].2 := by
      rw [Array.getD_eq_getD_getElem?, Array.getElem?_map, e2]
      rfl
    rw [List.filterMap_cons_some e2, List.filterMap_cons_some e1, List.map_cons, List.map_cons, List.map_cons, u1, u2, e3]
    exact ⟨rfl, rfl⟩
theorem some_rows (L : List TRow) (n : Nat) (h : n ≤ L.length) : ((List.range n).filterMap fun i => L[i]?) = L.take n := by
  induction n with
  | zero => rfl
  | succ n ih =>
    have hn : n < L.length := by omega
    rw [List.range_succ, List.filterMap_append, ih (by omega), List.take_succ, List.getElem?_eq_getElem hn]
    simp [List.getElem?_eq_getElem hn]
theorem all_rows (L : List TRow) : ((List.range L.length).filterMap fun i => L[i]?) = L := by rw [some_rows L _ (Nat.le_refl _), List.take_length]
variable {a : Addr} {L : List TRow} {es : Array (Int × Value)} {ep : Nat} {t : SetTable}
theorem relay {o : Obj} (ho : s.heap.get? a = some o) (hex : o.ExactSet) (hd : o.data = .set es ep t) (he : es.toList = L.map (entT P w)) (hp : t.place.size = es.size) (hm : t.dummies = #[]) (hf : es.size ≤ t.mask)
    (un : (L.map Prod.snd).Nodup) (ks : ∀ p ∈ L, TpK P w s.heap p.2 p.1) (ld : w.params.followText "set-order" = true ∨ t.led = true) (few : L.length < 64) {wanted M : Nat} (hw : SetTable.sizeAbove wanted - 1 = M) (hM : MaskOk M)
    (hb : SetTable.sizeAbove wanted ≤ 128) (hn : L.length * 5 < M * 3) {Q : Unit → Shared → Prop} (hq : ∀ h' L' es' ep' t', Heap.SameBut a s.heap h' → StT P w h' a L' es' ep' t' → L'.Perm L → Q () { s with heap := h' }) :
    wpAny (model P w) A (setRelay a wanted) Q E s := by
  have len : es.size = L.length := by rw [← Array.length_toList, he, List.length_map]
  have fit : t.fits es.size = true := by
    simp only [SetTable.fits, SetTable.fill, hm, hp, Bool.and_eq_true, beq_iff_eq, decide_eq_true_eq]
    exact ⟨trivial, by simp; omega⟩
  obtain ⟨t', ord, e1, e2, e3, e4, e5, _, _⟩ := relaid_ok t (hs := es.map (·.1)) hw hM (by rw [Array.size_map, len]; omega)
  rw [Array.size_map, len] at e2
  obtain ⟨u1, u2⟩ := pick_rows (P := P) (w := w) he (ns := ord.toList) fun i hi => List.mem_range.mp (e2.mem_iff.mp hi)
  have pm : (ord.toList.filterMap fun i => L[i]?).Perm L := by
    have := e2.filterMap fun i => L[i]?
    rwa [all_rows] at this
  rw [← u2] at e3
  generalize (ord.toList.filterMap fun i => L[i]?) = L2 at u1 e3 pm
  have hl : (ord.filterMap fun i => es[i]?).toList = L2.map (entT P w) := by rw [Array.toList_filterMap]; exact u1
  have hz : (ord.filterMap fun i => es[i]?).size = es.size := by rw [← Array.length_toList, hl, List.length_map, pm.length_eq, len]
  rw [setRelay_eq]
  refine wpAny_bind (wpAny_setState_of ho hd fit ?_)
  dsimp only
  refine wp_if_neg (by rw [sizeLine_eq]; omega) ?_
  rw [e1]
  dsimp only
  refine wpAny_bind (wp_if_neg (by rw [hz]; simp) (wpAny_pure ?_))
  dsimp only
  refine wpAny_storeSet_of ho hd ?_ (by rw [hz, len, sizeLine_eq]; omega)
  have sb : Heap.SameBut a s.heap (s.heap.update a (Obj.putSet (ord.filterMap fun i => es[i]?) t')) := Heap.SameBut.update ..
  exact hq _ L2 _ _ t' sb ⟨⟨_, store_at ho hd, ⟨hex.1, hex.2.1, hex.2.2⟩, rfl⟩, hl, e3, (pm.map Prod.snd).nodup_iff.mpr un, fun p hp => (ks p (pm.mem_iff.mp hp)).but ho hd sb, by rw [e5]; exact ld, by rw [pm.length_eq, e4]; exact hn, by rw [pm.length_eq]; exact few⟩ pm
end
end PL
end

section
set_option Elab.async false
set_option linter.all false
set_option maxRecDepth 100000
/-! PL23: a tuple more in a set of tuples -/
namespace PL
open PySem PySem.Spec PyProof.Rows L2
section
variable {P : Program} {w : World} {A : Around} {E : Value → Shared → Prop} {s : Shared}
variable {a : Addr} {L : List TRow} {es : Array (Int × Value)} {ep : Nat} {t : SetTable}
theorem tab_plain {t : SetTable} {hs : List Int} (T : TabOk t hs) (b : Bool) : TabOk (if b = true then t else { t with plain := false }) hs := by
  cases b
  · exact ⟨T.ris, T.dm, T.sz, T.mok, T.bd, T.reach⟩
  · exact T
/-- behind the search: the table with one more -/
theorem put_more {o : Obj} (ho : s.heap.get? a = some o) (hex : o.ExactSet) (hd : o.data = .set es ep t) {es1 : Array (Int × Value)} {t1 : SetTable} {L1 : List TRow} (he : es1.toList = L1.map (entT P w)) (T : TabOk t1 (L1.map fun p => hsh P w p.2)) (un : (L1.map Prod.snd).Nodup)
    (ks : ∀ p ∈ L1, TpK P w s.heap p.2 p.1) (ld : w.params.followText "set-order" = true ∨ t1.led = true) (few : L1.length < 64) (before : (L1.length - 1) * 5 < t1.mask * 3) (wide : L1.length ≤ t1.mask) {Q : Bool → Shared → Prop}
    (hq : ∀ h' L' es' ep' t', Heap.SameBut a s.heap h' → StT P w h' a L' es' ep' t' → L'.Perm L1 → Q true { s with heap := h' }) :
    wpAny (model P w) A (do
      storeSet a es1 t1
      if t1.tooFull = true then
        setRelay a (SetTable.grown L1.length)
      return true) Q E s := by
  have len : es1.size = L1.length := by rw [← Array.length_toList, he, List.length_map]
  refine wpAny_bind (wpAny_storeSet_of ho hd ?_ (by rw [len, sizeLine_eq]; omega))
  have sb : Heap.SameBut a s.heap (s.heap.update a (Obj.putSet es1 t1)) := Heap.SameBut.update ..
  have ho1 := store_at (es' := es1) (t' := t1) ho hd
  have ks1 : ∀ p ∈ L1, TpK P w (s.heap.update a (Obj.putSet es1 t1)) p.2 p.1 := fun p hp => (ks p hp).but ho hd sb
  generalize s.heap.update a (Obj.putSet es1 t1) = h1 at sb ho1 ks1 ⊢
  have sz : t1.place.size = L1.length := by rw [T.sz, List.length_map]
  have full : t1.tooFull = decide (L1.length * 5 ≥ t1.mask * 3) := by
    simp [SetTable.tooFull, SetTable.fill, T.dm, sz]
  by_cases c : L1.length * 5 ≥ t1.mask * 3
  · rw [full, if_pos (by simpa using c)]
    refine wpAny_bind ?_
    have two : (L1.length = 5 ∧ t1.mask = 7) ∨ (L1.length = 19 ∧ t1.mask = 31) := by
      rcases T.mok with e | e | e <;> omega
    have go : ∀ M, SetTable.sizeAbove (SetTable.grown L1.length) - 1 = M → MaskOk M → SetTable.sizeAbove (SetTable.grown L1.length) ≤ 128 → L1.length * 5 < M * 3 → wpAny (model P w) A (setRelay a (SetTable.grown L1.length)) (fun _ s' => wpAny (model P w) A (pure true) Q E s') E { s with heap := h1 } := fun M m1 m2 m3 m4 =>
      relay (s := { s with heap := h1 }) ho1 ⟨hex.1, hex.2.1, hex.2.2⟩ rfl he (by rw [sz, len]) T.dm (by rw [len]; exact wide) un ks1 ld few m1 m2 m3 m4 fun h2 L2 es2 ep2 t2 sb2 R2 pm => wpAny_pure (hq h2 L2 es2 ep2 t2 (sb.trans sb2) R2 pm)
    rcases two with ⟨e, _⟩ | ⟨e, _⟩
    · exact go 31 (by rw [e, size_20]) (.inr (.inl rfl)) (by rw [e, size_20]; decide) (by omega)
    · exact go 127 (by rw [e, size_76]) (.inr (.inr rfl)) (by rw [e, size_76]; decide) (by omega)
  · rw [full, if_neg (by simpa using c)]
    exact wpAny_pure (hq h1 L1 es1 (ep + 1) t1 sb ⟨⟨_, ho1, ⟨hex.1, hex.2.1, hex.2.2⟩, rfl⟩, he, T, un, ks1, ld, by omega, few⟩ (.refl _))
theorem add_one (R : StT P w s.heap a L es ep t) {x : Addr} {k : List Key} (hx : TpK P w s.heap k x) (hu : A.units < cLine) (few : L.length + 1 < 64) {Q : Bool → Shared → Prop}
    (hq : ∀ b h' L' es' ep' t', Heap.SameBut a s.heap h' → StT P w h' a L' es' ep' t' → (k ∈ L.map Prod.snd ∧ L' = L ∨ k ∉ L.map Prod.snd ∧ L'.Perm ((x, k) :: L)) → Q b { s with heap := h' }) : wpAny (model P w) A (setAddHashed a (.ref x) (hsh P w k)) Q E s := by
  obtain ⟨o, ho, hex, hd⟩ := R.obj
  have sz := R.sz
  have room := R.room
  unfold setAddHashed
  refine wpAny_holding ?_
  rw [show (100000 : Nat) = 99999 + 1 from rfl, setAddHashedIn_succ]
  refine wpAny_bind (wpAny_setState_of ho hd R.fit ?_)
  dsimp only
  refine wp_if_neg (by simp [byScan, Value.scannable]) ?_
  refine wpAny_bind (seek_all R hx hu (fun hin => ?_) fun K hno h2 h3 => ?_)
  · exact wpAny_pure (hq false s.heap L es ep t (Heap.SameBut.refl a s.heap) R (.inl ⟨hin, rfl⟩))
  · refine wpAny_bind (wpAny_setState_of ho hd R.fit ?_)
    dsimp only
    have put := R.tab.put h2 h3
    generalize hp : t.put (way t.mask (hsh P w k) K) = pt at put ⊢
    obtain ⟨t1, i⟩ := pt
    obtain ⟨q1, q2, q3, q4, q5, _⟩ := put
    dsimp only at q1 q3 q4 q5 ⊢
    rw [q1]
    generalize SetTable.below t.place (way t.mask (hsh P w k) K) = n at q2 q3 ⊢
    have pm : (L.take n ++ (x, k) :: L.drop n).Perm ((x, k) :: L) := by
      have := List.perm_middle (a := (x, k)) (l₁ := L.take n) (l₂ := L.drop n)
      rwa [List.take_append_drop] at this
    have e1 : (SetTable.insertAt es n (hsh P w k, Value.ref x)).toList = (L.take n ++ (x, k) :: L.drop n).map (entT P w) := by
      rw [SetTable.toList_insertAt, R.ents, List.map_append, List.map_cons, List.map_take, List.map_drop]
      rfl
    have e2 : (L.take n ++ (x, k) :: L.drop n).map (fun p => hsh P w p.2) = (L.map fun p => hsh P w p.2).take n ++ hsh P w k :: (L.map fun p => hsh P w p.2).drop n := by
      rw [List.map_append, List.map_cons, List.map_take, List.map_drop]
    rw [← e2] at q3
    have un : ((L.take n ++ (x, k) :: L.drop n).map Prod.snd).Nodup := (pm.map Prod.snd).nodup_iff.mpr (List.nodup_cons.mpr ⟨hno, R.unl⟩)
    have ks : ∀ p ∈ L.take n ++ (x, k) :: L.drop n, TpK P w s.heap p.2 p.1 := fun p hp => by
      rcases List.mem_cons.mp (pm.mem_iff.mp hp) with e | h
      · rw [e]; exact hx
      · exact R.keys p h
    have ln : (L.take n ++ (x, k) :: L.drop n).length = L.length + 1 := pm.length_eq
    have wide : L.length + 1 ≤ t1.mask := by
      rw [q4]
      rcases R.tab.mok with e | e | e <;> omega
    have rest : ∀ b : Bool, wpAny (model P w) A (do
        storeSet a (SetTable.insertAt es n (hsh P w k, Value.ref x)) (if b = true then t1 else { t1 with plain := false })
        if (!false && (if b = true then t1 else { t1 with plain := false }).tooFull) = true then
          setRelay a (SetTable.grown (es.size + 1))
        return true) Q E s := fun b => by
      have m1 : (if b = true then t1 else { t1 with plain := false }).mask = t1.mask := by cases b <;> rfl
      have l1 : (if b = true then t1 else { t1 with plain := false }).led = t1.led := by cases b <;> rfl
      have := put_more (A := A) (E := E) (Q := Q) ho hex hd e1 (tab_plain q3 b) un ks (by rw [l1, q5]; exact R.led) (by rw [ln]; exact few) (by rw [ln, m1, q4]; exact room) (by rw [ln, m1]; exact wide) fun h' L' es' ep' t' sb R' p' => hq true h' L' es' ep' t' sb R' (.inr ⟨hno, p'.trans pm⟩)
      rw [ln, ← sz] at this
      simpa only [Bool.not_false, Bool.true_and] using this
    by_cases pl : t1.plain = true
    · refine wp_if_pos pl (wpAny_bind (hash_T hx fun b => ?_))
      exact rest b
    · refine wp_if_neg pl (wpAny_bind (wpAny_pure ?_))
      exact rest true
end
end PL
end

section
set_option Elab.async false
set_option linter.all false
set_option maxRecDepth 100000
/-! PL24: set(xs) of a list of tuples of ints and texts -/
namespace PL
open PySem PySem.Spec PyProof.Rows L2
section
variable {P : Program} {w : World}
/-- a set that holds just the first i of these tuples -/
def HasT (P : Program) (w : World) (h : Heap) (S : Addr) (ks : List TRow) (i : Nat) : Prop := ∃ L es ep t, StT P w h S L es ep t ∧ L.length ≤ i ∧ (∀ p ∈ L, p ∈ ks) ∧ ∀ k, k ∈ L.map Prod.snd ↔ k ∈ (ks.take i).map Prod.snd
theorem HasT.at {h h' : Heap} {S : Addr} {ks : List TRow} {i : Nat} (R : HasT P w h S ks i) (hS : ∀ o, h.get? S = some o → h'.get? S = some o) (ht : ∀ p ∈ ks, TpK P w h' p.2 p.1) : HasT P w h' S ks i := by
  obtain ⟨L, es, ep, t, R, r⟩ := R
  obtain ⟨o, ho, u⟩ := R.obj
  exact ⟨L, es, ep, t, ⟨⟨o, hS o ho, u⟩, R.ents, R.tab, R.unl, fun p hp => ht p (r.2.1 p hp), R.led, R.room, R.few⟩, r⟩
theorem fresh_T {h : Heap} {S : Addr} {ks : List TRow} (hS : h.get? S = some { cls := .type "set", data := Data.set #[] 0 (SetTable.fresh 0 0 !w.params.followText "set-order") }) : HasT P w h S ks 0 := by
  refine ⟨[], #[], 0, _, ⟨⟨_, hS, ⟨rfl, rfl, rfl⟩, rfl⟩, rfl, ⟨List.Pairwise.nil, rfl, rfl, .inl rfl, by simp [SetTable.fresh], by simp⟩, List.nodup_nil, by simp, ?_, (show (0 : Nat) * 5 < 7 * 3 from by decide), (show (0 : Nat) < 64 from by decide)⟩, Nat.le_refl _, by simp, by simp⟩
  cases w.params.followText "set-order"
  · exact .inr rfl
  · exact .inl rfl
theorem TpK.same {h h' : Heap} {k : List Key} {b : Addr} (x : TpK P w h k b) (hb : ∀ b o, h.get? b = some o → h'.get? b = some o) : TpK P w h' k b := by
  obtain ⟨o, its, n, ho, r⟩ := x
  exact ⟨o, its, n, hb b o ho, r⟩
theorem loopT {A : Around} {I : Addr} {fp wr : List Addr} {G : Array GenState → Array GenState → Prop} {n : Nat} {Pv : Nat → Value → Prop} {St : Nat → Shared → Prop} {R : Result → Shared → Prop} (W : WalksS P w A.in1 I fp wr G n Pv St) (S : Addr)
    (hSf : S ∉ fp) (ks : List TRow) (hn : n = ks.length) (hb : ks.length < 63) (hval : ∀ i v, Pv i v → ∃ p, ks[i]? = some p ∧ v = .ref p.1) (h0 : Heap) (ht : ∀ p ∈ ks, TpK P w h0 p.2 p.1) (hS0 : h0.get? S = none) (hw0 : ∀ b ∈ wr, h0.get? b = none) (hu : A.in1.units < cLine) :
    ∀ (k i : Nat) (s : Shared), n - i = k → i ≤ n → St i s → (∀ b o, h0.get? b = some o → s.heap.get? b = some o) → HasT P w s.heap S ks i →
      (∀ s', Moved (S :: wr) G s s' → HasT P w s'.heap S ks n → R (.ok (.ret .none)) s') → codeAny (model P w) A (Code.builtin "set.update.loop" { pos := [.ref S, .ref I] }) R s := by
  have hSw : S ∉ wr := fun h => hSf (W.sub S h)
  have hsub : ∀ b, b ∈ wr → b ∈ S :: wr := fun b hb => List.mem_cons_of_mem S hb
  have kept : ∀ {s s' : Shared}, Moved wr G s s' → (∀ b o, h0.get? b = some o → s.heap.get? b = some o) → ∀ b o, h0.get? b = some o → s'.heap.get? b = some o := fun hm hk b o e => hm.heap b o (fun m => by rw [hw0 b m] at e; cases e) (hk b o e)
  intro k
  induction k with
  | zero =>
    intro i s hk' hi hst hk hS hR
    have e : i = n := by omega
    subst e
    refine codeAny_builtin F.entry_set_update_loop ?_
    rw [Around.under_plainId F.plain_set_update_loop]
    refine wpAny_bind (W.done s _ _ hst fun s' hm => ?_)
    exact wpAny_pure (hR s' (Moved.mono hm hsub) (hS.at (fun o e => hm.heap S o hSw e) fun p hp => (ht p hp).same (kept hm hk)))
  | succ k ih =>
    intro i s hk' hi hst hk hS hR
    have hlt : i < n := by omega
    refine codeAny_builtin F.entry_set_update_loop ?_
    rw [Around.under_plainId F.plain_set_update_loop]
    refine wpAny_bind (W.item i s _ _ hlt hst fun v s' hP hst' hm => ?_)
    obtain ⟨p, hp, rfl⟩ := hval i v hP
    have hk1 := kept hm hk
    have hx := (ht p (List.mem_of_getElem? hp)).same hk1
    obtain ⟨L, es, ep, t, R1, r1, r2, r3⟩ := hS.at (fun o e => hm.heap S o hSw e) fun p hp => (ht p hp).same hk1
    refine wpAny_bind (wpAny_holding ?_)
    refine wpAny_holding (wpAny_bind (wpAny_pyHash_tuple hu hx (add_one (s := { s' with toks := s'.toks + (p.2.length + 1) }) R1 hx hu (by omega) fun b h' L' es' ep' t' hsb R2 c => ?_)))
    refine wpAny_pure ⟨plainId_quiet F.plain_set_update_loop _, ?_⟩
    have hk2 : ∀ b o, h0.get? b = some o → h'.get? b = some o := fun b o e => (hsb.2 b fun z => by rw [z, hS0] at e; cases e).trans (hk1 b o e)
    have et : ∀ q, q ∈ (ks.take (i + 1)).map Prod.snd ↔ q ∈ (ks.take i).map Prod.snd ∨ q = p.2 := fun q => by
      rw [List.take_add_one, hp]
      simp
    have has : HasT P w h' S ks (i + 1) := by
      rcases c with ⟨c1, rfl⟩ | ⟨c1, c2⟩
      · refine ⟨_, es', ep', t', R2, by omega, r2, fun q => ?_⟩
        rw [et, ← r3]
        exact ⟨.inl, fun z => z.elim id fun e => e ▸ c1⟩
      · refine ⟨_, es', ep', t', R2, by rw [c2.length_eq, List.length_cons]; omega, fun q hq => ?_, fun q => ?_⟩
        · rcases List.mem_cons.mp (c2.mem_iff.mp hq) with e | hq
          · rw [e]; exact List.mem_of_getElem? hp
          · exact r2 q hq
        · rw [et, ← r3, (c2.map Prod.snd).mem_iff, List.map_cons, List.mem_cons]
          exact or_comm
    refine ih (i + 1) _ (by omega) hlt (W.frame (i + 1) s' h' _ hst' (Nat.le_add_right _ _) fun b hb o e => ?_) hk2 has fun s'' hm'' hS'' => ?_
    · rw [hsb.2 b fun h => hSf (h ▸ hb)]
      exact e
    · refine hR s'' (Moved.trans W.gtrans (Moved.then_heap (Moved.mono hm hsub) (Nat.le_add_right _ _) fun b o hb e => ?_) hm'') hS''
      rw [hsb.2 b fun h => hb (h ▸ List.mem_cons_self)]
      exact e
theorem call_setT {A : Around} {E : Value → Shared → Prop} {s : Shared} {l : Addr} {items : Array Value} {ks : List TRow} {Q : Value → Shared → Prop} (hh : A.handled = none) (hl : s.heap.IsList l items)
    (hk : ∀ (i : Nat) v, items[i]? = some v → ∃ p, ks[i]? = some p ∧ v = .ref p.1) (hn : items.size = ks.length) (hb : ks.length < 63) (ht : ∀ p ∈ ks, TpK P w s.heap p.2 p.1) (hu : A.units + 3 < cLine)
    (h : ∀ (h' : Heap) (tk : Nat), HasT P w h' s.heap.objs.size ks ks.length → (∀ (b : Nat) (o : Obj), b < s.heap.objs.size → s.heap.get? b = some o → h'.get? b = some o) → Q (.ref s.heap.objs.size) { s with heap := h', toks := tk }) :
    wpAny (model P w) A (call (.type "set") [.ref l]) Q E s := by
  obtain ⟨c, tl, hmro⟩ := F.called_set.mro
  have hmade := F.called_set.made
  have hsub := F.called_set.sub
  refine wpAny_call (codeAny_of_tree ?_)
  refine wpAny_pure ⟨Code.quiet_builtin _ (by decide +kernel), codeAny_builtin F.entry_type_call ?_⟩
  rw [Around.under_plain (weight_type_call_type "set" [.ref l] []) rfl]
  have h1 := F.called_set.notType
  have h2 := F.called_set.canCreate
  have hct := F.typeCall_set_1 (.ref l)
  unfold Builtin.«type.__call__»
  refine wpAny_ite_false rfl ?_
  try dsimp only
  refine wpAny_ite_false h2 ?_
  try dsimp only
  refine wpAny_bind (wpAny_of_eq hct ?_)
  try dsimp only
  refine wpAny_bind (wpAny_of_eq hmro ?_)
  try dsimp only
  refine wpAny_ite_false rfl ?_
  try dsimp only
  refine wpAny_bind (wpAny_of_eq hmade ?_)
  try dsimp only
  refine wpAny_bind (wpAny_pure ?_)
  try dsimp only
  refine wpAny_bind (wpAny_holding (wpAny_call (codeAny_mono (L2.code_set_led1 (E := E) (.ref l) (Q₁ := fun v s' => v = .ref s.heap.objs.size ∧ s' = _) ⟨rfl, rfl⟩) fun r s₁ hr => ?_)))
  match r, hr with
  | .error e, hr => exact hr
  | .ok .next, hr => exact hr.elim
  | .ok .brk, hr => exact hr.elim
  | .ok .cont, hr => exact hr.elim
  | .ok (.ret v), hr =>
    obtain ⟨rfl, rfl⟩ := hr
    have hS := Heap.get?_push_size s.heap (o := { cls := .type "set", data := Data.set #[] 0 (SetTable.fresh 0 0 !w.params.followText "set-order") }) rfl
    have hT : Shared.TypeIs { s with heap := s.heap.push { cls := .type "set", data := Data.set #[] 0 (SetTable.fresh 0 0 !w.params.followText "set-order") } } (.ref s.heap.objs.size) "set" := ⟨_, hS, rfl⟩
    have hli := F.called_set.init.lookup
    have hbi := F.called_set.init.bind (.ref s.heap.objs.size)
    refine wpAny_bind (wpAny_isInstance hT hsub ?_)
    refine wpAny_ite_false rfl ?_
    refine wpAny_bind (wpAny_holding ?_)
    unfold callSpecial?
    refine wpAny_bind (wpAny_specialOf hT hli (wpAny_holding (wpAny_bind (wpAny_of_eq hbi (wpAny_bind (wpAny_call (codeAny_mono (codeAny_call_builtin (R := wants (fun v s' => v = Value.none ∧ ∃ h' tk, s' = { s with heap := h', toks := tk } ∧ HasT P w h' s.heap.objs.size ks ks.length ∧ ∀ (b : Nat) (o : Obj), b < s.heap.objs.size → s.heap.get? b = some o → h'.get? b = some o) E) F.called_set.init.plain F.entry_set_init (check_set_init_1 hT ?_)) fun r₂ s₂ hr₂ => ?_)))))))
    · obtain ⟨⟨ocls, odict, odata, oslots⟩, hol, hcl, nl, hdl⟩ := hl
      dsimp only at hcl hdl
      subst hcl
      subst hdl
      have hol' := Heap.get?_push_of_some { cls := .type "set", data := Data.set #[] 0 (SetTable.fresh 0 0 !w.params.followText "set-order") } hol
      have hsls := F.sub_list_set
      have hslf := F.sub_list_frozenset
      have hl1 : Heap.IsList (s.heap.push { cls := .type "set", data := Data.set #[] 0 (SetTable.fresh 0 0 !w.params.followText "set-order") }) l items := ⟨_, hol', rfl, nl, rfl⟩
      unfold Builtin.«set.__init__»
      refine wpAny_bind ?_
      refine wpAny_ite_true rfl ?_
      refine wpAny_pure ?_
      dsimp only [List.cons_append, List.nil_append]
      refine wpAny_bind ?_
      unfold typeNameOfCut
      refine wpAny_bind ?_
      refine wpAny_bind (wpAny_typeOf hT ?_)
      refine wpAny_ite_false rfl ?_
      refine wpAny_pure ?_
      refine wpAny_pure ?_
      refine wpAny_bind ?_
      unfold checkCount
      refine wpAny_ite_false rfl ?_
      refine wpAny_ite_false rfl ?_
      refine wpAny_ite_false rfl ?_
      refine wpAny_pure ?_
      refine wpAny_bind ?_
      refine wpAny_pure ?_
      refine wpAny_bind ?_
      unfold setUsed
      refine wpAny_bind (wpAny_setState_of hS rfl rfl ?_)
      refine wpAny_pure ?_
      refine wpAny_ite_false rfl ?_
      refine wpAny_bind ?_
      unfold Builtin.Frozenset.updateFrom
      have hTl : Shared.TypeIs { s with heap := s.heap.push { cls := .type "set", data := Data.set #[] 0 (SetTable.fresh 0 0 !w.params.followText "set-order") } } (.ref l) "list" := ⟨_, hol', rfl⟩
      refine wpAny_bind ?_
      unfold Builtin.Frozenset.isAnySet
      refine wpAny_bind (wpAny_isInstance hTl hsls ?_)
      refine wpAny_isInstance hTl hslf ?_
      refine wpAny_ite_false rfl ?_
      refine wpAny_bind (wpAny_typeOf hTl ?_)
      refine wpAny_ite_false rfl ?_
      refine wpAny_bind (wpAny_pyIter_list hl1 ?_)
      refine wpAny_bind (wpAny_runValue ?_)
      have hlS := Heap.lt_size hol
      have hSf : s.heap.objs.size ∉ [(s.heap.push { cls := .type "set", data := Data.set #[] 0 (SetTable.fresh 0 0 !w.params.followText "set-order") }).objs.size, l] := by
        rw [Heap.size_push]
        simp only [List.mem_cons, List.not_mem_nil, or_false, not_or]
        exact ⟨Nat.ne_of_lt (Nat.lt_succ_self _), Nat.ne_of_gt hlS⟩
      have hneI : l ≠ (s.heap.push { cls := .type "set", data := Data.set #[] 0 (SetTable.fresh 0 0 !w.params.followText "set-order") }).objs.size := by
        rw [Heap.size_push]
        exact Nat.ne_of_lt (Nat.lt_succ_of_lt hlS)
      have no : ∀ b, s.heap.objs.size ≤ b → s.heap.get? b = none := fun b hb => by
        cases e : s.heap.get? b with
        | none => rfl
        | some o => exact absurd (Heap.lt_size e) (Nat.not_lt.mpr hb)
      refine loopT (Walks.toS (Walks.list (by exact hh) _ l hneI items)) s.heap.objs.size hSf ks hn hb (fun i v hv => hk i v hv) s.heap ht (no _ (Nat.le_refl _)) (fun b hb => no b (by rw [List.mem_singleton.mp hb, Heap.size_push]; exact Nat.le_succ _)) (by show A.units + 1 + 1 + 1 < cLine; omega) items.size 0 _ (by omega) (Nat.zero_le _) ⟨⟨_, Heap.get?_push_size _ rfl, rfl, rfl⟩, Heap.IsList.push hl1 _⟩ (fun b o e => Heap.get?_push_of_some _ (Heap.get?_push_of_some _ e)) ?_ fun s' hm hS' => ?_
      · exact fresh_T (Heap.get?_push_of_some { cls := .type "list_iterator", data := Data.fields #[.ref l, .int 0 0] } hS)
      · obtain ⟨h', g', d', tk', os'⟩ := s'
        have eg := hm.gens
        have ed := hm.drawn
        have eo := hm.os
        dsimp only at eg ed eo
        subst eg
        subst ed
        subst eo
        refine wpAny_pure (wpAny_pure ⟨rfl, h', tk', rfl, by rw [← hn]; exact hS', fun b o hb' e => ?_⟩)
        refine hm.heap b o ?_ (Heap.get?_push_of_some _ (Heap.get?_push_of_some _ e))
        rw [Heap.size_push]
        simp only [List.mem_cons, List.not_mem_nil, or_false, not_or]
        exact ⟨Nat.ne_of_lt hb', Nat.ne_of_lt (Nat.lt_succ_of_lt hb')⟩
    · match r₂, hr₂ with
      | .error e, hr => exact hr
      | .ok .next, hr => exact hr.elim
      | .ok .brk, hr => exact hr.elim
      | .ok .cont, hr => exact hr.elim
      | .ok (.ret v₂), hr =>
        obtain ⟨rfl, h', tk, rfl, hS', hk'⟩ := hr
        exact wpAny_pure (wpAny_ite_false rfl (wpAny_pure (h h' tk hS' hk')))
end
end PL
end

section
set_option Elab.async false
set_option linter.all false
set_option maxRecDepth 100000
/-! PL25: len(set(xs)) of a list of tuples of ints and texts -/
namespace PL
open PySem PySem.Spec PyProof.Rows L2
section
variable {X : Cx}
def setTO (p : Addr) (n : Nat) : HO := .ext fun h => ∃ o es ep t, h.get? p = some o ∧ o.ExactSet ∧ o.data = .set es ep t ∧ t.fits es.size = true ∧ es.size = n ∧ n < 64
def rSetT (X : Cx) : List V → Hp → VK → Prop := fun vs H Q => ∃ a, ∃ ks : List TRow, vs = [.ref a] ∧ SqL X.K H a (ks.map fun p => V.ref p.1) ∧ (∀ p ∈ ks, H p.1 = some (.tup (p.2.map kV))) ∧ ks.length < 63 ∧
  ∀ q, H q = none → Q (.ref q) (upd H q (setTO q (ded (ks.map Prod.snd)).length))
theorem vals_rows : ∀ {ks : List TRow} {its : List Value}, Vals (ks.map fun p => V.ref p.1) its → ∀ (i : Nat) v, its[i]? = some v → ∃ p, ks[i]? = some p ∧ v = Value.ref p.1
  | [], _, .nil, i, v, e => by simp at e
  | k :: ks, _, .cons h t, 0, v, e => by
    simp at e
    subst e
    cases h
    exact ⟨k, rfl, rfl⟩
  | k :: ks, _, .cons h t, i + 1, v, e => by
    obtain ⟨k', h1, h2⟩ := vals_rows t i v (by simpa using e)
    exact ⟨k', by simpa using h1, h2⟩
theorem callR_setT (hc : X.calm = true) (hu : X.A.units + 64 < cLine) : CallR X (.type "set") (rSetT X) := by
  intro pins s σ H vs us Q I rv h
  obtain ⟨a, ks, rfl, hs, ht, hb, q⟩ := h
  cases rv with
  | cons r1 r2 =>
    cases r2
    cases r1
    obtain ⟨its, hv, pl, ll⟩ := I.list hs
    have hlen : its.toArray.size = ks.length := by
      have := Paired.len hv
      simpa using this.symm
    refine call_setT (ks := ks) (I.ok.hd hc) (PlainL.isList pl) (fun i v e => vals_rows hv i v (by simpa using e)) hlen hb (fun p hp => key_of I.hok (ht p hp)) (by omega) fun h' tk R kp => ?_
    have kp' : ∀ (b : Addr) (o : Obj), s.heap.get? b = some o → h'.get? b = some o := fun b o e => kp b o (Heap.lt_size e) e
    obtain ⟨L, es, ep, t, R, r1, r2, r3⟩ := R
    have R' : StT X.prog X.w ({ s with heap := h' } : Shared).heap s.heap.objs.size L es ep t := R
    obtain ⟨o, ho, hex, hd⟩ := R.obj
    have n : es.size = (ded (ks.map Prod.snd)).length := by
      rw [R'.sz, ← List.length_map (f := Prod.snd) (as := L)]
      refine List.Perm.length_eq ((List.perm_ext_iff_of_nodup R.unl nodup_ded).mpr fun k => ?_)
      rw [r3, List.take_length, mem_ded]
    refine ⟨.ref s.heap.objs.size, _, I.laid kp' (Nat.le_refl _) ?_, rfl, q _ I.fresh⟩
    unfold ObjOk setTO
    refine ⟨⟨o, es, ep, t, ho, hex, hd, R'.fit, n, ?_⟩, ⟨o, ho⟩, fun h1 h2 z hk => ?_⟩
    · have := R.few
      rw [← n, R'.sz]
      exact this
    · obtain ⟨o, es, ep, t, z1, z2⟩ := z
      exact ⟨o, es, ep, t, hk o z1, z2⟩
def rLenT : List V → Hp → VK → Prop := fun vs H Q => ∃ p n, vs = [.ref p] ∧ H p = some (setTO p n) ∧ Q (.int n) H
theorem callR_lenT : CallR X (.builtin "len") rLenT := by
  intro pins s σ H vs us Q I rv h
  obtain ⟨p, n, rfl, hs, q⟩ := h
  cases rv with
  | cons r1 r2 =>
    cases r2
    cases r1
    have z := I.hok p _ hs
    unfold ObjOk setTO at z
    obtain ⟨⟨o, es, ep, t, ho, hex, hd, hf, hn, hl⟩, _⟩ := z
    refine call_len_set ho hex hd hf (by omega) ?_
    rw [hn]
    exact ⟨.int _, H, I.kept (fun _ _ e => e), ⟨_, rfl⟩, q⟩
def keyLs : List D → Option (List (List Key))
  | [] => some []
  | .tup ds :: xs => (keysD ds).bind fun k => (keyLs xs).map (k :: ·)
  | _ => none
theorem keysD_eq {K : PySem.W.Frag} {mg : Str → Option Value} {r : List Addr} {H : Hp} : ∀ {ds : List D} {vs : List V} {ks : List Key}, RepL K mg r H ds vs → keysD ds = some ks → vs = ks.map kV
  | [], _, _, q, h => by cases q; cases h; rfl
  | d :: ds, _, _, q, h => by
    cases q with
    | cons q1 q2 =>
      obtain ⟨k, e1, h⟩ := Option.bind_eq_some_iff.mp h
      obtain ⟨ks, e2, e3⟩ := Option.map_eq_some_iff.mp h
      subst e3
      rw [List.map_cons, ← keyD_ok q1 e1, keysD_eq q2 e2]
theorem keyLs_ok {K : PySem.W.Frag} {mg : Str → Option Value} {r : List Addr} {H : Hp} : ∀ {xs : List D} {vs : List V} {kss : List (List Key)}, RepL K mg r H xs vs → keyLs xs = some kss → ∃ ks : List TRow, vs = (ks.map fun p => V.ref p.1) ∧ ks.map Prod.snd = kss ∧ ∀ p ∈ ks, H p.1 = some (.tup (p.2.map kV))
  | [], _, _, q, h => by cases q; cases h; exact ⟨[], rfl, rfl, by simp⟩
  | d :: xs, _, _, q, h => by
    cases q with
    | cons q1 q2 =>
      cases d with
      | tup ds =>
        obtain ⟨k, e1, h⟩ := Option.bind_eq_some_iff.mp (show (keysD ds).bind (fun k => (keyLs xs).map (k :: ·)) = _ from h)
        obtain ⟨kss, e2, e3⟩ := Option.map_eq_some_iff.mp h
        subst e3
        obtain ⟨ks, u1, u2, u3⟩ := keyLs_ok q2 e2
        cases q1 with
        | tup t l =>
          rename_i a ws
          refine ⟨(a, k) :: ks, by rw [u1]; rfl, by rw [List.map_cons, u2], fun p hp => ?_⟩
          rcases List.mem_cons.mp hp with rfl | hp
          · rw [← keysD_eq l e1]
            exact t
          · exact u3 p hp
      | _ => cases h
def mLenSetT (m : ME) : ME := fun env S => (m env S).bind fun p => match p.1 with
  | .ref n => (seqAt n p.2).bind fun xs => (keyLs xs).bind fun ks => if ks.length < 63 then some (.int (ded ks).length, p.2) else none
  | _ => none
theorem cE_lenSetT {e : Expr} {m : ME} {p p2 pos pos2 : Pos} (hcalm : X.calm = true) (hu : X.A.units + 64 < cLine) (hm : X.mg "len" = none) (hm2 : X.mg "set" = none) (he : CE X e m) (hg : Gl X "len" := by rfl) (hg2 : Gl X "set" := by rfl) (h : nS e = true := by rfl) :
    CE X (.Call (.Name "len" p) [.Call (.Name "set" p2) [e] [] pos2] [] pos) (mLenSetT m) := by
  refine ⟨?_⟩
  intro env S d S' h0 r σ H Q A hq
  obtain ⟨⟨d0, S1⟩, e1, h0⟩ := Option.bind_eq_some_iff.mp h0
  have st : ∀ {e : Expr}, nS e = true → starEach [e] X.env = (false, eval e X.env) :: starEach [] X.env := fun h => star_cons h
  refine tm_of (pe_callB callR_lenT hg hm (by rfl) (pa_cons (pe_callTy (callR_setT hcalm hu) hg2 hm2 (by rfl) (pa_cons pe_tm pa_nil (st h)) (by decide) (by decide) (st h) (star_plain rfl)) pa_nil (st rfl)) (by decide) (by decide) (st rfl) (star_plain rfl)) ?_
  refine he env S d0 S1 e1 r σ H _ A fun r1 H1 v s1 l1 q1 => ?_
  dsimp only at h0
  split at h0
  case h_2 => cases h0
  obtain ⟨xs, e3, h0⟩ := Option.bind_eq_some_iff.mp h0
  obtain ⟨kss, e4, h0⟩ := Option.bind_eq_some_iff.mp h0
  split at h0
  case isFalse => cases h0
  rename_i hb
  cases h0
  cases q1 with
  | ref ea =>
    obtain ⟨vs, h1, q⟩ := seqAt_ok (X := X) s1 ea e3
    obtain ⟨ks, u1, u2, u3⟩ := keyLs_ok q e4
    subst u1
    refine ⟨_, ks, rfl, h1, u3, by rw [← List.length_map (f := Prod.snd), u2]; exact hb, fun q' np => ?_⟩
    refine ⟨q', _, rfl, upd_same, ?_⟩
    rw [u2]
    exact hq r1 _ _ (s1.junk np) (l1.trans (lat_junk np)) (.int _)
/-- of texts, or of tuples -/
def mLenSetX (m : ME) : ME := mOr (mOfSet gLenS m) (mLenSetT m)
theorem kLenSetX {e : Expr} {m : ME} {p p2 pos pos2 : Pos} (hcalm : X.calm = true) (hu : X.A.units + 64 < cLine) (hm : X.mg "len" = none) (hm2 : X.mg "set" = none) (he : CE X e m) (hg : Gl X "len" := by rfl) (hg2 : Gl X "set" := by rfl) (h : nS e = true := by rfl) :
    CE X (.Call (.Name "len" p) [.Call (.Name "set" p2) [e] [] pos2] [] pos) (mLenSetX m) := CE.or (cE_lenSet hcalm hm hm2 he hg hg2 h) (cE_lenSetT hcalm hu hm hm2 he hg hg2 h)
end
end PL
end

section
set_option Elab.async false
set_option linter.all false
set_option maxRecDepth 100000
/-! PL26: list(d.values()) -/
namespace PL
open PySem PySem.Spec PyProof.Rows L2
section
variable {X : Cx}
/-- what a dict holds, as it stands -/
def DVals (H : Hp) (a : Addr) (vals : List V) : Prop := (∃ kvs, H a = some (.dK kvs) ∧ vals = kvs.map (·.2)) ∨ ∃ kvs, H a = some (.dT kvs) ∧ vals = kvs.map (·.2)
theorem get_len {α β : Type} {R : α → β → Prop} : ∀ {xs : List α} {ys : List β}, Paired R xs ys → ∀ {i : Nat} {y : β}, ys[i]? = some y → ∃ x, xs[i]? = some x ∧ R x y
  | _, _, .nil, i, y, e => by simp at e
  | _, _, .cons h t, 0, y, e => by simp at e; subst e; exact ⟨_, rfl, h⟩
  | _, _, .cons h t, i + 1, y, e => by
    obtain ⟨x, e1, e2⟩ := get_len t (by simpa using e)
    exact ⟨x, by simpa using e1, e2⟩
theorem raw_vals {pins : List (Addr × Obj)} {σ : L2.St} {H : Hp} {s : Shared} {a : Addr} {vals : List V} (I : L2.Inv X pins σ H s) (h : DVals H a vals) :
    (a == sysModules) = false ∧ vals.length ≤ sizeLine ∧ ∃ es ep, s.heap.DictRaw a es ep ∧ es.size = vals.length ∧ ∀ i (hi : i < es.size), ∃ v, vals[i]? = some v ∧ RelV v es[i].val := by
  rcases h with ⟨kvs, e, rfl⟩ | ⟨kvs, e, rfl⟩
  · obtain ⟨z, hs, vs, kv, d⟩ := dk_of I.hok e
    obtain ⟨es, ep, r, n, g⟩ := d.raw
    have l : kvs.length = vs.length := Paired.length kv
    refine ⟨hs, by rw [List.length_map]; exact z, es, ep, r, by rw [List.length_map, n, l], fun i hi => ?_⟩
    have hv : vs[i]? = some vs[i] := List.getElem?_eq_getElem (by omega)
    obtain ⟨x, e1, e2, e3⟩ := get_len kv hv
    exact ⟨x.2, by rw [List.getElem?_map, e1]; rfl, by rw [(g i hi _ _ hv).2]; exact e3⟩
  · obtain ⟨z, hs, xs, kt, d⟩ := dt_of I.hok e
    obtain ⟨es, ep, r, n, g⟩ := d.raw
    have l : kvs.length = xs.length := Paired.length kt
    refine ⟨hs, by rw [List.length_map]; exact z, es, ep, r, by rw [List.length_map, n, l], fun i hi => ?_⟩
    obtain ⟨y, e1, _, e3, _⟩ := g i hi
    obtain ⟨x, u1, _, _, u4⟩ := get_len kt e1
    exact ⟨x.2, by rw [List.getElem?_map, u1]; rfl, by rw [e3]; exact u4⟩
theorem vals_get : ∀ {vs : List V} {us : List Value}, us.length = vs.length → (∀ (i : Nat) (u : Value), us[i]? = some u → ∃ v, vs[i]? = some v ∧ RelV v u) → Vals vs us
  | [], [], _, _ => .nil
  | [], u :: us, h, _ => by simp at h
  | v :: vs, [], h, _ => by simp at h
  | v :: vs, u :: us, h, g => by
    obtain ⟨v', e, r⟩ := g 0 u rfl
    simp at e
    subst e
    exact .cons r (vals_get (by simpa using h) fun i u' e => g (i + 1) u' (by simpa using e))
def valuesO (p d : Addr) : HO := .ext fun h => h.IsValuesView p d
def rValuesX : V → List V → Hp → VK → Prop := fun x xs H Q => ∃ (a : Addr) (vals : List V), x = .ref a ∧ xs = [] ∧ DVals H a vals ∧ ∀ p, H p = none → Q (.ref p) (upd H p (valuesO p a))
theorem mtR_values : MtR X "dict.values" rValuesX := by
  intro pins s σ H x xs v us Q I rx rxs h
  obtain ⟨a, vals, rfl, rfl, ha, q⟩ := h
  cases rx
  cases rxs
  obtain ⟨hs, _, es, ep, r, _⟩ := raw_vals I ha
  refine call_meetsIn F.slot_dict_values r.typeIs F.entry_dict_values (F.args_dict_values_1 _) (meets_dict_values_raw a hs) ⟨⟨es, ep, r⟩, ?_⟩
  have g : (s.heap.push { cls := .type "dict_values", data := .fields #[.ref a] }).get? s.heap.objs.size = some { cls := .type "dict_values", data := .fields #[.ref a] } := Heap.get?_push_size _ rfl
  refine ⟨.ref s.heap.objs.size, upd H s.heap.objs.size (valuesO s.heap.objs.size a), I.laid (t' := s.toks) (fun b u e => Heap.get?_push_of_some _ e) (Nat.le_refl _) ?_, rfl, q _ I.fresh⟩
  exact ⟨⟨_, g, rfl, rfl⟩, ⟨_, g⟩, fun h1 h2 z k => let ⟨o, ho, r⟩ := z; ⟨o, k o ho, r⟩⟩
def rListVals : List V → Hp → VK → Prop := fun vs H Q => ∃ (p a : Addr) (vals : List V), vs = [.ref p] ∧ H p = some (valuesO p a) ∧ DVals H a vals ∧ ∀ l, H l = none → Q (.ref l) (upd H l (.lst vals))
theorem callR_listVals (hc : X.calm = true) : CallR X (.type "list") rListVals := by
  intro pins s σ H vs us Q I rv h
  obtain ⟨p, a, vals, rfl, hp, ha, q⟩ := h
  cases rv with
  | cons r1 r2 =>
    cases r2
    cases r1
    obtain ⟨hs, hz, es, ep, r, n, g⟩ := raw_vals I ha
    have view : s.heap.IsValuesView p a := (show ObjOk X.prog X.w H s.heap p (valuesO p a) from I.hok p _ hp).1
    refine PySem.W.kdl_call (KdlSrc.rawValues (es := es) (ep := ep)) (I.ok.hd hc) ⟨view, r⟩ (by omega) fun h' tk acc c kp hl hi => ?_
    refine ⟨.ref s.heap.objs.size, _, I.laid (t' := tk) kp (Nat.le_refl _) ?_, rfl, q _ I.fresh⟩
    refine ⟨hz, acc.toList, c, ?_, by rw [Array.toArray_toList]; exact hl⟩
    refine vals_get (by rw [Array.length_toList, hi.1, n]) fun i u e => ?_
    obtain ⟨hj, rfl⟩ := hi.2 i u (by rw [← Array.getElem?_toList]; exact e)
    exact g i hj
end
end PL
end

section
set_option Elab.async false
set_option linter.all false
set_option maxRecDepth 100000
/-! PL27: list(d.values()) in the layer -/
namespace PL
open PySem PySem.Spec PyProof.Rows L2
section
variable {X : Cx}
theorem repVals {K : PySem.W.Frag} {mg : Str → Option Value} {r : List Addr} {H : Hp} {k : Type} : ∀ {kvs : List (k × D)} {ws : List (k × V)}, RepKs K mg r H kvs ws → RepL K mg r H (kvs.map (·.2)) (ws.map (·.2))
  | _, _, .nil => .nil
  | _, _, .cons ⟨_, q⟩ t => .cons q (repVals t)
def dictVals : Ob → Option (List D)
  | .dK kvs => some (kvs.map (·.2))
  | .dT kvs => some (kvs.map (·.2))
  | _ => none
theorem dictVals_ok {r : List Addr} {S : Sto} {H : Hp} {n : Nat} {a : Addr} {o : Ob} {xs : List D} (s : Sim X.K X.mg r S H) (ea : r[n]? = some a) (eo : S[n]? = some o) (h : dictVals o = some xs) : ∃ vals, DVals H a vals ∧ RepL X.K X.mg r H xs vals := by
  have q := s.ob n o a eo ea
  cases o with
  | dK kvs =>
    cases h
    obtain ⟨ws, e, z⟩ := q
    exact ⟨_, .inl ⟨ws, e, rfl⟩, repVals z⟩
  | dT kvs =>
    cases h
    obtain ⟨ws, e, z⟩ := q
    exact ⟨_, .inr ⟨ws, e, rfl⟩, repVals z⟩
  | _ => cases h
theorem DVals.junk {H : Hp} {a p : Addr} {vals : List V} {u : HO} (h : DVals H a vals) (np : H p = none) : DVals (upd H p u) a vals := by
  have ne : ∀ {z}, H a = some z → upd H p u a = some z := fun e => by rw [upd_ne (ne_of_none e np)]; exact e
  rcases h with ⟨kvs, e, r⟩ | ⟨kvs, e, r⟩
  · exact .inl ⟨kvs, ne e, r⟩
  · exact .inr ⟨kvs, ne e, r⟩
def mListVals (m : ME) : ME := fun env S => (m env S).bind fun p => match p.1 with
  | .ref n => (p.2[n]?).bind fun o => (dictVals o).bind fun xs => newL xs p.2
  | _ => none
theorem cE_listVals {e : Expr} {m : ME} {p pos apos cpos : Pos} (hc : X.calm = true) (hm : X.mg "list" = none) (he : CE X e m) (hg : Gl X "list" := by rfl) (hb : attributeBase e "values" X.env (eval e X.env) = eval e X.env := by rfl) (hl : (apos.endLine == cpos.line) = true := by rfl) :
    CE X (.Call (.Name "list" p) [.Call (.Attribute e "values" apos) [] [] cpos] [] pos) (mListVals m) := by
  refine ⟨?_⟩
  intro env S d S' h0 r σ H Q A hq
  obtain ⟨⟨d0, S1⟩, e1, h0⟩ := Option.bind_eq_some_iff.mp h0
  refine tm_of (pe_callTy (callR_listVals hc) hg hm (by rfl) (pa_cons (pe_bm0 F.plainAttrs_dict F.slot_dict_values F.type_dict_values mtR_values pe_tm hb hl) pa_nil (star_cons rfl)) (by decide) (by decide) (star_cons rfl) (star_plain rfl)) ?_
  refine he env S d0 S1 e1 r σ H _ A fun r1 H1 v s1 l1 q1 => ?_
  dsimp only at h0
  split at h0
  case h_2 => cases h0
  rename_i _ n
  obtain ⟨o, e2, h0⟩ := Option.bind_eq_some_iff.mp h0
  obtain ⟨xs, e3, h0⟩ := Option.bind_eq_some_iff.mp h0
  cases q1 with
  | ref ea =>
    rename_i adr
    obtain ⟨vals, dv, q⟩ := dictVals_ok s1 ea e2 e3
    have ty : tyV X.K "dict" (.ref _) H1 := dIs_ok (X := X) (d := .ref n) s1 (.ref ea) (by
      cases o with
      | dK kvs => simp [dIs, e2]
      | dT kvs => simp [dIs, e2]
      | _ => cases e3)
    refine ⟨ty, _, vals, rfl, rfl, dv, fun q' np => ?_⟩
    have lj := lat_junk (r := r1) (u := valuesO q' adr) np
    refine ⟨q', _, vals, rfl, upd_same, dv.junk np, fun l nl => ?_⟩
    obtain ⟨a1, a2, a3⟩ := newL_ok (X := X) (s1.junk np) nl (q.lat lj) h0
    exact hq _ _ _ a1 (l1.trans (lj.trans a2)) a3
end
end PL
end

section
set_option Elab.async false
set_option linter.all false
set_option maxRecDepth 100000
/-! PL28: dict(pairs) with tuples as keys -/
namespace PL
open PySem PySem.Spec PyProof.Rows L2
/-- a pair's place, its key's place, the key, the value -/
abbrev DRow := Addr × Addr × List Key × V
section
variable {X : Cx}
def putAllK {k : Type} [DecidableEq k] (kvs more : List (k × V)) : List (k × V) := more.foldl (fun acc kv => putK acc kv.1 kv.2) kvs
theorem putAllK_len {k : Type} [DecidableEq k] : ∀ (more kvs : List (k × V)), (putAllK kvs more).length ≤ kvs.length + more.length
  | [], kvs => Nat.le_refl _
  | kv :: more, kvs => by
    have h := putAllK_len more (putK kvs kv.1 kv.2)
    have h2 : (putK kvs kv.1 kv.2).length ≤ kvs.length + 1 := by
      unfold putK
      split <;> simp
    unfold putAllK at h ⊢
    rw [List.foldl_cons, List.length_cons]
    omega
def rDictT (X : Cx) : List V → Hp → VK → Prop := fun vs H Q => ∃ a, ∃ rows : List DRow, vs = [.ref a] ∧ SqL X.K H a (rows.map fun r => V.ref r.1) ∧ (∀ r ∈ rows, H r.1 = some (.tup [.ref r.2.1, r.2.2.2]) ∧ H r.2.1 = some (.tup (r.2.2.1.map kV))) ∧ rows.length ≤ 10000 ∧
  ∀ p, H p = none → Q (.ref p) (upd H p (.dT (putAllK [] (rows.map fun r => (r.2.2.1, r.2.2.2)))))
theorem vals_refs2 : ∀ {rows : List DRow} {us : List Value}, Vals (rows.map fun r => V.ref r.1) us → us = rows.map fun r => Value.ref r.1
  | [], us, h => by cases h; rfl
  | r :: rows, us, h => by
    cases h with
    | cons h1 h2 =>
      cases h1
      rw [List.map_cons, ← vals_refs2 h2]
theorem row_vals {pins : List (Addr × Obj)} {σ : L2.St} {H : Hp} {s : Shared} (I : L2.Inv X pins σ H s) : ∀ {rows : List DRow}, (∀ r ∈ rows, H r.1 = some (.tup [.ref r.2.1, r.2.2.2]) ∧ H r.2.1 = some (.tup (r.2.2.1.map kV))) →
    ∃ us : List Value, us.length = rows.length ∧ ∀ (j : Nat) (r : DRow), rows[j]? = some r → ∃ u, us[j]? = some u ∧ RelV r.2.2.2 u ∧ IsTup s.heap r.1 #[Value.ref r.2.1, u]
  | [], _ => ⟨[], rfl, fun j r e => by simp at e⟩
  | r :: rows, h => by
    obtain ⟨us, l, g⟩ := row_vals I (rows := rows) fun r hr => h r (.tail _ hr)
    obtain ⟨_, its, rv, ht⟩ := (show ObjOk X.prog X.w H s.heap r.1 (.tup [.ref r.2.1, r.2.2.2]) from I.hok r.1 _ (h r (.head _)).1)
    cases rv with
    | cons r1 rv =>
      cases rv with
      | cons r2 rv =>
        cases rv
        cases r1
        rename_i v2
        refine ⟨v2 :: us, by simp [l], fun j r' e => ?_⟩
        cases j with
        | zero =>
          simp at e
          subst e
          exact ⟨v2, rfl, r2, ht⟩
        | succ j =>
          obtain ⟨u, e1, e2⟩ := g j r' (by simpa using e)
          exact ⟨u, by simpa using e1, e2⟩
theorem kt_fold {H : Hp} : ∀ {rows : List DRow} {us : List Value}, us.length = rows.length → (∀ (j : Nat) (r : DRow), rows[j]? = some r → ∃ u, us[j]? = some u ∧ RelV r.2.2.2 u) → (∀ r ∈ rows, H r.2.1 = some (.tup (r.2.2.1.map kV))) → ∀ {acc : List (List Key × V)} {xs : List (List Key × Addr × Value)}, KT H acc xs →
    KT H (putAllK acc (rows.map fun r => (r.2.2.1, r.2.2.2))) (PySem.storedAllH xs ((rows.zip us).map fun z => (z.1.2.2.1, z.1.2.1, z.2)))
  | [], [], _, _, _, acc, xs, q => q
  | [], u :: us, h, _, _, _, _, _ => by simp at h
  | r :: rows, [], h, _, _, _, _, _ => by simp at h
  | r :: rows, u :: us, h, g, k, acc, xs, q => by
    obtain ⟨u', e, rv⟩ := g 0 r rfl
    simp at e
    subst e
    exact kt_fold (rows := rows) (us := us) (by simpa using h) (fun j r' e => by simpa using g (j + 1) r' (by simpa using e)) (fun r' hr => k r' (.tail _ hr)) (q.put r.2.2.1 (k r (.head _)) rv)
theorem callR_dictT (hc : X.calm = true) (hu : X.A.units + 64 < cLine) : CallR X (.type "dict") (rDictT X) := by
  intro pins s σ H vs us0 Q I rv h
  obtain ⟨a, rows, rfl, hs, ht, hb, q⟩ := h
  cases rv with
  | cons r1 r2 =>
    cases r2
    cases r1
    obtain ⟨its, hv, pl, ll⟩ := I.list hs
    have ei := vals_refs2 hv
    subst ei
    obtain ⟨us, lu, g⟩ := row_vals I ht
    have lz : (rows.zip us).length = rows.length := by rw [List.length_zip, lu, Nat.min_self]
    have at_ : ∀ (j : Nat) (z : DRow × Value), (rows.zip us)[j]? = some z → rows[j]? = some z.1 ∧ us[j]? = some z.2 := fun j z e => by
      have := List.getElem?_zip_eq_some.mp e
      exact this
    let ps : List (Value × Value) := (rows.zip us).map fun z => (Value.ref z.1.2.1, z.2)
    let ks : List (List Key × Addr × Value) := (rows.zip us).map fun z => (z.1.2.2.1, z.1.2.1, z.2)
    let Ts : Nat → Addr := fun j => ((rows[j]?).map (·.1)).getD 0
    have lp : ps.length = rows.length := by rw [List.length_map, lz]
    have items : PySem.PairItems s.heap (rows.map fun r => Value.ref r.1).toArray Ts ps := by
      refine ⟨by rw [List.size_toArray, List.length_map, lp], fun j k v e => ?_⟩
      obtain ⟨z, ez, e2⟩ := Option.map_eq_some_iff.mp (by rw [← List.getElem?_map]; exact e)
      cases e2
      obtain ⟨u1, u2⟩ := at_ j z ez
      obtain ⟨u, u3, _, u4⟩ := g j z.1 u1
      rw [u2] at u3
      cases u3
      have eT : Ts j = z.1.1 := by simp [Ts, u1]
      rw [eT]
      obtain ⟨o, ho, hcl, n, hd⟩ := u4
      exact ⟨by simp [u1], .inl ⟨o, ho, hcl, n, hd⟩⟩
    have have_ : PySem.PairsHaveH (tupleKind (mixKind X.prog X.w)) ps.length (PySem.PairRel ps) ks := by
      refine ⟨by rw [List.length_map, List.length_map], fun i key v e => ?_⟩
      obtain ⟨z, ez, e2⟩ := Option.map_eq_some_iff.mp (by rw [← List.getElem?_map]; exact e)
      cases e2
      exact ⟨z.1.2.2.1, z.1.2.1, by rw [List.getElem?_map, ez]; rfl, rfl⟩
    have keyAt : ∀ x ∈ ks, TpK X.prog X.w s.heap x.1 x.2.1 := fun x hx => by
      obtain ⟨z, hz, rfl⟩ := List.mem_map.mp hx
      exact key_of I.hok (ht z.1 (List.of_mem_zip hz).1).2
    obtain ⟨o, n, po, pc, pd, pdat⟩ := pl
    refine PySem.call_dict_pairsH (PySem.PairArg.list a _ Ts ps) (I.ok.hd hc) (by show X.A.in1.in1.units < cLine; show X.A.units + 1 + 1 < cLine; omega) ⟨⟨o, n, po, pc, pd, pdat⟩, items⟩ have_ (fun h' hk x hx => ?_) (by rw [lp]; exact Nat.le_trans hb (by decide)) fun h' tk hd hk => ?_
    · obtain ⟨o, its, n, ho, r⟩ := keyAt x hx
      exact ⟨o, its, n, hk _ _ (Nat.ne_of_lt (Heap.lt_size ho)) (by simp) ho, r⟩
    · have kp : ∀ (b : Addr) (o : Obj), s.heap.get? b = some o → h'.get? b = some o := fun b o e => hk b o (by simp) e
      have kt : KT H (putAllK [] (rows.map fun r => (r.2.2.1, r.2.2.2))) (PySem.storedAllH [] ks) := kt_fold lu (fun j r e => by obtain ⟨u, e1, e2, _⟩ := g j r e; exact ⟨u, e1, e2⟩) (fun r hr => (ht r hr).2) .nil
      obtain ⟨o, es, ep, h1, h2, h3, h4, _, h5⟩ := hd
      have fresh := I.hok.fresh (Nat.le_refl s.heap.objs.size)
      refine ⟨.ref s.heap.objs.size, _, I.laid (t' := tk) kp (Nat.le_refl _) ?_, rfl, q _ fresh⟩
      refine ⟨?_, ?_, PySem.storedAllH [] ks, kt.keeps fun b ys e => by rw [upd_ne (ne_of_none e fresh)]; exact e, o, es, ep, h1, h2, h3, h4, h5⟩
      · have := putAllK_len (rows.map fun r => (r.2.2.1, r.2.2.2)) []
        have hz : 10000 ≤ sizeLine := by decide
        simp only [List.length_map, List.length_nil, Nat.zero_add] at this
        omega
      · exact beq_eq_false_iff_ne.mpr (Nat.ne_of_gt I.big)
end
end PL
end

section
set_option Elab.async false
set_option linter.all false
set_option maxRecDepth 100000
/-! PL29: dict(pairs) with tuples as keys, in the layer -/
namespace PL
open PySem PySem.Spec PyProof.Rows L2
section
variable {X : Cx}
def pairsT : List D → Option (List (List Key × D))
  | [] => some []
  | .tup [.tup ds, v] :: xs => (keysD ds).bind fun k => (pairsT xs).map ((k, v) :: ·)
  | _ => none
def mergeT (kvs more : List (List Key × D)) : List (List Key × D) := more.foldl (fun acc kv => putD acc kv.1 kv.2) kvs
theorem mergeT_ok {K : PySem.W.Frag} {mg : Str → Option Value} {r : List Addr} {H : Hp} : ∀ {more : List (List Key × D)} {ms : List (List Key × V)} {kvs : List (List Key × D)} {ws : List (List Key × V)}, RepKs K mg r H more ms → RepKs K mg r H kvs ws → RepKs K mg r H (mergeT kvs more) (putAllK ws ms)
  | _, _, _, _, .nil, q => q
  | (a, d) :: more, (b, v) :: ms, kvs, ws, .cons ⟨e, q1⟩ t, q => by
    have e' : a = b := e
    subst e'
    exact mergeT_ok (more := more) (ms := ms) t (putD_ok q q1)
theorem pairsT_ok {K : PySem.W.Frag} {mg : Str → Option Value} {r : List Addr} {H : Hp} : ∀ {xs : List D} {vs : List V} {kvs : List (List Key × D)}, RepL K mg r H xs vs → pairsT xs = some kvs → ∃ rows : List DRow, vs = (rows.map fun q => V.ref q.1) ∧ rows.length = xs.length ∧ RepKs K mg r H kvs (rows.map fun q => (q.2.2.1, q.2.2.2)) ∧
    ∀ q ∈ rows, H q.1 = some (.tup [.ref q.2.1, q.2.2.2]) ∧ H q.2.1 = some (.tup (q.2.2.1.map kV)) := by
  intro xs
  induction xs with
  | nil =>
    intro vs kvs q h
    cases q
    cases h
    exact ⟨[], rfl, rfl, .nil, by simp⟩
  | cons d xs ih =>
    intro vs kvs q h
    unfold pairsT at h
    split at h
    · rename_i e
      exact nomatch e
    · rename_i ds v xs' e
      cases e
      obtain ⟨k, e1, h⟩ := Option.bind_eq_some_iff.mp h
      obtain ⟨ks, e2, e3⟩ := Option.map_eq_some_iff.mp h
      subst e3
      cases q with
      | cons q1 q2 =>
        obtain ⟨rows, u1, u2, u3, u4⟩ := ih q2 e2
        cases q1 with
        | tup t l =>
          rename_i a ws
          cases l with
          | cons l1 l =>
            cases l with
            | cons l2 l =>
              cases l
              rename_i wv
              cases l1 with
              | tup t1 m =>
                rename_i b kw
                have hk := keysD_eq m e1
                subst hk
                refine ⟨(a, b, k, wv) :: rows, by rw [u1]; rfl, by rw [List.length_cons, List.length_cons, u2], .cons ⟨rfl, l2⟩ u3, fun z hz => ?_⟩
                rcases List.mem_cons.mp hz with rfl | hz
                · exact ⟨t, t1⟩
                · exact u4 z hz
    · cases h
def gDictT : List D → Sto → R
  | [.ref n], S => (seqAt n S).bind fun xs => (pairsT xs).bind fun kvs => if xs.length ≤ 10000 then some (.ref S.length, S ++ [.dT (mergeT [] kvs)]) else none
  | _, _ => none
theorem callS_dictT : CallS X (rDictT X) gDictT := by
  intro xs S d S' e r H vs Q s q hq
  unfold gDictT at e
  split at e
  case h_2 => cases e
  obtain ⟨ys, e1, e⟩ := Option.bind_eq_some_iff.mp e
  obtain ⟨kvs, e2, e⟩ := Option.bind_eq_some_iff.mp e
  split at e
  case isFalse => cases e
  rename_i hz
  cases e
  match vs, q with
  | [v], .cons z .nil =>
    cases z with
    | ref ea =>
      obtain ⟨ws, hs, l⟩ := seqAt_ok (X := X) s ea e1
      obtain ⟨rows, u1, u2, u3, u4⟩ := pairsT_ok l e2
      subst u1
      refine ⟨_, rows, rfl, hs, u4, by rw [u2]; exact hz, fun p np => ?_⟩
      have L : Lat r H (r ++ [p]) (upd H p (.dT (putAllK [] (rows.map fun q => (q.2.2.1, q.2.2.2))))) := lat_new np
      refine hq (r ++ [p]) _ (.ref p) (s.new np ⟨_, upd_same, ?_⟩) L (.ref (new_at s))
      exact (mergeT_ok u3 .nil).lat L
end
end PL
end

section
set_option Elab.async false
set_option linter.all false
set_option maxRecDepth 100000
/-! PL30: sorted(d.items()) -/
namespace PL
open PySem PySem.Spec PyProof.Rows L2
mutual
theorem reads_there {h : Heap} : ∀ {d : PyData} {v : Value} {as : List Addr}, d.hasDict = false → Reads h v d as → ∀ a ∈ as, ∃ o, h.get? a = some o
  | .none, _, _, _, r => by cases r; simp
  | .bool _, _, _, _, r => by cases r; simp
  | .int _, _, _, _, r => by cases r; simp
  | .str _, _, _, _, r => by cases r; simp
  | .list xs, _, _, hd, r => by
    cases r with
    | list h1 _ _ h4 =>
      intro a ha
      rcases List.mem_cons.mp ha with rfl | ha
      · exact ⟨_, h1⟩
      · exact readsAll_there (by simpa [PyData.hasDict] using hd) h4 a ha
  | .tuple xs, _, _, hd, r => by
    cases r with
    | tuple _ _ _ h4 => exact readsAll_there (by simpa [PyData.hasDict] using hd) h4
  | .dict kvs, _, _, hd, r => by simp [PyData.hasDict] at hd
theorem readsAll_there {h : Heap} : ∀ {ds : List PyData} {vs : List Value} {as : List Addr}, PyData.hasDictAll ds = false → ReadsAll h vs ds as → ∀ a ∈ as, ∃ o, h.get? a = some o
  | [], _, _, _, r => by cases r; simp
  | d :: ds, _, _, hd, r => by
    simp only [PyData.hasDictAll, Bool.or_eq_false_iff] at hd
    cases r with
    | cons r1 r2 =>
      intro a ha
      rcases List.mem_append.mp ha with ha | ha
      · exact reads_there hd.1 r1 a ha
      · exact readsAll_there hd.2 r2 a ha
end
section
variable {X : Cx}
/-- an entry: key, value, what the key reads as, what the value -/
structure ERow where
  k : V
  v : V
  dk : PyData
  dv : PyData
def ERow.enc (r : ERow) : PyData := .tuple [r.dk, r.dv]
theorem each_ix {α β : Type} {R : α → β → Prop} : ∀ {xs : List α} {ys : List β}, xs.length = ys.length → (∀ (j : Nat) (x : α) (y : β), xs[j]? = some x → ys[j]? = some y → R x y) → PySem.W.EachIs R xs ys
  | [], [], _, _ => .nil
  | [], _ :: _, h, _ => by simp at h
  | _ :: _, [], h, _ => by simp at h
  | x :: xs, y :: ys, h, g => .cons (g 0 x y rfl rfl) (each_ix (by simpa using h) fun j x' y' e1 e2 => g (j + 1) x' y' (by simpa using e1) (by simpa using e2))
theorem each_refs : ∀ {out : List Value} {zs : List (Addr × ERow)}, PySem.W.EachIs (fun v (z : Addr × ERow) => v = Value.ref z.1) out zs → Vals (zs.map fun z => V.ref z.1) out
  | _, _, .nil => .nil
  | _, _, .cons h t => by
    subst h
    exact .cons rfl (each_refs t)
theorem sort_core {pins : List (Addr × Obj)} {σ : L2.St} {H : Hp} {s : Shared} {p a : Addr} {Q : VK} (I : L2.Inv X pins σ H s) (hc : X.calm = true) (hu : X.A.units + 70 < cLine) (view : s.heap.IsItemsView p a) {es : Array DictEntry} {ep : Nat} (raw : s.heap.DictRaw a es ep) {rows : List ERow} (hn : es.size = rows.length)
    (g : ∀ i (hi : i < es.size), ∃ r, rows[i]? = some r ∧ RelV r.k es[i].key ∧ RelV r.v es[i].val) (hd : ∀ r ∈ rows, Dp X.K H r.k r.dk ∧ Dp X.K H r.v r.dv ∧ r.enc.hasDict = false ∧ r.enc.depth ≤ 60) (al : PySem.W.AllAlike (rows.map ERow.enc)) (so : PySem.W.Sortable (rows.map ERow.enc)) (hz : rows.length ≤ sizeLine)
    (q : ∀ (H' : Hp) (l : Addr) (zs : List (Addr × ERow)), (∀ b o, H b = some o → H' b = some o) → H l = none → zs.map Prod.snd = rows.mergeSort (PySem.W.dataLe false ERow.enc) → H' l = some (.lst (zs.map fun z => V.ref z.1)) → (∀ z ∈ zs, H' z.1 = some (.tup [z.2.k, z.2.v])) → Q (.ref l) H') :
    wpAny (model X.prog X.w) X.A (call (.builtin "sorted") [.ref p]) (EP X pins σ Q) X.xe s := by
  obtain ⟨od, hod, hex, hdat⟩ := raw
  refine DT.sortedI (es := es) (ep := ep) (I.ok.hd hc) view ⟨od, hod, hex, hdat⟩ (by omega) fun h' tk as hk hlt hl hG => ?_
  have nd : as.Nodup := List.Pairwise.imp (fun h => Nat.ne_of_lt h) hG.rise
  have la : as.length = rows.length := hl.trans hn
  have hob : (h'.push { cls := .type "list", data := .seq (as.map Value.ref).toArray }).get? h'.objs.size = some (seqObj "list" (as.map Value.ref).toArray 0) := Heap.get?_push_size _ rfl
  have ka : ∀ b o, h'.get? b = some o → (h'.push { cls := .type "list", data := .seq (as.map Value.ref).toArray }).get? b = some o := fun b o e => Heap.get?_push_of_some _ e
  have ne0 : ∀ b o, h'.get? b = some o → b ≠ h'.objs.size := fun b o e => Nat.ne_of_lt (Heap.lt_size e)
  generalize h'.push { cls := .type "list", data := .seq (as.map Value.ref).toArray } = h2 at hob ka ⊢
  have kb : ∀ b o, s.heap.get? b = some o → h2.get? b = some o := fun b o e => ka b o (hk b o e)
  -- the pairs that were made
  have made : ∀ (j : Nat) (b : Addr), as[j]? = some b → ∃ (r : ERow) (ku vu : Value), rows[j]? = some r ∧ RelV r.k ku ∧ RelV r.v vu ∧ h'.get? b = some { cls := .type "tuple", data := .seq #[ku, vu] } := by
    intro j b e
    obtain ⟨en, e1, e2⟩ := hG.pairs j b e
    obtain ⟨hj, rfl⟩ := Array.getElem?_eq_some_iff.mp e1
    obtain ⟨r, u1, u2, u3⟩ := g j hj
    exact ⟨r, _, _, u1, u2, u3, e2⟩
  have zip_at : ∀ (j : Nat) (z : Addr × ERow), (as.zip rows)[j]? = some z → as[j]? = some z.1 ∧ rows[j]? = some z.2 := fun j z e => List.getElem?_zip_eq_some.mp e
  have lz : (as.map Value.ref).length = (as.zip rows).length := by rw [List.length_map, List.length_zip, la, Nat.min_self]
  have zmap : (as.zip rows).map (fun z => z.2.enc) = rows.map ERow.enc := by
    have : (as.zip rows).map Prod.snd = rows := List.map_snd_zip (by omega)
    rw [← this, List.map_map, this]
    rfl
  have er : PySem.W.EachIs (fun v (z : Addr × ERow) => ∃ xs, Reads h2 v z.2.enc xs ∧ h'.objs.size ∉ xs) (as.map Value.ref) (as.zip rows) := by
    refine each_ix lz fun j v z e1 e2 => ?_
    obtain ⟨u1, u2⟩ := zip_at j z e2
    rw [List.getElem?_map, u1] at e1
    cases e1
    obtain ⟨r, ku, vu, v1, v2, v3, v4⟩ := made j z.1 u1
    rw [u2] at v1
    cases v1
    obtain ⟨d1, d2, d3, _⟩ := hd z.2 (List.mem_of_getElem? u2)
    obtain ⟨ak, rk⟩ := Dp.reads I _ _ _ d1 v2
    obtain ⟨av, rv⟩ := Dp.reads I _ _ _ d2 v3
    have d3' : z.2.dk.hasDict = false ∧ z.2.dv.hasDict = false := by
      have := d3
      simp only [ERow.enc, PyData.hasDict, PyData.hasDictAll, Bool.or_eq_false_iff] at this
      exact ⟨this.1, this.2.1⟩
    refine ⟨ak ++ (av ++ []), .tuple (ka _ _ v4) rfl rfl (.cons (PyProof.Rows.Reads.keeps kb rk) (.cons (PyProof.Rows.Reads.keeps kb rv) .nil)), fun hm => ?_⟩
    have small : ∀ b ∈ ak ++ (av ++ []), b < s.heap.objs.size := fun b hb => by
      rcases List.mem_append.mp hb with hb | hb
      · obtain ⟨o, e⟩ := reads_there d3'.1 rk b hb
        exact Heap.lt_size e
      · obtain ⟨o, e⟩ := reads_there d3'.2 rv b (by simpa using hb)
        exact Heap.lt_size e
    have := small _ hm
    omega
  refine PySem.W.list_sort_data (bs := as.zip rows) (enc := fun z => z.2.enc) (R := fun v z => v = Value.ref z.1) hob (each_ix lz fun j v z e1 e2 => ?_) er (by rw [zmap]; exact al) (by rw [zmap]; exact so) (by rw [List.length_zip]; omega) (fun z hz' => ?_) fun out lo eo => ?_
  · rw [List.getElem?_map, (zip_at j z e2).1] at e1
    cases e1
    rfl
  · have := (hd z.2 (List.of_mem_zip hz').2).2.2.2
    show X.A.units + 1 + 1 + z.2.enc.depth < cLine
    omega
  · generalize hzs : (as.zip rows).mergeSort (PySem.W.dataLe false fun z => z.2.enc) = zs at eo
    have zsnd : zs.map Prod.snd = rows.mergeSort (PySem.W.dataLe false ERow.enc) := by
      have m : (as.zip rows).map Prod.snd = rows := List.map_snd_zip (by omega)
      rw [← hzs, List.map_mergeSort (r := PySem.W.dataLe false fun z : Addr × ERow => z.2.enc) (s := PySem.W.dataLe false ERow.enc) (f := Prod.snd) (fun _ _ _ _ => rfl), m]
    have zin : ∀ z ∈ zs, ∃ j : Nat, as[j]? = some z.1 ∧ rows[j]? = some z.2 := fun z hz' => by
      rw [← hzs] at hz'
      obtain ⟨j, e⟩ := List.mem_iff_getElem?.mp (List.mem_mergeSort.mp hz')
      exact ⟨j, zip_at j z e⟩
    have old : ∀ b o, b ≠ h'.objs.size → h2.get? b = some o → (sortedHeap h2 h'.objs.size (as.map Value.ref) out.toArray).get? b = some o := fun b o hb e => (PyProof.Rows.sortedHeap_old hb (Heap.lt_size e)).trans e
    have oldS : ∀ b o, s.heap.get? b = some o → (sortedHeap h2 h'.objs.size (as.map Value.ref) out.toArray).get? b = some o := fun b o e => old b o (ne0 _ _ (hk b o e)) (kb b o e)
    obtain ⟨eF, heF⟩ := PyProof.Rows.sortedHeap_at (vs := as.map Value.ref) (out := out.toArray) hob
    have I1 : Inv X pins σ H { s with heap := sortedHeap h2 h'.objs.size (as.map Value.ref) out.toArray, toks := tk } := I.kept (t' := tk) oldS
    have nl : H h'.objs.size = none := I.hok.fresh (Nat.le_of_lt hlt)
    have zl : zs.length = rows.length := by rw [← List.length_map (f := Prod.snd) (as := zs), zsnd, List.length_mergeSort]
    have I2 : Inv X pins σ (upd H h'.objs.size (.lst (zs.map fun z => V.ref z.1))) { s with heap := sortedHeap h2 h'.objs.size (as.map Value.ref) out.toArray, toks := tk } :=
      I1.take (h' := sortedHeap h2 h'.objs.size (as.map Value.ref) out.toArray) (t' := tk) (fun b ob _ e => e) (I.fpOk (Nat.le_of_lt hlt) nl) ⟨by rw [List.length_map, zl]; exact hz, out, eF, each_refs eo, by simpa using heF⟩
    obtain ⟨H2, I3, grow, tups⟩ := L2.DX.takeT (P := fun b vs => ∃ (j : Nat) (r : ERow), as[j]? = some b ∧ rows[j]? = some r ∧ vs = [r.k, r.v]) I as _ I2 nd fun b hb => by
      obtain ⟨j, hj⟩ := List.mem_iff_getElem?.mp hb
      obtain ⟨r, ku, vu, v1, v2, v3, v4⟩ := made j b hj
      have up : s.heap.objs.size ≤ b := Nat.le_of_lt (hG.above b hb)
      refine ⟨up, ?_, [r.k, r.v], ⟨j, r, hj, v1, rfl⟩, fun H3 => ⟨by rw [sizeLine_eq]; show 2 ≤ 16777216; omega, [ku, vu], .cons v2 (.cons v3 .nil), ⟨_, old _ _ (ne0 _ _ v4) (ka _ _ v4), rfl, 0, rfl⟩⟩⟩
      rw [upd_ne (ne0 _ _ v4)]
      exact I.hok.fresh up
    refine ⟨.ref h'.objs.size, H2, I3, rfl, q H2 h'.objs.size zs (fun b o e => grow b o (by rw [upd_ne (ne_of_none e nl)]; exact e)) nl zsnd (grow _ _ upd_same) fun z hz' => ?_⟩
    obtain ⟨i, i1, i2⟩ := zin z hz'
    obtain ⟨vs, ⟨j, r, j1, j2, rfl⟩, e⟩ := tups z.1 (List.mem_of_getElem? i1)
    have ij : i = j := (List.getElem?_inj (List.getElem?_eq_some_iff.mp i1).1 nd).mp (i1.trans j1.symm)
    subst ij
    rw [i2] at j2
    cases j2
    exact e
end
end PL
end

section
set_option Elab.async false
set_option linter.all false
set_option maxRecDepth 100000
/-! PL31: sorted(d.items()) in the layer -/
namespace PL
open PySem PySem.Spec PyProof.Rows L2
section
variable {K : PySem.W.Frag} {mg : Str → Option Value}
theorem lat_ext {r : List Addr} {H H' : Hp} (g : ∀ b o, H b = some o → H' b = some o) : Lat r H r H' := ⟨fun _ _ h => h, fun _ _ e => g _ _ e, fun _ _ _ e => g _ _ e⟩
theorem Sim.ext {r : List Addr} {S : Sto} {H H' : Hp} (h : Sim K mg r S H) (g : ∀ b o, H b = some o → H' b = some o) : Sim K mg r S H' := by
  refine ⟨h.len, h.nd, fun n o a e1 e2 => ?_⟩
  have q := h.ob n o a e1 e2
  have L := lat_ext (r := r) g
  cases o with
  | cst xs => obtain ⟨ws, e, z⟩ := q; exact ⟨ws, e.lat L, z.lat L⟩
  | lst xs => obtain ⟨ws, e, z⟩ := q; exact ⟨ws, g _ _ e, z.lat L⟩
  | dK xs => obtain ⟨ws, e, z⟩ := q; exact ⟨ws, g _ _ e, z.lat L⟩
  | dT xs => obtain ⟨ws, e, z⟩ := q; exact ⟨ws, g _ _ e, z.lat L⟩
  | lkK xs => obtain ⟨od, ws, e, z⟩ := q; exact ⟨od, ws, g _ _ e, z.lat L⟩
end
section
variable {X : Cx}
theorem sim_grow {r : List Addr} {S : Sto} {H H' : Hp} {l : Addr} {xs : List D} {vs : List V} (s : Sim X.K X.mg r S H) (g : ∀ b o, H b = some o → H' b = some o) (nl : H l = none) (hl : H' l = some (.lst vs)) (rep : ∀ H2 : Hp, (∀ b o, b ≠ l → H' b = some o → H2 b = some o) → (∀ b o, H b = some o → H2 b = some o) → RepL X.K X.mg r H2 xs vs) :
    Sim X.K X.mg (r ++ [l]) (S ++ [.lst xs]) H' ∧ Lat r H (r ++ [l]) H' ∧ RepV X.K X.mg (r ++ [l]) H' (.ref S.length) (.ref l) := by
  let H2 : Hp := fun b => if b = l then none else H' b
  have g2 : ∀ b o, H b = some o → H2 b = some o := fun b o e => by
    have : b ≠ l := fun z => by rw [z, nl] at e; cases e
    show (if b = l then none else H' b) = some o
    rw [if_neg this]
    exact g b o e
  have n2 : H2 l = none := if_pos rfl
  have e2 : upd H2 l (.lst vs) = H' := by
    funext b
    by_cases c : b = l
    · subst c
      rw [upd_same, hl]
    · rw [upd_ne c]
      exact if_neg c
  obtain ⟨a1, a2, a3⟩ := newL_ok (X := X) (s.ext g2) n2 (rep H2 (fun b o c e => (if_neg c).trans e) g2) rfl
  rw [e2] at a1 a2 a3
  exact ⟨a1, (lat_ext g2).trans a2, a3⟩
/-- keys and values as they stand -/
abbrev Ents := List (D × D)
def itemsD (es : Ents) : List D := es.map fun e => .tup [e.1, e.2]
theorem rows_of {r : List Addr} {H : Hp} : ∀ {es : Ents} {uvs : List (V × V)} {ps : List PyData}, Paired (fun (e : D × D) (u : V × V) => RepV X.K X.mg r H e.1 u.1 ∧ RepV X.K X.mg r H e.2 u.2) es uvs → pyDs (itemsD es) = some ps →
    ∃ rows : List ERow, rows.map ERow.enc = ps ∧ rows.map (fun q => (q.k, q.v)) = uvs ∧ (∀ q ∈ rows, Dp X.K H q.k q.dk ∧ Dp X.K H q.v q.dv) ∧ ∀ q ∈ (itemsD es).zip rows, ∃ kd vd, q.1 = .tup [kd, vd] ∧ RepV X.K X.mg r H kd q.2.k ∧ RepV X.K X.mg r H vd q.2.v
  | [], _, _, .nil, h => by
    simp [itemsD, pyDs] at h
    subst h
    exact ⟨[], rfl, rfl, by simp, by simp⟩
  | e :: es, u :: uvs, _, .cons ⟨q1, q2⟩ t, h => by
    have c : pyDs (itemsD (e :: es)) = (pyD (.tup [e.1, e.2])).bind fun a => (pyDs (itemsD es)).map (a :: ·) := by simp only [itemsD, List.map_cons, pyDs]
    rw [c] at h
    obtain ⟨p, e1, h⟩ := Option.bind_eq_some_iff.mp h
    obtain ⟨ps, e2, rfl⟩ := Option.map_eq_some_iff.mp h
    obtain ⟨rows, u1, u2, u3, u4⟩ := rows_of t e2
    simp only [pyD, pyDs] at e1
    obtain ⟨dl, f1, rfl⟩ := Option.map_eq_some_iff.mp e1
    obtain ⟨dk, f2, f1⟩ := Option.bind_eq_some_iff.mp f1
    obtain ⟨dl2, f3, rfl⟩ := Option.map_eq_some_iff.mp f1
    obtain ⟨dv, f4, f3⟩ := Option.bind_eq_some_iff.mp f3
    simp at f3
    subst f3
    refine ⟨⟨u.1, u.2, dk, dv⟩ :: rows, by rw [List.map_cons, u1]; rfl, by rw [List.map_cons, u2], fun q hq => ?_, fun q hq => ?_⟩
    · rcases List.mem_cons.mp hq with rfl | hq
      · exact ⟨pyD_ok q1 f2, pyD_ok q2 f4⟩
      · exact u3 q hq
    · simp only [itemsD, List.map_cons, List.zip_cons_cons] at hq
      rcases List.mem_cons.mp hq with rfl | hq
      · exact ⟨e.1, e.2, rfl, q1, q2⟩
      · exact u4 q hq
theorem rep_sorted {r : List Addr} {H2 : Hp} : ∀ {T : List (D × ERow)} {zs : List (Addr × ERow)}, zs.map Prod.snd = T.map Prod.snd → (∀ q ∈ T, ∃ kd vd, q.1 = .tup [kd, vd] ∧ RepV X.K X.mg r H2 kd q.2.k ∧ RepV X.K X.mg r H2 vd q.2.v) →
    (∀ z ∈ zs, H2 z.1 = some (.tup [z.2.k, z.2.v])) → RepL X.K X.mg r H2 (T.map Prod.fst) (zs.map fun z => V.ref z.1)
  | [], [], _, _, _ => .nil
  | [], _ :: _, h, _, _ => by simp at h
  | _ :: _, [], h, _, _ => by simp at h
  | q :: T, z :: zs, h, g, t => by
    simp only [List.map_cons, List.cons.injEq] at h
    obtain ⟨kd, vd, e, r1, r2⟩ := g q (.head _)
    rw [← h.1] at r1 r2
    rw [List.map_cons, List.map_cons, e]
    exact .cons (.tup (t z (.head _)) (.cons r1 (.cons r2 .nil))) (rep_sorted h.2 (fun q hq => g q (.tail _ hq)) fun z hz => t z (.tail _ hz))
end
end PL
end

section
set_option Elab.async false
set_option linter.all false
set_option maxRecDepth 100000
/-! PL32: sorted(d.items()) -/
namespace PL
open PySem PySem.Spec PyProof.Rows L2 L2.DX
section
variable {X : Cx}
def DEnts (H : Hp) (a : Addr) (uvs : List (V × V)) : Prop := (∃ kvs, H a = some (.dK kvs) ∧ uvs = kvs.map fun kv => (kV kv.1, kv.2)) ∨
  ∃ kvs, H a = some (.dT kvs) ∧ Paired (fun (kv : List Key × V) (u : V × V) => (∃ b, u.1 = .ref b ∧ H b = some (.tup (kv.1.map kV))) ∧ u.2 = kv.2) kvs uvs
def IsDi (H : Hp) (a : Addr) : Prop := (∃ kvs, H a = some (.dK kvs)) ∨ ∃ kvs, H a = some (.dT kvs)
theorem rel_key {k : Key} {u : Value} (h : keyIs k u = true) : RelV (kV k) u := by
  rcases keyIs_shape h with ⟨i, t, rfl, rfl⟩ | ⟨x, t, rfl, rfl⟩
  · exact ⟨t, rfl⟩
  · exact ⟨t, rfl⟩
theorem raw_ents {pins : List (Addr × Obj)} {σ : L2.St} {H : Hp} {s : Shared} {a : Addr} (I : L2.Inv X pins σ H s) (h : IsDi H a) :
    (a == sysModules) = false ∧ ∃ uvs, DEnts H a uvs ∧ uvs.length ≤ sizeLine ∧ ∃ es ep, s.heap.DictRaw a es ep ∧ es.size = uvs.length ∧ ∀ i (hi : i < es.size), ∃ u, uvs[i]? = some u ∧ RelV u.1 es[i].key ∧ RelV u.2 es[i].val := by
  rcases h with ⟨kvs, e⟩ | ⟨kvs, e⟩
  · obtain ⟨z, hs, vs, kv, d⟩ := dk_of I.hok e
    obtain ⟨es, ep, r, n, g⟩ := d.raw
    have l : kvs.length = vs.length := Paired.length kv
    refine ⟨hs, _, .inl ⟨kvs, e, rfl⟩, by rw [List.length_map]; exact z, es, ep, r, by rw [List.length_map, n, l], fun i hi => ?_⟩
    have hv : vs[i]? = some vs[i] := List.getElem?_eq_getElem (by omega)
    obtain ⟨x, e1, e2, e3⟩ := get_len kv hv
    obtain ⟨g1, g2⟩ := g i hi _ _ hv
    exact ⟨(kV x.1, x.2), by rw [List.getElem?_map, e1]; rfl, rel_key (by rw [e2]; exact g1), by rw [g2]; exact e3⟩
  · obtain ⟨z, hs, xs, kt, d⟩ := dt_of I.hok e
    obtain ⟨es, ep, r, n, g⟩ := d.raw
    have l : kvs.length = xs.length := Paired.length kt
    have pr : ∀ {kvs : List (List Key × V)} {xs : List (List Key × Addr × Value)}, KT H kvs xs → ∃ uvs, Paired (fun (kv : List Key × V) (u : V × V) => (∃ b, u.1 = .ref b ∧ H b = some (.tup (kv.1.map kV))) ∧ u.2 = kv.2) kvs uvs ∧ uvs.length = xs.length ∧
        ∀ (i : Nat) (y : List Key × Addr × Value), xs[i]? = some y → ∃ u, uvs[i]? = some u ∧ u.1 = .ref y.2.1 ∧ RelV u.2 y.2.2 := by
      intro kvs xs q
      induction q with
      | nil => exact ⟨[], .nil, rfl, fun i y e => by simp at e⟩
      | @cons p x ps xs h t ih =>
        obtain ⟨uvs, u1, u2, u3⟩ := ih
        refine ⟨(.ref x.2.1, p.2) :: uvs, .cons ⟨⟨x.2.1, rfl, h.2.1⟩, rfl⟩ u1, by simp [u2], fun i y e => ?_⟩
        cases i with
        | zero =>
          simp at e
          subst e
          exact ⟨_, rfl, rfl, h.2.2⟩
        | succ i =>
          obtain ⟨u, v1, v2⟩ := u3 i y (by simpa using e)
          exact ⟨u, by simpa using v1, v2⟩
    obtain ⟨uvs, u1, u2, u3⟩ := pr kt
    refine ⟨hs, uvs, .inr ⟨kvs, e, u1⟩, by rw [u2, ← l]; exact z, es, ep, r, by rw [n, u2], fun i hi => ?_⟩
    obtain ⟨y, e1, e2, e3, _⟩ := g i hi
    obtain ⟨u, v1, v2, v3⟩ := u3 i y e1
    exact ⟨u, v1, by rw [v2, e2]; rfl, by rw [e3]; exact v3⟩
def rItemsX : V → List V → Hp → VK → Prop := fun x xs H Q => ∃ (a : Addr), x = .ref a ∧ xs = [] ∧ IsDi H a ∧ ∀ p, H p = none → Q (.ref p) (upd H p (itemsO p a))
theorem mtR_items : MtR X "dict.items" rItemsX := by
  intro pins s σ H x xs v us Q I rx rxs h
  obtain ⟨a, rfl, rfl, ha, q⟩ := h
  cases rx
  cases rxs
  obtain ⟨hs, _, _, _, es, ep, r, _⟩ := raw_ents I ha
  refine call_meetsIn F.slot_dict_items r.typeIs F.entry_dict_items (F.args_dict_items_1 _) (meets_dict_items_raw a hs) ⟨⟨es, ep, r⟩, ?_⟩
  exact ⟨.ref s.heap.objs.size, upd H s.heap.objs.size (itemsO s.heap.objs.size a), I.laid (t' := s.toks) (fun b u e => Heap.get?_push_of_some _ e) (Nat.le_refl _) (itemsO_ok (Heap.get?_push_size _ rfl)), rfl, q _ I.fresh⟩
def rSortItems (K : PySem.W.Frag) : List V → Hp → VK → Prop := fun vs H Q => ∃ p a, vs = [.ref p] ∧ H p = some (itemsO p a) ∧ IsDi H a ∧ ∀ uvs, DEnts H a uvs → ∃ rows : List ERow, rows.map (fun r => (r.k, r.v)) = uvs ∧
  (∀ r ∈ rows, Dp K H r.k r.dk ∧ Dp K H r.v r.dv ∧ r.enc.hasDict = false ∧ r.enc.depth ≤ 60) ∧ PySem.W.AllAlike (rows.map ERow.enc) ∧ PySem.W.Sortable (rows.map ERow.enc) ∧
  ∀ (H' : Hp) (l : Addr) (zs : List (Addr × ERow)), (∀ b o, H b = some o → H' b = some o) → H l = none → zs.map Prod.snd = rows.mergeSort (PySem.W.dataLe false ERow.enc) → H' l = some (.lst (zs.map fun z => V.ref z.1)) → (∀ z ∈ zs, H' z.1 = some (.tup [z.2.k, z.2.v])) → Q (.ref l) H'
theorem callR_sortItems (hc : X.calm = true) (hu : X.A.units + 70 < cLine) : CallR X (.builtin "sorted") (rSortItems X.K) := by
  intro pins s σ H vs us Q I rv h
  obtain ⟨p, a, rfl, hp, ha, q⟩ := h
  cases rv with
  | cons r1 r2 =>
    cases r2
    cases r1
    obtain ⟨hs, uvs, he, hz, es, ep, r, n, g⟩ := raw_ents I ha
    obtain ⟨rows, u1, u2, u3, u4, u5⟩ := q uvs he
    have view : s.heap.IsItemsView p a := (show ObjOk X.prog X.w H s.heap p (itemsO p a) from I.hok p _ hp).1
    have ln : rows.length = uvs.length := by rw [← u1, List.length_map]
    refine sort_core I hc hu view r (by rw [n, ln]) (fun i hi => ?_) u2 u3 u4 (by rw [ln]; exact hz) u5
    obtain ⟨u, e1, e2, e3⟩ := g i hi
    rw [← u1, List.getElem?_map] at e1
    obtain ⟨r, e4, rfl⟩ := Option.map_eq_some_iff.mp e1
    exact ⟨r, e4, e2, e3⟩
def entsOf : Ob → Option Ents
  | .dK kvs => some (kvs.map fun kv => (kD kv.1, kv.2))
  | .dT kvs => some (kvs.map fun kv => (.tup (kv.1.map kD), kv.2))
  | _ => none
def mSortItems (m : ME) : ME := fun env S => (m env S).bind fun p => match p.1 with
  | .ref n => (p.2[n]?).bind fun o => (entsOf o).bind fun es => (pyDs (itemsD es)).bind fun ps => if (sortB ps && !PyData.hasDictAll ps) = true then newL (sortedD (itemsD es) ps) p.2 else none
  | _ => none
end
end PL
end

section
set_option Elab.async false
set_option linter.all false
set_option maxRecDepth 100000
/-! PL33: sorted(d.items()) in the layer -/
namespace PL
open PySem PySem.Spec PyProof.Rows L2 L2.DX
section
variable {X : Cx}
theorem repKeys {r : List Addr} {H : Hp} : ∀ k : List Key, RepL X.K X.mg r H (k.map kD) (k.map kV)
  | [] => .nil
  | k :: ks => .cons (kD_ok k) (repKeys ks)
theorem ents_rep {r : List Addr} {S : Sto} {H : Hp} {n : Nat} {a : Addr} {o : Ob} {es : Ents} (s : Sim X.K X.mg r S H) (ea : r[n]? = some a) (eo : S[n]? = some o) (h : entsOf o = some es) :
    IsDi H a ∧ ∀ uvs, DEnts H a uvs → Paired (fun (e : D × D) (u : V × V) => RepV X.K X.mg r H e.1 u.1 ∧ RepV X.K X.mg r H e.2 u.2) es uvs := by
  have q := s.ob n o a eo ea
  cases o with
  | dK kvs =>
    cases h
    obtain ⟨ws, e, z⟩ := q
    refine ⟨.inl ⟨ws, e⟩, fun uvs hu => ?_⟩
    rcases hu with ⟨ws', e', rfl⟩ | ⟨ws', e', _⟩
    · rw [e] at e'
      cases e'
      have go : ∀ {kvs : List (Key × D)} {ws : List (Key × V)}, RepKs X.K X.mg r H kvs ws → Paired (fun (e : D × D) (u : V × V) => RepV X.K X.mg r H e.1 u.1 ∧ RepV X.K X.mg r H e.2 u.2) (kvs.map fun kv => (kD kv.1, kv.2)) (ws.map fun kv => (kV kv.1, kv.2)) := by
        intro kvs ws q
        induction q with
        | nil => exact .nil
        | @cons p u ps us h t ih =>
          refine .cons ⟨?_, h.2⟩ ih
          show RepV X.K X.mg r H (kD p.1) (kV u.1)
          rw [show u.1 = p.1 from h.1.symm]
          exact kD_ok _
      exact go z
    · rw [e] at e'
      cases e'
  | dT kvs =>
    cases h
    obtain ⟨ws, e, z⟩ := q
    refine ⟨.inr ⟨ws, e⟩, fun uvs hu => ?_⟩
    rcases hu with ⟨ws', e', _⟩ | ⟨ws', e', pu⟩
    · rw [e] at e'
      cases e'
    · rw [e] at e'
      cases e'
      have go : ∀ {kvs : List (List Key × D)} {ws : List (List Key × V)} {uvs : List (V × V)}, RepKs X.K X.mg r H kvs ws → Paired (fun (kv : List Key × V) (u : V × V) => (∃ b, u.1 = .ref b ∧ H b = some (.tup (kv.1.map kV))) ∧ u.2 = kv.2) ws uvs →
          Paired (fun (e : D × D) (u : V × V) => RepV X.K X.mg r H e.1 u.1 ∧ RepV X.K X.mg r H e.2 u.2) (kvs.map fun kv => ((.tup (kv.1.map kD) : D), kv.2)) uvs := by
        intro kvs ws uvs q
        induction q generalizing uvs with
        | nil => intro pu; cases pu; exact .nil
        | @cons p w ps us h t ih =>
          intro pu
          cases pu with
          | cons h1 h2 =>
            rename_i u0 _
            refine .cons ⟨?_, ?_⟩ (ih h2)
            · obtain ⟨⟨b, eb, hb⟩, _⟩ := h1
              show RepV X.K X.mg r H (.tup (p.1.map kD)) u0.1
              rw [eb, show p.1 = w.1 from h.1]
              exact .tup hb (repKeys _)
            · show RepV X.K X.mg r H p.2 u0.2
              rw [h1.2]
              exact h.2
      exact go z pu
  | _ => cases h
theorem hd_all : ∀ {ps : List PyData}, PyData.hasDictAll ps = false → ∀ p ∈ ps, p.hasDict = false
  | [], _, p, hp => nomatch hp
  | q :: ps, h, p, hp => by
    simp only [PyData.hasDictAll, Bool.or_eq_false_iff] at h
    rcases List.mem_cons.mp hp with rfl | hp
    · exact h.1
    · exact hd_all h.2 p hp
theorem IsDi.junk {H : Hp} {a p : Addr} {u : HO} (h : IsDi H a) (np : H p = none) : IsDi (upd H p u) a := by
  have ne : ∀ {z}, H a = some z → upd H p u a = some z := fun e => by rw [upd_ne (ne_of_none e np)]; exact e
  rcases h with ⟨kvs, e⟩ | ⟨kvs, e⟩
  · exact .inl ⟨kvs, ne e⟩
  · exact .inr ⟨kvs, ne e⟩
theorem cE_sortItems {e : Expr} {m : ME} {p pos apos cpos : Pos} (hc : X.calm = true) (hu : X.A.units + 70 < cLine) (hm : X.mg "sorted" = none) (he : CE X e m) (hg : Gl X "sorted" := by rfl) (hb : attributeBase e "items" X.env (eval e X.env) = eval e X.env := by rfl) (hl : (apos.endLine == cpos.line) = true := by rfl) :
    CE X (.Call (.Name "sorted" p) [.Call (.Attribute e "items" apos) [] [] cpos] [] pos) (mSortItems m) := by
  refine ⟨?_⟩
  intro env S d S' h0 r σ H Q A hq
  obtain ⟨⟨d0, S1⟩, e1, h0⟩ := Option.bind_eq_some_iff.mp h0
  refine tm_of (pe_callB (callR_sortItems hc hu) hg hm (by rfl) (pa_cons (pe_bm0 F.plainAttrs_dict F.slot_dict_items F.type_dict_items mtR_items pe_tm hb hl) pa_nil (star_cons rfl)) (by decide) (by decide) (star_cons rfl) (star_plain rfl)) ?_
  refine he env S d0 S1 e1 r σ H _ A fun r1 H1 v s1 l1 q1 => ?_
  dsimp only at h0
  split at h0
  case h_2 => cases h0
  rename_i _ n
  obtain ⟨o, e2, h0⟩ := Option.bind_eq_some_iff.mp h0
  obtain ⟨es, e3, h0⟩ := Option.bind_eq_some_iff.mp h0
  obtain ⟨ps, e4, h0⟩ := Option.bind_eq_some_iff.mp h0
  split at h0
  case isFalse => cases h0
  rename_i ok
  simp only [Bool.and_eq_true, Bool.not_eq_true'] at ok
  obtain ⟨o1, o2, o3, o4⟩ := sortB_ok ok.1
  cases q1 with
  | ref ea =>
    rename_i adr
    obtain ⟨di, _⟩ := ents_rep s1 ea e2 e3
    have ty : tyV X.K "dict" (.ref adr) H1 := dIs_ok (X := X) (d := .ref n) s1 (.ref ea) (by
      cases o with
      | dK kvs => simp [dIs, e2]
      | dT kvs => simp [dIs, e2]
      | _ => cases e3)
    refine ⟨ty, adr, rfl, rfl, di, fun q' np => ?_⟩
    have lj := lat_junk (r := r1) (u := itemsO q' adr) np
    have s2 := s1.junk (u := itemsO q' adr) np
    refine ⟨q', adr, rfl, upd_same, di.junk np, fun uvs hu' => ?_⟩
    obtain ⟨_, pr⟩ := ents_rep s2 ea e2 e3
    obtain ⟨rows, u1, u2, u3, u4⟩ := rows_of (pr uvs hu') e4
    have inps : ∀ q ∈ rows, q.enc ∈ ps := fun q hq => by rw [← u1]; exact List.mem_map.mpr ⟨q, hq, rfl⟩
    refine ⟨rows, u2, fun q hq => ⟨(u3 q hq).1, (u3 q hq).2, hd_all ok.2 _ (inps q hq), o4 _ (inps q hq)⟩, by rw [u1]; exact o1, by rw [u1]; exact o2, fun H' l zs g nl zsnd hl' tups => ?_⟩
    have lr : (itemsD es).length = rows.length := by
      have h1 : (itemsD es).length = es.length := List.length_map ..
      have h2 : es.length = uvs.length := Paired.len (pr uvs hu')
      have h3 : rows.length = uvs.length := by rw [← u2, List.length_map]
      omega
    let T := ((itemsD es).zip rows).mergeSort (PySem.W.dataLe false fun q : D × ERow => q.2.enc)
    have t1 : T.map Prod.snd = rows.mergeSort (PySem.W.dataLe false ERow.enc) := by
      have m : ((itemsD es).zip rows).map Prod.snd = rows := List.map_snd_zip (by omega)
      rw [List.map_mergeSort (r := PySem.W.dataLe false fun q : D × ERow => q.2.enc) (s := PySem.W.dataLe false ERow.enc) (f := Prod.snd) (fun _ _ _ _ => rfl), m]
    have t2 : T.map Prod.fst = sortedD (itemsD es) ps := by
      have m : ((itemsD es).zip rows).map (fun q => (q.1, q.2.enc)) = (itemsD es).zip ps := by
        rw [← u1, List.zip_map_right]
        rfl
      have m2 : T.map (fun q => (q.1, q.2.enc)) = ((itemsD es).zip ps).mergeSort leD := by
        rw [List.map_mergeSort (r := PySem.W.dataLe false fun q : D × ERow => q.2.enc) (s := leD) (f := fun q : D × ERow => (q.1, q.2.enc)) (fun _ _ _ _ => rfl), m]
      unfold sortedD
      rw [← m2, List.map_map]
      rfl
    obtain ⟨a1, a2, a3⟩ := sim_grow (xs := sortedD (itemsD es) ps) s2 g nl hl' fun H2 k1 k2 => by
      rw [← t2]
      refine rep_sorted (zsnd.trans t1.symm) (fun q hq => ?_) fun z hz => ?_
      · obtain ⟨kd, vd, v1, v2, v3⟩ := u4 q (List.mem_mergeSort.mp hq)
        exact ⟨kd, vd, v1, v2.lat (lat_ext k2), v3.lat (lat_ext k2)⟩
      · refine k1 _ _ (fun e => ?_) (tups z hz)
        have := tups z hz
        rw [e, hl'] at this
        cases this
    cases h0
    exact hq _ _ _ a1 (l1.trans (lj.trans a2)) a3
end
end PL
end

section
set_option Elab.async false
set_option linter.all false
set_option maxRecDepth 100000
/-! PL34: rules as the generator writes them -/
namespace PL
open PySem PySem.Spec PyProof.Rows L2
section
variable {X : Cx}
theorem kCallV (i : Nat) {k : Nat} {fs : Str → Option (Nat × Nat)} {C : Nat → MF} {x : Str} {p pos : Pos} {e : Expr} {es : List Expr} {a : MA}
    (hT : ∀ y j n, fs y = some (j, n) → ∃ (f : Addr) (fd : FuncData) (ps : List Str), X.mg y = some (.ref f) ∧ FnG X.prog X.w X.K X.mg X.base k f fd ps (spM X.K X.mg n (C j)) ∧ PySem.W.keepIn X.K (.ref f) = true ∧ Binds X.K fd ps [])
    (hr : Room k X.A) (hgd : X.A.guards = some []) (ha : CA X (e :: es) a) (hN : X.N[i]? = some x := by rfl) (hv : Vis X.env.scope x := by first | exact Or.inl rfl | exact Or.inr (Or.inl rfl) | exact Or.inr (Or.inr rfl))
    (hdb : (x == ("__debug__" : Str)) = false := by decide) (hcd : (x == ("__classdict__" : Str)) = false := by decide) (h : nSs (e :: es) = true := by rfl) : CE X (.Call (.Name x p) (e :: es) [] pos) (mCallV i fs C a) :=
  cE_callV hT hr hgd hN hv ha hdb hcd (star_cons (nSs_cons h).1) (star_plain (nSs_cons h).2)
theorem kSel {e : Expr} {a b : ME} (c : Env → Sto → Bool) (ha : CE X e a) (hb : CE X e b) : CE X e (mSel c a b) := CE.sel c ha hb
/-- whether a slot holds a dict with tuple keys -/
def selT (i : Nat) (env : Env) (S : Sto) : Bool := match env[i]? with
  | some (some (.ref n)) => match S[n]? with
    | some (.dT _) => true
    | _ => false
  | _ => false
theorem kListVals {e : Expr} {m : ME} {p pos apos cpos : Pos} (hc : X.calm = true) (hm : X.mg "list" = none) (he : CE X e m) (h : nCall e = true := by rfl) (hg : Gl X "list" := by rfl) (hl : (apos.endLine == cpos.line) = true := by rfl) :
    CE X (.Call (.Name "list" p) [.Call (.Attribute e "values" apos) [] [] cpos] [] pos) (mListVals m) := cE_listVals hc hm he hg (base_no h) hl
theorem kSortItems {e : Expr} {m : ME} {p pos apos cpos : Pos} (hc : X.calm = true) (hu : X.A.units + 70 < cLine) (hm : X.mg "sorted" = none) (he : CE X e m) (h : nCall e = true := by rfl) (hg : Gl X "sorted" := by rfl) (hl : (apos.endLine == cpos.line) = true := by rfl) :
    CE X (.Call (.Name "sorted" p) [.Call (.Attribute e "items" apos) [] [] cpos] [] pos) (mSortItems m) := cE_sortItems hc hu hm he hg (base_no h) hl
theorem hu70 {k : Nat} {A : Around} (hr : Room k A) : A.units + 70 < cLine := by
  have := hr.un
  omega
end
end PL
end

section
set_option Elab.async false
set_option linter.all false
set_option maxRecDepth 100000
/-! PL35: < <= > >= of tuples and lists of alike data -/
namespace PL
open PySem PySem.Spec PyProof.Rows L2
section
variable {X : Cx}
def cmpOk (p q : PyData) : Bool := PySem.W.alike p q && (match p with | .none => false | _ => true) && decide (min p.depth q.depth ≤ 64)
/-- an order of alike data, told by whether the one is less, whether the other is -/
def ordB (f : PyData → PyData → Bool) : D → D → Sto → R := fun x y S => (pyT S x).bind fun p => (pyT S y).bind fun q => if cmpOk p q = true then some (.bl (f p q), S) else none
def rOrdD (K : PySem.W.Frag) (f : PyData → PyData → Bool) : R2 := fun x y H Q => ∃ d e, Dp K H x d ∧ Dp K H y e ∧ cmpOk d e = true ∧ Q (.bl (f d e)) H
theorem opS_ord {f : PyData → PyData → Bool} : OpS X (rOrdD X.K f) (ordB f) := by
  intro x y S d S' e r H u v Q s q1 q2 hq
  obtain ⟨p, e1, e⟩ := Option.bind_eq_some_iff.mp e
  obtain ⟨q, e2, e⟩ := Option.bind_eq_some_iff.mp e
  split at e
  · rename_i hs
    cases e
    exact ⟨p, q, pyT_ok s q1 e1, pyT_ok s q2 e2, hs, hq r H _ s .refl (.bl _)⟩
  · cases e
theorem cmpOk_ok {p q : PyData} {n : Nat} (h : cmpOk p q = true) (hu : n + 64 < cLine) : PySem.W.alike p q = true ∧ p ≠ .none ∧ n + min p.depth q.depth < cLine := by
  unfold cmpOk at h
  simp only [Bool.and_eq_true, decide_eq_true_eq] at h
  refine ⟨h.1.1, fun e => ?_, by omega⟩
  rw [e] at h
  exact absurd h.1.2 (by simp)
theorem op_ltD (hu : X.A.units + 64 < cLine) : OpR X (compareOp .Lt) (rOrdD X.K fun p q => PySem.W.dataLt p q) := by
  intro pins s σ H x y v u Q I rx ry h
  obtain ⟨d, e, hd, he, c, q⟩ := h
  obtain ⟨as, r1⟩ := Dp.reads I d x v hd rx
  obtain ⟨bs, r2⟩ := Dp.reads I e y u he ry
  obtain ⟨c1, c2, c3⟩ := cmpOk_ok c hu
  exact PySem.W.lt_data r1 r2 c1 c2 c3 ⟨.bl _, H, I, rfl, q⟩
theorem op_gtD (hu : X.A.units + 64 < cLine) : OpR X (compareOp .Gt) (rOrdD X.K fun p q => PySem.W.dataLt q p) := by
  intro pins s σ H x y v u Q I rx ry h
  obtain ⟨d, e, hd, he, c, q⟩ := h
  obtain ⟨as, r1⟩ := Dp.reads I d x v hd rx
  obtain ⟨bs, r2⟩ := Dp.reads I e y u he ry
  obtain ⟨c1, c2, c3⟩ := cmpOk_ok c hu
  exact PySem.W.gt_data r1 r2 c1 c2 c3 ⟨.bl _, H, I, rfl, q⟩
theorem op_leD (hu : X.A.units + 64 < cLine) : OpR X (compareOp .LtE) (rOrdD X.K fun p q => !PySem.W.dataLt q p) := by
  intro pins s σ H x y v u Q I rx ry h
  obtain ⟨d, e, hd, he, c, q⟩ := h
  obtain ⟨as, r1⟩ := Dp.reads I d x v hd rx
  obtain ⟨bs, r2⟩ := Dp.reads I e y u he ry
  obtain ⟨c1, c2, c3⟩ := cmpOk_ok c hu
  exact PySem.W.le_data r1 r2 c1 c2 c3 ⟨.bl _, H, I, rfl, q⟩
theorem op_geD (hu : X.A.units + 64 < cLine) : OpR X (compareOp .GtE) (rOrdD X.K fun p q => !PySem.W.dataLt p q) := by
  intro pins s σ H x y v u Q I rx ry h
  obtain ⟨d, e, hd, he, c, q⟩ := h
  obtain ⟨as, r1⟩ := Dp.reads I d x v hd rx
  obtain ⟨bs, r2⟩ := Dp.reads I e y u he ry
  obtain ⟨c1, c2, c3⟩ := cmpOk_ok c hu
  exact PySem.W.ge_data r1 r2 c1 c2 c3 ⟨.bl _, H, I, rfl, q⟩
def xLt : D → D → Sto → R := alt (iiB fun i j => decide (i < j)) (alt (ssB fun i j => decide (i.cps.toList < j.cps.toList)) (ordB fun p q => PySem.W.dataLt p q))
def xLe : D → D → Sto → R := alt (iiB fun i j => decide (i ≤ j)) (alt (ssB fun i j => !decide (j.cps.toList < i.cps.toList)) (ordB fun p q => !PySem.W.dataLt q p))
def xGt : D → D → Sto → R := alt (iiB fun i j => decide (j < i)) (alt (ssB fun i j => decide (j.cps.toList < i.cps.toList)) (ordB fun p q => PySem.W.dataLt q p))
def xGe : D → D → Sto → R := alt (iiB fun i j => decide (j ≤ i)) (alt (ssB fun i j => !decide (i.cps.toList < j.cps.toList)) (ordB fun p q => !PySem.W.dataLt p q))
end
end PL
end

section
set_option Elab.async false
set_option linter.all false
set_option maxRecDepth 100000
/-! PL36: what a text is made of: x.isascii(), x.isalpha(), x.islower(), x.isdigit() .. -/
namespace PL
open PySem PySem.Spec PyProof.Rows L2
def gIsT (p : Str → Bool) : D → List D → Sto → R
  | .str a, [], S => some (.bl (p a), S)
  | _, _, _ => none
theorem mtS_is {X : Cx} {T : String} {p : Str → Bool} : MtS X T (fun x xs H Q => ∃ a, x = .str a ∧ xs = [] ∧ True ∧ Q (.bl (p a)) H) (gIsT p) := by
  intro x xs S d S' e r H u vs Q s q1 q2 hq
  unfold gIsT at e
  split at e
  case h_2 => cases e
  rename_i a
  cases e
  cases q1
  match vs, q2 with
  | [], .nil => exact ⟨a, rfl, rfl, trivial, hq r H _ s .refl (.bl _)⟩
end PL
end

section
set_option Elab.async false
set_option linter.all false
set_option maxRecDepth 100000
/-! T0: one-to-one calls as sorted lists of pairs: turned about, found, there and back -/
namespace TB
open PySem PySem.Spec PyProof.Rows L2 PL PySem.W
class Lin (α : Type) [DecidableEq α] [DatumOrd α] : Prop where
  irr : ∀ a : α, DatumOrd.lt a a = false
  tr : ∀ a b c : α, DatumOrd.lt a b = true → DatumOrd.lt b c = true → DatumOrd.lt a c = true
  tri : ∀ a b : α, DatumOrd.lt a b = false → DatumOrd.lt b a = false → a = b
theorem ltS (a b : Str) : (DatumOrd.lt a b = true) ↔ a.cps.toList < b.cps.toList := by
  show decide (a.cps.toList < b.cps.toList) = true ↔ _
  simp
instance : Lin Str where
  irr a := by
    cases h : DatumOrd.lt a a with
    | false => rfl
    | true => exact absurd ((ltS a a).mp h) (List.lt_irrefl _)
  tr a b c h1 h2 := (ltS a c).mpr (List.lt_trans ((ltS a b).mp h1) ((ltS b c).mp h2))
  tri a b h1 h2 := by
    have g1 : ¬ a.cps.toList < b.cps.toList := fun h => by rw [(ltS a b).mpr h] at h1; cases h1
    have g2 : ¬ b.cps.toList < a.cps.toList := fun h => by rw [(ltS b a).mpr h] at h2; cases h2
    exact PySem.W.str_of_cps (List.le_antisymm (List.not_lt.mp g2) (List.not_lt.mp g1))
section
variable {α β : Type} [DecidableEq α] [DatumOrd α] [DecidableEq β] [DatumOrd β]
theorem ltP (p q : α × β) : DatumOrd.lt p q = if p.1 = q.1 then DatumOrd.lt p.2 q.2 else DatumOrd.lt p.1 q.1 := rfl
instance [Lin α] [Lin β] : Lin (α × β) where
  irr a := by rw [ltP, if_pos rfl]; exact Lin.irr _
  tr a b c h1 h2 := by
    rw [ltP] at h1 h2 ⊢
    by_cases e1 : a.1 = b.1
    · by_cases e2 : b.1 = c.1
      · rw [if_pos e1] at h1
        rw [if_pos e2] at h2
        rw [if_pos (e1.trans e2)]
        exact Lin.tr _ _ _ h1 h2
      · rw [if_neg e2] at h2
        rw [if_neg (by rw [e1]; exact e2), e1]
        exact h2
    · rw [if_neg e1] at h1
      by_cases e2 : b.1 = c.1
      · rw [← e2, if_neg e1]
        exact h1
      · rw [if_neg e2] at h2
        have h3 := Lin.tr _ _ _ h1 h2
        rw [if_neg (fun e => by
          rw [e] at h1
          have h4 := Lin.tr _ _ _ h1 h2
          rw [Lin.irr] at h4
          cases h4)]
        exact h3
  tri a b h1 h2 := by
    rw [ltP] at h1 h2
    by_cases e1 : a.1 = b.1
    · rw [if_pos e1] at h1
      rw [if_pos e1.symm] at h2
      exact Prod.ext e1 (Lin.tri _ _ h1 h2)
    · rw [if_neg e1] at h1
      rw [if_neg (fun e => e1 e.symm)] at h2
      exact absurd (Lin.tri _ _ h1 h2) e1
end
section
variable {α : Type} [DecidableEq α] [DatumOrd α] [Lin α]
theorem asym {a b : α} (h : DatumOrd.lt a b = true) : DatumOrd.lt b a = false := by
  cases g : DatumOrd.lt b a with
  | false => rfl
  | true =>
    have := Lin.tr _ _ _ h g
    rw [Lin.irr] at this
    cases this
/-- the order that sorts -/
def le (a b : α) : Bool := !DatumOrd.lt b a
theorem le_data : (dataLe false fun a : α => Datum.toD a) = le := by
  rw [dataLe_eq]
  funext a b
  show (!dataLt (Datum.toD b) (Datum.toD a)) = _
  rw [DatumOrd.lt_eq]
  rfl
theorem le_trans (a b c : α) (h1 : le a b = true) (h2 : le b c = true) : le a c = true := by
  simp only [le, Bool.not_eq_true'] at h1 h2 ⊢
  cases g : DatumOrd.lt c a with
  | false => rfl
  | true =>
    cases g2 : DatumOrd.lt a b with
    | true => rw [Lin.tr _ _ _ g g2] at h2; cases h2
    | false =>
      have := Lin.tri _ _ g2 h1
      subst this
      rw [g] at h2
      cases h2
theorem le_total (a b : α) : (le a b || le b a) = true := by
  simp only [le]
  cases g : DatumOrd.lt b a with
  | false => rfl
  | true => rw [asym g]; rfl
theorem le_anti (a b : α) (h1 : le a b = true) (h2 : le b a = true) : a = b := by
  simp only [le, Bool.not_eq_true'] at h1 h2
  exact Lin.tri _ _ h2 h1
theorem sort_uniq {l m : List α} (h : m.Pairwise (fun a b => le a b = true)) (p : m.Perm l) : l.mergeSort le = m :=
  List.Perm.eq_of_pairwise (fun a b _ _ h1 h2 => le_anti a b h1 h2) (List.pairwise_mergeSort le_trans le_total l) h ((List.mergeSort_perm l _).trans p.symm)
abbrev Rows (α : Type) := List (α × α)
def firsts (T : Rows α) : List α := T.map Prod.fst
def seconds (T : Rows α) : List α := T.map Prod.snd
/-- a table's half -/
structure Half (T : Rows α) : Prop where
  up : (firsts T).Pairwise (fun a b => DatumOrd.lt a b = true)
  one : (seconds T).Nodup
def turned (T : Rows α) : Rows α := (T.map Prod.swap).mergeSort le
theorem up_nodup {xs : List α} (h : xs.Pairwise (fun a b => DatumOrd.lt a b = true)) : xs.Nodup := h.imp (fun {a b} g e => by
  subst e
  rw [Lin.irr] at g
  cases g)
theorem Half.nd {T : Rows α} (h : Half T) : (firsts T).Nodup := up_nodup h.up
theorem Half.le {T : Rows α} (h : Half T) : T.Pairwise (fun p q => le p q = true) := (List.pairwise_map.mp h.up).imp (fun {p q} g => by
  show (!DatumOrd.lt q p) = true
  rw [ltP, if_neg (fun e => by rw [e, Lin.irr] at g; cases g), asym g]
  rfl)
theorem half_sort {es : Rows α} (h1 : (firsts es).Nodup) (h2 : (seconds es).Nodup) : Half (es.mergeSort TB.le) := by
  have pm := List.mergeSort_perm es TB.le
  refine ⟨?_, ?_⟩
  · have h3 : (firsts (es.mergeSort TB.le)).Nodup := (pm.map Prod.fst).nodup_iff.mpr h1
    refine List.pairwise_map.mpr ((List.pairwise_mergeSort le_trans le_total es).and (List.pairwise_map.mp h3) |>.imp fun {p q} g => ?_)
    obtain ⟨g1, g2⟩ := g
    have g1' : (!DatumOrd.lt q p) = true := g1
    rw [ltP, if_neg (fun e => g2 e.symm)] at g1'
    cases g3 : DatumOrd.lt p.1 q.1 with
    | true => rfl
    | false => exact absurd (Lin.tri _ _ g3 (by simpa using g1')) g2
  · exact (pm.map Prod.snd).nodup_iff.mpr h2
theorem firsts_swap (T : Rows α) : firsts (T.map Prod.swap) = seconds T := by simp [firsts, seconds]
theorem seconds_swap (T : Rows α) : seconds (T.map Prod.swap) = firsts T := by simp [firsts, seconds]
theorem Half.turn {T : Rows α} (h : Half T) : Half (turned T) := half_sort (by rw [firsts_swap]; exact h.one) (by rw [seconds_swap]; exact h.nd)
theorem Half.back {T : Rows α} (h : Half T) : turned (turned T) = T := by
  refine sort_uniq h.le ?_
  have h1 := (List.mergeSort_perm (T.map Prod.swap) TB.le).map Prod.swap
  have h2 : (T.map Prod.swap).map Prod.swap = T := by simp
  rw [h2] at h1
  exact h1.symm
theorem mem_turned {T : Rows α} {a b : α} : (a, b) ∈ turned T ↔ (b, a) ∈ T := by
  unfold turned
  rw [List.mem_mergeSort, List.mem_map]
  constructor
  · rintro ⟨p, hp, e⟩
    have : p = (b, a) := by rw [← Prod.swap_swap p, e]; rfl
    rw [← this]; exact hp
  · exact fun h => ⟨_, h, rfl⟩
theorem firsts_turned {T : Rows α} {a : α} : a ∈ firsts (turned T) ↔ a ∈ seconds T := by
  simp only [firsts, seconds, List.mem_map]
  constructor
  · rintro ⟨⟨x, y⟩, h, rfl⟩; exact ⟨(y, x), mem_turned.mp h, rfl⟩
  · rintro ⟨⟨x, y⟩, h, rfl⟩; exact ⟨(y, x), mem_turned.mpr h, rfl⟩
theorem seconds_turned {T : Rows α} {a : α} : a ∈ seconds (turned T) ↔ a ∈ firsts T := by
  simp only [firsts, seconds, List.mem_map]
  constructor
  · rintro ⟨⟨x, y⟩, h, rfl⟩; exact ⟨(y, x), mem_turned.mp h, rfl⟩
  · rintro ⟨⟨x, y⟩, h, rfl⟩; exact ⟨(y, x), mem_turned.mpr h, rfl⟩
/-- the call of a thing; other is what it is of one that is no first -/
def call : Rows α → List α → α → Option α → Option α
  | [], ss, _, o => match o with
    | none => none
    | some b => if b ∈ ss then none else some b
  | p :: T, ss, x, o => if p.1 = x then some p.2 else call T ss x o
theorem call_first {T : Rows α} (ss : List α) {x c : α} (o : Option α) (nd : (firsts T).Nodup) (h : (x, c) ∈ T) : call T ss x o = some c := by
  induction T with
  | nil => cases h
  | cons p T ih =>
    unfold call
    rcases List.mem_cons.mp h with e | h
    · subst e
      rw [if_pos rfl]
    · have n1 : p.1 ≠ x := fun e => by
        have := (List.nodup_cons.mp nd).1
        rw [e] at this
        exact this (List.mem_map.mpr ⟨_, h, rfl⟩)
      rw [if_neg n1]
      exact ih (List.nodup_cons.mp nd).2 h
theorem call_none {T : Rows α} (ss : List α) {x : α} (o : Option α) (h : x ∉ firsts T) : call T ss x o = call [] ss x o := by
  induction T with
  | nil => rfl
  | cons p T ih =>
    have h' : x ≠ p.1 ∧ x ∉ firsts T := by simpa [firsts] using h
    unfold call
    rw [if_neg (fun e => h'.1 e.symm), ih h'.2]
    rfl
theorem first_or (T : Rows α) (x : α) : (∃ c, (x, c) ∈ T) ∨ x ∉ firsts T := by
  by_cases h : x ∈ firsts T
  · obtain ⟨p, hp, rfl⟩ := List.mem_map.mp h
    exact .inl ⟨p.2, hp⟩
  · exact .inr h
def cl (T : Rows α) (x : α) (o : Option α) : Option α := call T (seconds T) x o
/-- what a call tells of its thing -/
theorem cl_some {T : Rows α} (h : Half T) {x c : α} {o : Option α} (e : cl T x o = some c) : (x, c) ∈ T ∨ (x ∉ firsts T ∧ o = some c ∧ c ∉ seconds T) := by
  rcases first_or T x with ⟨c', m⟩ | m
  · rw [cl, call_first _ o h.nd m] at e
    cases e
    exact .inl m
  · rw [cl, call_none _ o m] at e
    cases o with
    | none => cases e
    | some b =>
      simp only [call] at e
      split at e
      · cases e
      · rename_i hb
        cases e
        exact .inr ⟨m, rfl, hb⟩
/-- there and back -/
theorem cl_back {T : Rows α} (h : Half T) {x c : α} {o o' : Option α} (e : cl T x o = some c) (ho : o = some c → o' = some x) : cl (turned T) c o' = some x := by
  rcases cl_some h e with m | ⟨m1, m2, m3⟩
  · exact call_first _ _ h.turn.nd (mem_turned.mpr m)
  · rw [cl, call_none _ _ (fun g => m3 (firsts_turned.mp g)), ho m2]
    simp only [call]
    rw [if_neg (fun g => m1 (seconds_turned.mp g))]
end
/-- scenes -/
def sc (T : Rows Str) (x : Str) : Option Str := cl T x (some x)
/-- choices -/
def ch (T : Rows Str) (U : Rows (Str × Str)) (x : Str × Str) : Option (Str × Str) := cl U x ((sc T x.1).map fun s => (s, x.2))
theorem sc_back {T : Rows Str} (h : Half T) {x c : Str} (e : sc T x = some c) : sc (turned T) c = some x := cl_back h e fun g => by cases g; rfl
theorem ch_back {T : Rows Str} {U : Rows (Str × Str)} (h : Half T) (g : Half U) {x c : Str × Str} (e : ch T U x = some c) : ch (turned T) (turned U) c = some x := cl_back g e fun q => by
  obtain ⟨s, q1, q2⟩ := Option.map_eq_some_iff.mp q
  subst q2
  rw [sc_back h q1]
  rfl
theorem sc_inj {T : Rows Str} (h : Half T) {x y c : Str} (e1 : sc T x = some c) (e2 : sc T y = some c) : x = y := by
  have := (sc_back h e1).symm.trans (sc_back h e2)
  exact Option.some.inj this
theorem ch_inj {T : Rows Str} {U : Rows (Str × Str)} (h : Half T) (g : Half U) {x y c : Str × Str} (e1 : ch T U x = some c) (e2 : ch T U y = some c) : x = y := by
  have := (ch_back h g e1).symm.trans (ch_back h g e2)
  exact Option.some.inj this
end TB
end

section
set_option Elab.async false
set_option linter.all false
set_option maxRecDepth 100000
set_option maxHeartbeats 4000000
namespace K53
open PySem PySem.Spec PyProof.Rows L2 PL
def topS (i : Nat) : Stmt := PySem.Challenge.pw_forktales_k53_whole_calls_lead_back.main.body.getD i (.Pass ⟨0, 0, 0, 0⟩)
/-! rises -/
abbrev s0 : Stmt := topS 1
def N0 : List Str := [(Str.ofString "things"), (Str.ofString "low"), (Str.ofString "high")]
def P0 : List Str := [(Str.ofString "things")]
theorem S0 : FnScope N0 P0 (defScope s0) := ⟨rfl, rfl, rfl, by decide +kernel, rfl, by decide +kernel, by decide +kernel⟩
/-! unlike -/
abbrev s1 : Stmt := topS 2
def N1 : List Str := [(Str.ofString "things")]
def P1 : List Str := [(Str.ofString "things")]
theorem S1 : FnScope N1 P1 (defScope s1) := ⟨rfl, rfl, rfl, by decide +kernel, rfl, by decide +kernel, by decide +kernel⟩
/-! is_word -/
abbrev s2 : Stmt := topS 4
def N2 : List Str := [(Str.ofString "thing")]
def P2 : List Str := [(Str.ofString "thing")]
theorem S2 : FnScope N2 P2 (defScope s2) := ⟨rfl, rfl, rfl, by decide +kernel, rfl, by decide +kernel, by decide +kernel⟩
/-! is_word_pair -/
abbrev s3 : Stmt := topS 6
def N3 : List Str := [(Str.ofString "thing")]
def P3 : List Str := [(Str.ofString "thing")]
theorem S3 : FnScope N3 P3 (defScope s3) := ⟨rfl, rfl, rfl, by decide +kernel, rfl, by decide +kernel, by decide +kernel⟩
/-! is_table -/
abbrev s4 : Stmt := topS 8
def N4 : List Str := [(Str.ofString "thing")]
def P4 : List Str := [(Str.ofString "thing")]
theorem S4 : FnScope N4 P4 (defScope s4) := ⟨rfl, rfl, rfl, by decide +kernel, rfl, by decide +kernel, by decide +kernel⟩
/-! is_calls -/
abbrev s5 : Stmt := topS 9
def N5 : List Str := [(Str.ofString "thing"), (Str.ofString "is_one"), (Str.ofString "pair"), (Str.ofString "first"), (Str.ofString "_"), (Str.ofString "second")]
def P5 : List Str := [(Str.ofString "thing"), (Str.ofString "is_one")]
theorem S5 : FnScope N5 P5 (defScope s5) := ⟨rfl, rfl, rfl, by decide +kernel, rfl, by decide +kernel, by decide +kernel⟩
/-! scene_call -/
abbrev s6 : Stmt := topS 10
def N6 : List Str := [(Str.ofString "table"), (Str.ofString "name")]
def P6 : List Str := [(Str.ofString "table"), (Str.ofString "name")]
theorem S6 : FnScope N6 P6 (defScope s6) := ⟨rfl, rfl, rfl, by decide +kernel, rfl, by decide +kernel, by decide +kernel⟩
/-! choice_call -/
abbrev s7 : Stmt := topS 11
def N7 : List Str := [(Str.ofString "table"), (Str.ofString "choice"), (Str.ofString "scene")]
def P7 : List Str := [(Str.ofString "table"), (Str.ofString "choice")]
theorem S7 : FnScope N7 P7 (defScope s7) := ⟨rfl, rfl, rfl, by decide +kernel, rfl, by decide +kernel, by decide +kernel⟩
/-! table_turned -/
abbrev s8 : Stmt := topS 12
def N8 : List Str := [(Str.ofString "table"), (Str.ofString "scenes"), (Str.ofString "choices")]
def P8 : List Str := [(Str.ofString "table")]
theorem S8 : FnScope N8 P8 (defScope s8) := ⟨rfl, rfl, rfl, by decide +kernel, rfl, by decide +kernel, by decide +kernel⟩
/-! _call -/
abbrev s9 : Stmt := topS 13
def N9 : List Str := [(Str.ofString "pairs"), (Str.ofString "thing"), (Str.ofString "other"), (Str.ofString "first"), (Str.ofString "second"), (Str.ofString "_")]
def P9 : List Str := [(Str.ofString "pairs"), (Str.ofString "thing"), (Str.ofString "other")]
theorem S9 : FnScope N9 P9 (defScope s9) := ⟨rfl, rfl, rfl, by decide +kernel, rfl, by decide +kernel, by decide +kernel⟩
/-! _turned -/
abbrev s10 : Stmt := topS 14
def N10 : List Str := [(Str.ofString "pairs"), (Str.ofString "first"), (Str.ofString "second")]
def P10 : List Str := [(Str.ofString "pairs")]
theorem S10 : FnScope N10 P10 (defScope s10) := ⟨rfl, rfl, rfl, by decide +kernel, rfl, by decide +kernel, by decide +kernel⟩
/-! _law_feed -/
abbrev s11 : Stmt := topS 16
def N11 : List Str := [(Str.ofString "_law_script")]
def P11 : List Str := [(Str.ofString "_law_script")]
theorem S11 : FnScope N11 P11 (defScope s11) := ⟨rfl, rfl, rfl, by decide +kernel, rfl, by decide +kernel, by decide +kernel⟩
/-! _law_draw -/
abbrev s12 : Stmt := topS 17
def N12 : List Str := [(Str.ofString "_law_feed_here"), (Str.ofString "_law_size"), (Str.ofString "_law_draws"), (Str.ofString "_law_found"), (Str.ofString "_law_spot"), (Str.ofString "_law_grain"), (Str.ofString "_law_mixed")]
def P12 : List Str := [(Str.ofString "_law_feed_here"), (Str.ofString "_law_size")]
theorem S12 : FnScope N12 P12 (defScope s12) := ⟨rfl, rfl, rfl, by decide +kernel, rfl, by decide +kernel, by decide +kernel⟩
/-! _law_pick -/
abbrev s13 : Stmt := topS 18
def N13 : List Str := [(Str.ofString "_law_feed_here"), (Str.ofString "_law_some")]
def P13 : List Str := [(Str.ofString "_law_feed_here"), (Str.ofString "_law_some")]
theorem S13 : FnScope N13 P13 (defScope s13) := ⟨rfl, rfl, rfl, by decide +kernel, rfl, by decide +kernel, by decide +kernel⟩
/-! _law_wild -/
abbrev s14 : Stmt := topS 19
def N14 : List Str := [(Str.ofString "_law_feed_here"), (Str.ofString "_law_words_now"), (Str.ofString "_law_size"), (Str.ofString "_law_heads"), (Str.ofString "_law_duos"), (Str.ofString "_law_n"), (Str.ofString "_law_near"), (Str.ofString "_law_mate"), (Str.ofString "_law_left"), (Str.ofString "_law_right")]
def P14 : List Str := [(Str.ofString "_law_feed_here"), (Str.ofString "_law_words_now"), (Str.ofString "_law_size")]
theorem S14 : FnScope N14 P14 (defScope s14) := ⟨rfl, rfl, rfl, by decide +kernel, rfl, by decide +kernel, by decide +kernel⟩
/-! _law_one_to_one -/
abbrev s15 : Stmt := topS 20
def N15 : List Str := [(Str.ofString "_law_calls"), (Str.ofString "_law_backs"), (Str.ofString "_law_found"), (Str.ofString "_law_thing_now"), (Str.ofString "_law_called")]
def P15 : List Str := [(Str.ofString "_law_calls"), (Str.ofString "_law_backs")]
theorem S15 : FnScope N15 P15 (defScope s15) := ⟨rfl, rfl, rfl, by decide +kernel, rfl, by decide +kernel, by decide +kernel⟩
/-! _law_both_right -/
abbrev s16 : Stmt := topS 21
def N16 : List Str := [(Str.ofString "_law_grid"), (Str.ofString "_law_spots"), (Str.ofString "_law_turned"), (Str.ofString "_law_duos"), (Str.ofString "_law_spot"), (Str.ofString "_law_sign"), (Str.ofString "_law_calls"), (Str.ofString "_law_backs"), (Str.ofString "_law_called"), (Str.ofString "_law_duo")]
def P16 : List Str := [(Str.ofString "_law_grid"), (Str.ofString "_law_spots")]
theorem S16 : FnScope N16 P16 (defScope s16) := ⟨rfl, rfl, rfl, by decide +kernel, rfl, by decide +kernel, by decide +kernel⟩
/-! law -/
abbrev s17 : Stmt := topS 22
def N17 : List Str := [(Str.ofString "_law_script"), (Str.ofString "_law_feed_here"), (Str.ofString "_law_spots"), (Str.ofString "_law_lap"), (Str.ofString "_law_grid"), (Str.ofString "_law_turned"), (Str.ofString "_law_spot")]
def P17 : List Str := [(Str.ofString "_law_script")]
theorem S17 : FnScope N17 P17 (defScope s17) := ⟨rfl, rfl, rfl, by decide +kernel, rfl, by decide +kernel, by decide +kernel⟩
def dS (i : Nat) : Stmt := match i with
  | 0 => s0
  | 1 => s1
  | 2 => s2
  | 3 => s3
  | 4 => s4
  | 5 => s5
  | 6 => s6
  | 7 => s7
  | 8 => s8
  | 9 => s9
  | 10 => s10
  | 11 => s11
  | 12 => s12
  | 13 => s13
  | 14 => s14
  | 15 => s15
  | 16 => s16
  | 17 => s17
  | _ => s0
def dX (i : Nat) : Str := match i with
  | 0 => (Str.ofString "rises")
  | 1 => (Str.ofString "unlike")
  | 2 => (Str.ofString "is_word")
  | 3 => (Str.ofString "is_word_pair")
  | 4 => (Str.ofString "is_table")
  | 5 => (Str.ofString "is_calls")
  | 6 => (Str.ofString "scene_call")
  | 7 => (Str.ofString "choice_call")
  | 8 => (Str.ofString "table_turned")
  | 9 => (Str.ofString "_call")
  | 10 => (Str.ofString "_turned")
  | 11 => (Str.ofString "_law_feed")
  | 12 => (Str.ofString "_law_draw")
  | 13 => (Str.ofString "_law_pick")
  | 14 => (Str.ofString "_law_wild")
  | 15 => (Str.ofString "_law_one_to_one")
  | 16 => (Str.ofString "_law_both_right")
  | 17 => (Str.ofString "law")
  | _ => Str.empty
def dP (i : Nat) : List Str := match i with
  | 0 => P0
  | 1 => P1
  | 2 => P2
  | 3 => P3
  | 4 => P4
  | 5 => P5
  | 6 => P6
  | 7 => P7
  | 8 => P8
  | 9 => P9
  | 10 => P10
  | 11 => P11
  | 12 => P12
  | 13 => P13
  | 14 => P14
  | 15 => P15
  | 16 => P16
  | 17 => P17
  | _ => []
def dN (i : Nat) : Nat := match i with
  | 0 => 1
  | 1 => 1
  | 2 => 1
  | 3 => 1
  | 4 => 1
  | 5 => 2
  | 6 => 2
  | 7 => 2
  | 8 => 1
  | 9 => 3
  | 10 => 1
  | 11 => 1
  | 12 => 2
  | 13 => 2
  | 14 => 3
  | 15 => 2
  | 16 => 2
  | 17 => 1
  | _ => 0
def fsV (x : Str) : Option (Nat × Nat) := if x = (Str.ofString "is_word") then some (2, 1) else if x = (Str.ofString "is_word_pair") then some (3, 1) else none
structure Txt (K : PySem.W.Frag) (mg : Str → Option Value) (f : Nat → Addr) (fd : Nat → FuncData) : Prop where
  d : ∀ i, i < 18 → DefAt K mg (dX i) (dS i) (dP i) (f i) (fd i)
  b_all : mg (Str.ofString "all") = none
  b_dict : mg (Str.ofString "dict") = none
  b_isinstance : mg (Str.ofString "isinstance") = none
  b_len : mg (Str.ofString "len") = none
  b_list : mg (Str.ofString "list") = none
  b_range : mg (Str.ofString "range") = none
  b_repr : mg (Str.ofString "repr") = none
  b_set : mg (Str.ofString "set") = none
  b_sorted : mg (Str.ofString "sorted") = none
  b_str : mg (Str.ofString "str") = none
  b_tuple : mg (Str.ofString "tuple") = none
  b_zip : mg (Str.ofString "zip") = none
/-- rises -/
def m0 (C : Nat → MF) : MF := mBody 3 (mRet (mBlt gAll (mCons (mLc (mZip (mCons (mVar 0) (mCons (mSl slA (mVar 0) (mPart (mC (.int 1))) (mNo)) (mNil)))) (gT 2 (gsC (gN 1) (gsC (gN 2) (gsN)))) (mYes) (mBin xLt (mVar 1) (mVar 2)) [1, 2]) (mNil))))
/-- unlike -/
def m1 (C : Nat → MF) : MF := mBody 1 (mRet (mBin dEq (mLenSetX (mVar 0)) (mBlt gLen (mCons (mVar 0) (mNil)))))
/-- is_word -/
def m2 (C : Nat → MF) : MF := mBody 1 (mSeq (mIfS (mOrT (mNotT (mTru (mBlt gIsi (mCons (mVar 0) (mCons (mC (.ty "str")) (mNil)))))) (asB (mBin xGt (mBlt gLen (mCons (mVar 0) (mNil))) (mC (.int 8))))) (mRet (mC (.bl false))) (mNext))
    (mRet (mAndV (mMt "str" (gIsT Txt.isascii) (mVar 0) mNil) (mAndV (mMt "str" (gIsT Txt.isalpha) (mVar 0) mNil) (mMt "str" (gIsT Txt.islower) (mVar 0) mNil)))))
/-- is_word_pair -/
def m3 (C : Nat → MF) : MF := mBody 1 (mRet (mAndV (mBlt gIsi (mCons (mVar 0) (mCons (mC (.ty "tuple")) (mNil)))) (mAndV (mBin dEq (mBlt gLen (mCons (mVar 0) (mNil))) (mC (.int 2))) (mAndV (mCall 1 (C 2) (mCons (mBin ixA (mVar 0) (mC (.int 0))) (mNil))) (mCall 1 (C 2) (mCons (mBin ixA (mVar 0) (mC (.int 1))) (mNil)))))))
/-- is_table -/
def m4 (C : Nat → MF) : MF := mBody 1 (mSeq (mIfS (mOrT (mNotT (mTru (mBlt gIsi (mCons (mVar 0) (mCons (mC (.ty "tuple")) (mNil)))))) (asB (mBin dNe (mBlt gLen (mCons (mVar 0) (mNil))) (mC (.int 2))))) (mRet (mC (.bl false))) (mNext))
    (mRet (mAndV (mCall 2 (C 5) (mCons (mBin ixA (mVar 0) (mC (.int 0))) (mCons (mC (.fn (Str.ofString "is_word"))) (mNil)))) (mCall 2 (C 5) (mCons (mBin ixA (mVar 0) (mC (.int 1))) (mCons (mC (.fn (Str.ofString "is_word_pair"))) (mNil)))))))
/-- is_calls -/
def m5 (C : Nat → MF) : MF := mBody 6 (mSeq (mIfS (mNotT (mTru (mBlt gIsi (mCons (mVar 0) (mCons (mC (.ty "tuple")) (mNil)))))) (mRet (mC (.bl false))) (mNext))
    (mSeq (mFor (mItr (mVar 0)) (gN 2) (mSeq (mIfS (mOrT (mNotT (mTru (mBlt gIsi (mCons (mVar 2) (mCons (mC (.ty "tuple")) (mNil)))))) (asB (mBin dNe (mBlt gLen (mCons (mVar 2) (mNil))) (mC (.int 2))))) (mRet (mC (.bl false))) (mNext))
    (mIfS (mOrT (mNotT (mTru (mCallV 1 fsV C (mCons (mBin ixA (mVar 2) (mC (.int 0))) (mNil))))) (mNotT (mTru (mCallV 1 fsV C (mCons (mBin ixA (mVar 2) (mC (.int 1))) (mNil)))))) (mRet (mC (.bl false))) (mNext))))
    (mRet (mAndV (mCall 1 (C 0) (mCons (mLc (mItr (mVar 0)) (gT 2 (gsC (gN 3) (gsC (gN 4) (gsN)))) (mYes) (mVar 3) [3, 4]) (mNil))) (mCall 1 (C 1) (mCons (mLc (mItr (mVar 0)) (gT 2 (gsC (gN 4) (gsC (gN 5) (gsN)))) (mYes) (mVar 5) [4, 5]) (mNil)))))))
/-- scene_call -/
def m6 (C : Nat → MF) : MF := mBody 2 (mRet (mIf (mTru (mCall 1 (C 2) (mCons (mVar 1) (mNil)))) (mCall 3 (C 9) (mCons (mBin ixA (mVar 0) (mC (.int 0))) (mCons (mVar 1) (mCons (mVar 1) (mNil))))) (mC .non)))
/-- choice_call -/
def m7 (C : Nat → MF) : MF := mBody 3 (mSeq (mIfS (mNotT (mTru (mCall 1 (C 3) (mCons (mVar 1) (mNil))))) (mRet (mC .non)) (mNext))
    (mSeq (mAsg (mCall 2 (C 6) (mCons (mVar 0) (mCons (mBin ixA (mVar 1) (mC (.int 0))) (mNil)))) (gN 2))
    (mRet (mCall 3 (C 9) (mCons (mBin ixA (mVar 0) (mC (.int 1))) (mCons (mVar 1) (mCons (mIf (asB (mBin dIsO (mVar 2) (mC .non))) (mC .non) (mTup (mCons (mVar 2) (mCons (mBin ixA (mVar 1) (mC (.int 1))) (mNil))))) (mNil))))))))
/-- table_turned -/
def m8 (C : Nat → MF) : MF := mBody 3 (mSeq (mAsg (mVar 0) (gT 2 (gsC (gN 1) (gsC (gN 2) (gsN)))))
    (mRet (mTup (mCons (mCall 1 (C 10) (mCons (mVar 1) (mNil))) (mCons (mCall 1 (C 10) (mCons (mVar 2) (mNil))) (mNil))))))
/-- _call -/
def m9 (C : Nat → MF) : MF := mBody 6 (mSeq (mFor (mItr (mVar 0)) (gT 2 (gsC (gN 3) (gsC (gN 4) (gsN)))) (mIfS (asB (mBin dEq (mVar 3) (mVar 1))) (mRet (mVar 4)) (mNext)))
    (mRet (mIf (mOrTT (asB (mBin (inA id) (mVar 2) (mLc (mItr (mVar 0)) (gT 2 (gsC (gN 5) (gsC (gN 4) (gsN)))) (mYes) (mVar 4) [5, 4]))) (asB (mBin (inP false) (mVar 2) (mLc (mItr (mVar 0)) (gT 2 (gsC (gN 5) (gsC (gN 4) (gsN)))) (mYes) (mVar 4) [5, 4])))) (mC .non) (mVar 2))))
/-- _turned -/
def m10 (C : Nat → MF) : MF := mBody 3 (mRet (mBlt gTuple (mCons (mBlt gSorted (mCons (mLc (mItr (mVar 0)) (gT 2 (gsC (gN 1) (gsC (gN 2) (gsN)))) (mYes) (mTup (mCons (mVar 2) (mCons (mVar 1) (mNil)))) [1, 2]) (mNil))) (mNil))))
/-- _law_feed -/
def m11 (C : Nat → MF) : MF := mBody 1 (mRet (mDisp [(mC (.str (Str.ofString "cells")), mBlt gList (mCons (mSl slA (mVar 0) (mNo) (mPart (mC (.int 63)))) (mNil))), (mC (.str (Str.ofString "next")), mC (.int 0)), (mC (.str (Str.ofString "left")), mC (.int 0)), (mC (.str (Str.ofString "draws")), mC (.int 0))]))
/-- _law_draw -/
def m12 (C : Nat → MF) : MF := mBody 7 (mSeq (mAsg (mBin dAdd (mBin ixA (mVar 0) (mC (.str (Str.ofString "draws")))) (mC (.int 1))) (gN 2))
    (mSeq (mAsg (mVar 2) (gSubM (mVar 0) (mC (.str (Str.ofString "draws"))) setSeq))
    (mSeq (mIfS (asB (mBin xGt (mBin ixA (mVar 0) (mC (.str (Str.ofString "left")))) (mC (.int 0)))) (mSeq (mAsg (mBin dMod (mBin ixA (mVar 0) (mC (.str (Str.ofString "left")))) (mVar 1)) (gN 3))
    (mSeq (mAsg (mBin dDiv (mBin ixA (mVar 0) (mC (.str (Str.ofString "left")))) (mVar 1)) (gSubM (mVar 0) (mC (.str (Str.ofString "left"))) setSeq))
    (mRet (mVar 3)))) (mNext))
    (mSeq (mAsg (mBin ixA (mVar 0) (mC (.str (Str.ofString "next")))) (gN 4))
    (mSeq (mAsg (mBin dAdd (mVar 4) (mC (.int 1))) (gSubM (mVar 0) (mC (.str (Str.ofString "next"))) setSeq))
    (mSeq (mAsg (mC (.int 0)) (gN 5))
    (mSeq (mIfS (asB (mBin dNe (mBin ixA (mVar 0) (mC (.str (Str.ofString "cells")))) (mLst (mNil)))) (mAsg (mBin ixA (mBin ixA (mVar 0) (mC (.str (Str.ofString "cells")))) (mBin dMod (mVar 4) (mBlt gLen (mCons (mBin ixA (mVar 0) (mC (.str (Str.ofString "cells")))) (mNil))))) (gN 5)) (mNext))
    (mSeq (mIfS (mAndT (asB (mBin xGe (mVar 5) (mBin dPow (mC (.int 10)) (mC (.int 18))))) (asB (mBin xLt (mVar 4) (mBlt gLen (mCons (mBin ixA (mVar 0) (mC (.str (Str.ofString "cells")))) (mNil)))))) (mSeq (mAsg (mBin dDiv (mVar 5) (mVar 1)) (gSubM (mVar 0) (mC (.str (Str.ofString "left"))) setSeq))
    (mRet (mBin dMod (mVar 5) (mVar 1)))) (mNext))
    (mSeq (mAsg (mBin dMod (mBin dPow (mBin dAdd (mBin dAdd (mBin dMod (mVar 5) (mC (.int 2147483629))) (mBin dMul (mC (.int 7919)) (mVar 2))) (mC (.int 1))) (mC (.int 5))) (mC (.int 2147483647))) (gN 6))
    (mSeq (mAsg (mBin dMod (mBin dPow (mBin dAdd (mVar 6) (mBin dMul (mC (.int 104729)) (mVar 2))) (mC (.int 5))) (mC (.int 2147483587))) (gN 6))
    (mRet (mBin dMod (mBin dDiv (mVar 6) (mC (.int 64))) (mVar 1)))))))))))))
/-- _law_pick -/
def m13 (C : Nat → MF) : MF := mBody 2 (mRet (mBin ixA (mVar 1) (mCall 2 (C 12) (mCons (mVar 0) (mCons (mBlt gLen (mCons (mVar 1) (mNil))) (mNil))))))
/-- _law_wild -/
def m14 (C : Nat → MF) : MF := mBody 10 (mSeq (mPar [3, 4] (mCons (mEmpty) (mCons (mEmptyT) (mNil))))
    (mSeq (mFor (mR1 (mCons (mVar 2) (mNil))) (gN 5) (mSeq (mPar [6, 7] (mCons (mCall 2 (C 13) (mCons (mVar 0) (mCons (mVar 1) (mNil)))) (mCons (mCall 2 (C 13) (mCons (mVar 0) (mCons (mVar 1) (mNil)))) (mNil))))
    (mSeq (mIfS (mAndT (mOrTT (asB (mBin (inA not) (mVar 6) (mVar 3))) (asB (mBin (inP true) (mVar 6) (mVar 3)))) (mOrTT (asB (mBin (inA not) (mVar 7) (mListVals (mVar 3)))) (asB (mBin (inP true) (mVar 7) (mListVals (mVar 3)))))) (mAsg (mVar 7) (gSubM (mVar 3) (mVar 6) setSeq)) (mNext))
    (mSeq (mAsg (mTup (mCons (mCall 2 (C 13) (mCons (mVar 0) (mCons (mVar 1) (mNil)))) (mCons (mCall 2 (C 13) (mCons (mVar 0) (mCons (mLst (mCons (mC (.str (Str.ofString "x"))) (mCons (mC (.str (Str.ofString "y"))) (mNil)))) (mNil)))) (mNil)))) (gN 8))
    (mSeq (mAsg (mTup (mCons (mCall 2 (C 13) (mCons (mVar 0) (mCons (mVar 1) (mNil)))) (mCons (mCall 2 (C 13) (mCons (mVar 0) (mCons (mLst (mCons (mC (.str (Str.ofString "x"))) (mCons (mC (.str (Str.ofString "y"))) (mNil)))) (mNil)))) (mNil)))) (gN 9))
    (mIfS (mAndT (mOrTT (asB (mBin (inA not) (mVar 8) (mVar 4))) (asB (mBin (inP true) (mVar 8) (mVar 4)))) (mOrTT (asB (mBin (inA not) (mVar 9) (mListVals (mVar 4)))) (asB (mBin (inP true) (mVar 9) (mListVals (mVar 4)))))) (mAsg (mVar 9) (gSubM (mVar 4) (mVar 8) setSeq)) (mNext)))))))
    (mRet (mTup (mCons (mBlt gTuple (mCons (mSortItems (mVar 3)) (mNil))) (mCons (mBlt gTuple (mCons (mSortItems (mVar 4)) (mNil))) (mNil)))))))
/-- _law_one_to_one -/
def m15 (C : Nat → MF) : MF := mBody 5 (mSeq (mAsg (mSel (selT 1) (mEmptyT) (mEmpty)) (gN 2))
    (mSeq (mFor (mItr (mVar 0)) (gT 2 (gsC (gN 3) (gsC (gN 4) (gsN)))) (mSeq (mIfS (asB (mBin dIsO (mVar 4) (mC .non))) (mCt) (mNext))
    (mSeq (mIfS (mOrT (mOrTT (asB (mBin (inA id) (mVar 4) (mVar 2))) (asB (mBin (inP false) (mVar 4) (mVar 2)))) (asB (mBin dNe (mBlt (gOr gRepr gReprS) (mCons (mBin ixA (mVar 1) (mVar 4)) (mNil))) (mBlt (gOr gRepr gReprS) (mCons (mVar 3) (mNil)))))) (mRet (mC (.bl false))) (mNext))
    (mAsg (mVar 3) (gSubM (mVar 2) (mVar 4) setSeq)))))
    (mRet (mC (.bl true)))))
/-- _law_both_right -/
def m16 (C : Nat → MF) : MF := mBody 10 (mSeq (mAsg (mTup (mCons (mCall 1 (C 8) (mCons (mVar 0) (mNil))) (mCons (mLst (mNil)) (mNil)))) (gT 2 (gsC (gN 2) (gsC (gN 3) (gsN)))))
    (mSeq (mFor (mItr (mVar 1)) (gN 4) (mDrop (mMt "list" gExtend (mVar 3) (mCons (mLc (mItr (mTup (mCons (mC (.str (Str.ofString "x"))) (mCons (mC (.str (Str.ofString "y"))) (mCons (mC (.str (Str.ofString "w"))) (mNil)))))) (gN 5) (mYes) (mTup (mCons (mVar 4) (mCons (mVar 5) (mNil)))) [5]) (mNil)))))
    (mSeq (mAsg (mLc (mItr (mVar 1)) (gN 4) (mYes) (mTup (mCons (mVar 4) (mCons (mCall 2 (C 6) (mCons (mVar 0) (mCons (mVar 4) (mNil)))) (mNil)))) [4]) (gN 6))
    (mSeq (mAsg (mBlt (gOr gDict gDictT) (mCons (mLc (mItr (mVar 6)) (gT 2 (gsC (gN 4) (gsC (gN 8) (gsN)))) (asB (mBin dIsNotO (mVar 8) (mC .non))) (mTup (mCons (mVar 8) (mCons (mCall 2 (C 6) (mCons (mVar 2) (mCons (mVar 8) (mNil)))) (mNil)))) [4, 8]) (mNil))) (gN 7))
    (mSeq (mIfS (mNotT (mTru (mCall 2 (C 15) (mCons (mVar 6) (mCons (mVar 7) (mNil)))))) (mRet (mC (.bl false))) (mNext))
    (mSeq (mAsg (mLc (mItr (mVar 3)) (gN 9) (mYes) (mTup (mCons (mVar 9) (mCons (mCall 2 (C 7) (mCons (mVar 0) (mCons (mVar 9) (mNil)))) (mNil)))) [9]) (gN 6))
    (mSeq (mAsg (mBlt (gOr gDict gDictT) (mCons (mLc (mItr (mVar 6)) (gT 2 (gsC (gN 9) (gsC (gN 8) (gsN)))) (asB (mBin dIsNotO (mVar 8) (mC .non))) (mTup (mCons (mVar 8) (mCons (mCall 2 (C 7) (mCons (mVar 2) (mCons (mVar 8) (mNil)))) (mNil)))) [9, 8]) (mNil))) (gN 7))
    (mRet (mCall 2 (C 15) (mCons (mVar 6) (mCons (mVar 7) (mNil))))))))))))
/-- law -/
def m17 (C : Nat → MF) : MF := mBody 7 (mSeq (mAsg (mCall 1 (C 11) (mCons (mVar 0) (mNil))) (gN 1))
    (mSeq (mAsg (mLst (mCons (mC (.str (Str.ofString "a"))) (mCons (mC (.str (Str.ofString "b"))) (mCons (mC (.str (Str.ofString "c"))) (mCons (mC (.str (Str.ofString "dd"))) (mCons (mC (.str (Str.ofString "q"))) (mNil))))))) (gN 2))
    (mSeq (mFor (mR1 (mCons (mC (.int 6)) (mNil))) (gN 3) (mSeq (mAsg (mCall 3 (C 14) (mCons (mVar 1) (mCons (mSl slA (mVar 2) (mNo) (mPart (mBin dAdd (mC (.int 2)) (mBin dMod (mVar 3) (mC (.int 4)))))) (mCons (mBin dAdd (mC (.int 2)) (mVar 3)) (mNil))))) (gN 4))
    (mSeq (mIfS (asB (mBin dEq (mVar 3) (mC (.int 0)))) (mAsg (mTup (mCons (mTup (mCons (mTup (mCons (mC (.str (Str.ofString "a"))) (mCons (mC (.str (Str.ofString "b"))) (mNil)))) (mCons (mTup (mCons (mC (.str (Str.ofString "b"))) (mCons (mC (.str (Str.ofString "c"))) (mNil)))) (mCons (mTup (mCons (mC (.str (Str.ofString "c"))) (mCons (mC (.str (Str.ofString "a"))) (mNil)))) (mNil))))) (mCons (mTup (mCons (mTup (mCons (mTup (mCons (mC (.str (Str.ofString "a"))) (mCons (mC (.str (Str.ofString "x"))) (mNil)))) (mCons (mTup (mCons (mC (.str (Str.ofString "q"))) (mCons (mC (.str (Str.ofString "y"))) (mNil)))) (mNil)))) (mCons (mTup (mCons (mTup (mCons (mC (.str (Str.ofString "q"))) (mCons (mC (.str (Str.ofString "y"))) (mNil)))) (mCons (mTup (mCons (mC (.str (Str.ofString "a"))) (mCons (mC (.str (Str.ofString "x"))) (mNil)))) (mNil)))) (mNil)))) (mNil)))) (gN 4)) (mNext))
    (mSeq (mAsg (mCall 1 (C 8) (mCons (mVar 4) (mNil))) (gN 5))
    (mSeq (mIfS (mOrT (asB (mBin dIsNotO (mCall 1 (C 4) (mCons (mVar 5) (mNil))) (mC (.bl true)))) (asB (mBin dNe (mBlt (gOr gRepr gReprS) (mCons (mCall 1 (C 8) (mCons (mVar 5) (mNil))) (mNil))) (mBlt (gOr gRepr gReprS) (mCons (mVar 4) (mNil)))))) (mRet (mC (.bl false))) (mNext))
    (mIfS (mOrT (mNotT (mTru (mCall 2 (C 16) (mCons (mVar 4) (mCons (mVar 2) (mNil)))))) (mNotT (mTru (mCall 2 (C 16) (mCons (mVar 5) (mCons (mVar 2) (mNil))))))) (mRet (mC (.bl false))) (mNext)))))))
    (mSeq (mFor (mItr (mVar 2)) (gN 6) (mIfS (mOrT (asB (mBin dNe (mCall 2 (C 6) (mCons (mTup (mCons (mTup (mNil)) (mCons (mTup (mNil)) (mNil)))) (mCons (mVar 6) (mNil)))) (mVar 6))) (asB (mBin dNe (mCall 2 (C 7) (mCons (mTup (mCons (mTup (mNil)) (mCons (mTup (mNil)) (mNil)))) (mCons (mTup (mCons (mVar 6) (mCons (mC (.str (Str.ofString "x"))) (mNil)))) (mNil)))) (mTup (mCons (mVar 6) (mCons (mC (.str (Str.ofString "x"))) (mNil))))))) (mRet (mC (.bl false))) (mNext)))
    (mRet (mBin dEq (mCall 1 (C 8) (mCons (mTup (mCons (mTup (mNil)) (mCons (mTup (mNil)) (mNil)))) (mNil))) (mTup (mCons (mTup (mNil)) (mCons (mTup (mNil)) (mNil))))))))))
def lv : Nat → Nat → MF
  | 0, _ => fun _ _ => none
  | k + 1, i => match i with
    | 0 => m0 (lv k)
    | 1 => m1 (lv k)
    | 2 => m2 (lv k)
    | 3 => m3 (lv k)
    | 4 => m4 (lv k)
    | 5 => m5 (lv k)
    | 6 => m6 (lv k)
    | 7 => m7 (lv k)
    | 8 => m8 (lv k)
    | 9 => m9 (lv k)
    | 10 => m10 (lv k)
    | 11 => m11 (lv k)
    | 12 => m12 (lv k)
    | 13 => m13 (lv k)
    | 14 => m14 (lv k)
    | 15 => m15 (lv k)
    | 16 => m16 (lv k)
    | 17 => m17 (lv k)
    | _ => fun _ _ => none
section
variable {P : Program} {w : World} {K : PySem.W.Frag} {mg : Str → Option Value} {base : Heap} {f : Nat → Addr} {fd : Nat → FuncData}
theorem fsV_ok (T : Txt K mg f fd) {k : Nat} {C : Nat → MF} (G : ∀ i, i < 18 → FnG P w K mg base k (f i) (fd i) (dP i) (spM K mg (dN i) (C i))) : ∀ y j n, fsV y = some (j, n) → ∃ (a : Addr) (d : FuncData) (ps : List Str), mg y = some (.ref a) ∧ FnG P w K mg base k a d ps (spM K mg n (C j)) ∧ PySem.W.keepIn K (.ref a) = true ∧ Binds K d ps [] := by
  intro y j n h
  unfold fsV at h
  by_cases c2 : y = (Str.ofString "is_word")
  · rw [if_pos c2] at h
    cases h
    subst c2
    exact ⟨f 2, fd 2, dP 2, (T.d 2 (by decide)).mg, G 2 (by decide), (T.d 2 (by decide)).fn.kp, (T.d 2 (by decide)).bi⟩
  rw [if_neg c2] at h
  by_cases c3 : y = (Str.ofString "is_word_pair")
  · rw [if_pos c3] at h
    cases h
    subst c3
    exact ⟨f 3, fd 3, dP 3, (T.d 3 (by decide)).mg, G 3 (by decide), (T.d 3 (by decide)).fn.kp, (T.d 3 (by decide)).bi⟩
  rw [if_neg c3] at h
  cases h
theorem ok0 (T : Txt K mg f fd) {k : Nat} {C : Nat → MF} (G : ∀ i, i < 18 → FnG P w K mg base k (f i) (fd i) (dP i) (spM K mg (dN i) (C i))) : FnG P w K mg base (k + 1) (f 0) (fd 0) (dP 0) (spM K mg 1 (m0 C)) := by
  refine fnG_ok (st := s0) (x := (Str.ofString "rises")) (qual := (Str.ofString "rises")) (T.d 0 (by decide)).fn S0 rfl (fun cdv A outer s H E hr hgd => ?_)
  refine cSs_one ?_
  refine cS_ret ?_
  refine kB (cr_all rfl) callS_all T.b_all (by rfl) ?_
  refine kA ?_ ?_
  · refine kLc (L := ([1] ++ ([2] ++ []))) (own := [ ((Str.ofString "low") , 1) , ((Str.ofString "high") , 2) ]) rfl S0.nd ?_ (by exact show blkC N0 (defScope s0) _ [ ((Str.ofString "low") , 1) , ((Str.ofString "high") , 2) ] = true from by decide +kernel) (by decide) (fun _ _ _ _ _ => ?_) (fun _ _ _ _ _ => ?_) (fun _ _ _ _ _ => ?_)
    · refine kZip T.b_zip ?_
      refine kA ?_ ?_
      · exact cV 0
      · refine kA ?_ ?_
        · refine cE_slA ?_ ?_ ?_
          · exact cV 0
          · refine cO_some ?_
            exact cE_int 
          · exact cO_none 
        · exact cA_nil 
    · refine kGt rfl ?_
      refine kGc ?_ ?_
      · exact cGn 1 S0.nd
      · refine kGc ?_ ?_
        · exact cGn 2 S0.nd
        · exact cGs_nil 
    · exact cTs_nil 
    · refine kCmp (op_lt.or (op_lt_str.or (op_ltD hr.units))) (OpS.alt opS_iiB (OpS.alt opS_ssB opS_ord)) ?_ ?_
      · exact cV 1
      · exact cV 2
  · exact cA_nil 
theorem ok1 (T : Txt K mg f fd) {k : Nat} {C : Nat → MF} (G : ∀ i, i < 18 → FnG P w K mg base k (f i) (fd i) (dP i) (spM K mg (dN i) (C i))) : FnG P w K mg base (k + 1) (f 1) (fd 1) (dP 1) (spM K mg 1 (m1 C)) := by
  refine fnG_ok (st := s1) (x := (Str.ofString "unlike")) (qual := (Str.ofString "unlike")) (T.d 1 (by decide)).fn S1 rfl (fun cdv A outer s H E hr hgd => ?_)
  refine cSs_one ?_
  refine cS_ret ?_
  refine kCmp (op_eq.or (op_eqD hr.units)) (OpS.alt opS_sEq opS_deepEq) ?_ ?_
  · refine kLenSetX rfl hr.units T.b_len T.b_set ?_
    exact cV 0
  · refine kB (call_len_seq.or call_len_str) callS_len T.b_len PySem.boot_len ?_
    refine kA ?_ ?_
    · exact cV 0
    · exact cA_nil 
theorem ok2 (T : Txt K mg f fd) {k : Nat} {C : Nat → MF} (G : ∀ i, i < 18 → FnG P w K mg base k (f i) (fd i) (dP i) (spM K mg (dN i) (C i))) : FnG P w K mg base (k + 1) (f 2) (fd 2) (dP 2) (spM K mg 1 (m2 C)) := by
  refine fnG_ok (st := s2) (x := (Str.ofString "is_word")) (qual := (Str.ofString "is_word")) (T.d 2 (by decide)).fn S2 rfl (fun cdv A outer s H E hr hgd => ?_)
  refine cSs_cons ?_ ?_
  · refine cS_if ?_ ?_ ?_
    · refine cT_w ?_
      refine cW_or ?_ ?_
      · refine cT_not ?_
        refine kTru ?_
        refine kB call_isi callS_isi T.b_isinstance (by rfl) ?_
        refine kA ?_ ?_
        · exact cV 0
        · refine kA ?_ ?_
          · exact cE_bty T.b_str (by rfl)
          · exact cA_nil 
      · refine cW_or1 ?_
        refine kCmpT (op_gt.or (op_gt_str.or (op_gtD hr.units))) (OpS.alt opS_iiB (OpS.alt opS_ssB opS_ord)) ?_ ?_
        · refine kB (call_len_seq.or call_len_str) callS_len T.b_len PySem.boot_len ?_
          refine kA ?_ ?_
          · exact cV 0
          · exact cA_nil 
        · exact cE_int 
    · refine cSs_one ?_
      refine cS_ret ?_
      exact cE_bl 
    · exact cSs_nil 
  · refine cSs_one ?_
    refine cS_ret ?_
    refine cE_and ?_ ?_
    · refine kMt0 PySem.F.plainAttrs_str PySem.F.slot_str_isascii PySem.F.type_str_isascii mt_isascii mtS_is ?_
      exact cV 0
    · refine cE_and ?_ ?_
      · refine kMt0 PySem.F.plainAttrs_str PySem.F.slot_str_isalpha PySem.F.type_str_isalpha mt_isalpha mtS_is ?_
        exact cV 0
      · refine cE_one ?_
        refine kMt0 PySem.F.plainAttrs_str PySem.F.slot_str_islower PySem.F.type_str_islower mt_islower mtS_is ?_
        exact cV 0
theorem ok3 (T : Txt K mg f fd) {k : Nat} {C : Nat → MF} (G : ∀ i, i < 18 → FnG P w K mg base k (f i) (fd i) (dP i) (spM K mg (dN i) (C i))) : FnG P w K mg base (k + 1) (f 3) (fd 3) (dP 3) (spM K mg 1 (m3 C)) := by
  refine fnG_ok (st := s3) (x := (Str.ofString "is_word_pair")) (qual := (Str.ofString "is_word_pair")) (T.d 3 (by decide)).fn S3 rfl (fun cdv A outer s H E hr hgd => ?_)
  refine cSs_one ?_
  refine cS_ret ?_
  refine cE_and ?_ ?_
  · refine kB call_isi callS_isi T.b_isinstance (by rfl) ?_
    refine kA ?_ ?_
    · exact cV 0
    · refine kA ?_ ?_
      · exact cE_bty T.b_tuple (by rfl)
      · exact cA_nil 
  · refine cE_and ?_ ?_
    · refine kCmp (op_eq.or (op_eqD hr.units)) (OpS.alt opS_sEq opS_deepEq) ?_ ?_
      · refine kB (call_len_seq.or call_len_str) callS_len T.b_len PySem.boot_len ?_
        refine kA ?_ ?_
        · exact cV 0
        · exact cA_nil 
      · exact cE_int 
    · refine cE_and ?_ ?_
      · refine kCall (x := dX 2) (ps := P2) (G 2 (by decide)) hr hgd (T.d 2 (by decide)).fn.kp (T.d 2 (by decide)).bi (T.d 2 (by decide)).mg ?_
        refine kA ?_ ?_
        · refine kIx (hu_of hr) ?_ ?_
          · exact cV 0
          · exact cE_int 
        · exact cA_nil 
      · refine cE_one ?_
        refine kCall (x := dX 2) (ps := P2) (G 2 (by decide)) hr hgd (T.d 2 (by decide)).fn.kp (T.d 2 (by decide)).bi (T.d 2 (by decide)).mg ?_
        refine kA ?_ ?_
        · refine kIx (hu_of hr) ?_ ?_
          · exact cV 0
          · exact cE_int 
        · exact cA_nil 
theorem ok4 (T : Txt K mg f fd) {k : Nat} {C : Nat → MF} (G : ∀ i, i < 18 → FnG P w K mg base k (f i) (fd i) (dP i) (spM K mg (dN i) (C i))) : FnG P w K mg base (k + 1) (f 4) (fd 4) (dP 4) (spM K mg 1 (m4 C)) := by
  refine fnG_ok (st := s4) (x := (Str.ofString "is_table")) (qual := (Str.ofString "is_table")) (T.d 4 (by decide)).fn S4 rfl (fun cdv A outer s H E hr hgd => ?_)
  refine cSs_cons ?_ ?_
  · refine cS_if ?_ ?_ ?_
    · refine cT_w ?_
      refine cW_or ?_ ?_
      · refine cT_not ?_
        refine kTru ?_
        refine kB call_isi callS_isi T.b_isinstance (by rfl) ?_
        refine kA ?_ ?_
        · exact cV 0
        · refine kA ?_ ?_
          · exact cE_bty T.b_tuple (by rfl)
          · exact cA_nil 
      · refine cW_or1 ?_
        refine kCmpT (op_ne.or (op_neD hr.units)) (OpS.alt opS_sNe opS_deepNe) ?_ ?_
        · refine kB (call_len_seq.or call_len_str) callS_len T.b_len PySem.boot_len ?_
          refine kA ?_ ?_
          · exact cV 0
          · exact cA_nil 
        · exact cE_int 
    · refine cSs_one ?_
      refine cS_ret ?_
      exact cE_bl 
    · exact cSs_nil 
  · refine cSs_one ?_
    refine cS_ret ?_
    refine cE_and ?_ ?_
    · refine kCall (x := dX 5) (ps := P5) (G 5 (by decide)) hr hgd (T.d 5 (by decide)).fn.kp (T.d 5 (by decide)).bi (T.d 5 (by decide)).mg ?_
      refine kA ?_ ?_
      · refine kIx (hu_of hr) ?_ ?_
        · exact cV 0
        · exact cE_int 
      · refine kA ?_ ?_
        · exact cE_fn (by rfl) (T.d 2 (by decide)).mg
        · exact cA_nil 
    · refine cE_one ?_
      refine kCall (x := dX 5) (ps := P5) (G 5 (by decide)) hr hgd (T.d 5 (by decide)).fn.kp (T.d 5 (by decide)).bi (T.d 5 (by decide)).mg ?_
      refine kA ?_ ?_
      · refine kIx (hu_of hr) ?_ ?_
        · exact cV 0
        · exact cE_int 
      · refine kA ?_ ?_
        · exact cE_fn (by rfl) (T.d 3 (by decide)).mg
        · exact cA_nil 
theorem ok5 (T : Txt K mg f fd) {k : Nat} {C : Nat → MF} (G : ∀ i, i < 18 → FnG P w K mg base k (f i) (fd i) (dP i) (spM K mg (dN i) (C i))) : FnG P w K mg base (k + 1) (f 5) (fd 5) (dP 5) (spM K mg 2 (m5 C)) := by
  refine fnG_ok (st := s5) (x := (Str.ofString "is_calls")) (qual := (Str.ofString "is_calls")) (T.d 5 (by decide)).fn S5 rfl (fun cdv A outer s H E hr hgd => ?_)
  refine cSs_cons ?_ ?_
  · refine cS_if ?_ ?_ ?_
    · refine cT_not ?_
      refine kTru ?_
      refine kB call_isi callS_isi T.b_isinstance (by rfl) ?_
      refine kA ?_ ?_
      · exact cV 0
      · refine kA ?_ ?_
        · exact cE_bty T.b_tuple (by rfl)
        · exact cA_nil 
    · refine cSs_one ?_
      refine cS_ret ?_
      exact cE_bl 
    · exact cSs_nil 
  · refine cSs_cons ?_ ?_
    · refine kFor (L := [2]) PassesOwn.never rfl ?_ ?_ ?_
      · refine cI_seq ?_
        exact cV 0
      · exact cGn 2 S5.nd
      · refine cSs_cons ?_ ?_
        · refine cS_if ?_ ?_ ?_
          · refine cT_w ?_
            refine cW_or ?_ ?_
            · refine cT_not ?_
              refine kTru ?_
              refine kB call_isi callS_isi T.b_isinstance (by rfl) ?_
              refine kA ?_ ?_
              · exact cV 2
              · refine kA ?_ ?_
                · exact cE_bty T.b_tuple (by rfl)
                · exact cA_nil 
            · refine cW_or1 ?_
              refine kCmpT (op_ne.or (op_neD hr.units)) (OpS.alt opS_sNe opS_deepNe) ?_ ?_
              · refine kB (call_len_seq.or call_len_str) callS_len T.b_len PySem.boot_len ?_
                refine kA ?_ ?_
                · exact cV 2
                · exact cA_nil 
              · exact cE_int 
          · refine cSs_one ?_
            refine cS_ret ?_
            exact cE_bl 
          · exact cSs_nil 
        · refine cSs_one ?_
          refine cS_if ?_ ?_ ?_
          · refine cT_w ?_
            refine cW_or ?_ ?_
            · refine cT_not ?_
              refine kTru ?_
              refine kCallV 1 (fsV_ok T G) hr hgd ?_
              refine kA ?_ ?_
              · refine kIx (hu_of hr) ?_ ?_
                · exact cV 2
                · exact cE_int 
              · exact cA_nil 
            · refine cW_or1 ?_
              refine cT_not ?_
              refine kTru ?_
              refine kCallV 1 (fsV_ok T G) hr hgd ?_
              refine kA ?_ ?_
              · refine kIx (hu_of hr) ?_ ?_
                · exact cV 2
                · exact cE_int 
              · exact cA_nil 
          · refine cSs_one ?_
            refine cS_ret ?_
            exact cE_bl 
          · exact cSs_nil 
    · refine cSs_one ?_
      refine cS_ret ?_
      refine cE_and ?_ ?_
      · refine kCall (x := dX 0) (ps := P0) (G 0 (by decide)) hr hgd (T.d 0 (by decide)).fn.kp (T.d 0 (by decide)).bi (T.d 0 (by decide)).mg ?_
        refine kA ?_ ?_
        · refine kLc (L := ([3] ++ ([4] ++ []))) (own := [ ((Str.ofString "first") , 3) , ((Str.ofString "_") , 4) ]) rfl S5.nd ?_ (by exact show blkC N5 (defScope s5) _ [ ((Str.ofString "first") , 3) , ((Str.ofString "_") , 4) ] = true from by decide +kernel) (by decide) (fun _ _ _ _ _ => ?_) (fun _ _ _ _ _ => ?_) (fun _ _ _ _ _ => ?_)
          · refine cI_seq ?_
            exact cV 0
          · refine kGt rfl ?_
            refine kGc ?_ ?_
            · exact cGn 3 S5.nd
            · refine kGc ?_ ?_
              · exact cGn 4 S5.nd
              · exact cGs_nil 
          · exact cTs_nil 
          · exact cV 3
        · exact cA_nil 
      · refine cE_one ?_
        refine kCall (x := dX 1) (ps := P1) (G 1 (by decide)) hr hgd (T.d 1 (by decide)).fn.kp (T.d 1 (by decide)).bi (T.d 1 (by decide)).mg ?_
        refine kA ?_ ?_
        · refine kLc (L := ([4] ++ ([5] ++ []))) (own := [ ((Str.ofString "_") , 4) , ((Str.ofString "second") , 5) ]) rfl S5.nd ?_ (by exact show blkC N5 (defScope s5) _ [ ((Str.ofString "_") , 4) , ((Str.ofString "second") , 5) ] = true from by decide +kernel) (by decide) (fun _ _ _ _ _ => ?_) (fun _ _ _ _ _ => ?_) (fun _ _ _ _ _ => ?_)
          · refine cI_seq ?_
            exact cV 0
          · refine kGt rfl ?_
            refine kGc ?_ ?_
            · exact cGn 4 S5.nd
            · refine kGc ?_ ?_
              · exact cGn 5 S5.nd
              · exact cGs_nil 
          · exact cTs_nil 
          · exact cV 5
        · exact cA_nil 
theorem ok6 (T : Txt K mg f fd) {k : Nat} {C : Nat → MF} (G : ∀ i, i < 18 → FnG P w K mg base k (f i) (fd i) (dP i) (spM K mg (dN i) (C i))) : FnG P w K mg base (k + 1) (f 6) (fd 6) (dP 6) (spM K mg 2 (m6 C)) := by
  refine fnG_ok (st := s6) (x := (Str.ofString "scene_call")) (qual := (Str.ofString "scene_call")) (T.d 6 (by decide)).fn S6 rfl (fun cdv A outer s H E hr hgd => ?_)
  refine cSs_one ?_
  refine cS_ret ?_
  refine cE_if ?_ ?_ ?_
  · refine kTru ?_
    refine kCall (x := dX 2) (ps := P2) (G 2 (by decide)) hr hgd (T.d 2 (by decide)).fn.kp (T.d 2 (by decide)).bi (T.d 2 (by decide)).mg ?_
    refine kA ?_ ?_
    · exact cV 1
    · exact cA_nil 
  · refine kCall (x := dX 9) (ps := P9) (G 9 (by decide)) hr hgd (T.d 9 (by decide)).fn.kp (T.d 9 (by decide)).bi (T.d 9 (by decide)).mg ?_
    refine kA ?_ ?_
    · refine kIx (hu_of hr) ?_ ?_
      · exact cV 0
      · exact cE_int 
    · refine kA ?_ ?_
      · exact cV 1
      · refine kA ?_ ?_
        · exact cV 1
        · exact cA_nil 
  · exact cE_non 
theorem ok7 (T : Txt K mg f fd) {k : Nat} {C : Nat → MF} (G : ∀ i, i < 18 → FnG P w K mg base k (f i) (fd i) (dP i) (spM K mg (dN i) (C i))) : FnG P w K mg base (k + 1) (f 7) (fd 7) (dP 7) (spM K mg 2 (m7 C)) := by
  refine fnG_ok (st := s7) (x := (Str.ofString "choice_call")) (qual := (Str.ofString "choice_call")) (T.d 7 (by decide)).fn S7 rfl (fun cdv A outer s H E hr hgd => ?_)
  refine cSs_cons ?_ ?_
  · refine cS_if ?_ ?_ ?_
    · refine cT_not ?_
      refine kTru ?_
      refine kCall (x := dX 3) (ps := P3) (G 3 (by decide)) hr hgd (T.d 3 (by decide)).fn.kp (T.d 3 (by decide)).bi (T.d 3 (by decide)).mg ?_
      refine kA ?_ ?_
      · exact cV 1
      · exact cA_nil 
    · refine cSs_one ?_
      refine cS_ret ?_
      exact cE_non 
    · exact cSs_nil 
  · refine cSs_cons ?_ ?_
    · refine kSet 2 S7.nd ?_
      refine kCall (x := dX 6) (ps := P6) (G 6 (by decide)) hr hgd (T.d 6 (by decide)).fn.kp (T.d 6 (by decide)).bi (T.d 6 (by decide)).mg ?_
      refine kA ?_ ?_
      · exact cV 0
      · refine kA ?_ ?_
        · refine kIx (hu_of hr) ?_ ?_
          · exact cV 1
          · exact cE_int 
        · exact cA_nil 
    · refine cSs_one ?_
      refine cS_ret ?_
      refine kCall (x := dX 9) (ps := P9) (G 9 (by decide)) hr hgd (T.d 9 (by decide)).fn.kp (T.d 9 (by decide)).bi (T.d 9 (by decide)).mg ?_
      refine kA ?_ ?_
      · refine kIx (hu_of hr) ?_ ?_
        · exact cV 0
        · exact cE_int 
      · refine kA ?_ ?_
        · exact cV 1
        · refine kA ?_ ?_
          · refine cE_if ?_ ?_ ?_
            · refine kCmpT (op_isN.or op_isBl) (OpS.alt opS_isN opS_isB) ?_ ?_
              · exact cV 2
              · exact cE_non 
            · exact cE_non 
            · refine cE_tup ?_
              refine kA ?_ ?_
              · exact cV 2
              · refine kA ?_ ?_
                · refine kIx (hu_of hr) ?_ ?_
                  · exact cV 1
                  · exact cE_int 
                · exact cA_nil 
          · exact cA_nil 
theorem ok8 (T : Txt K mg f fd) {k : Nat} {C : Nat → MF} (G : ∀ i, i < 18 → FnG P w K mg base k (f i) (fd i) (dP i) (spM K mg (dN i) (C i))) : FnG P w K mg base (k + 1) (f 8) (fd 8) (dP 8) (spM K mg 1 (m8 C)) := by
  refine fnG_ok (st := s8) (x := (Str.ofString "table_turned")) (qual := (Str.ofString "table_turned")) (T.d 8 (by decide)).fn S8 rfl (fun cdv A outer s H E hr hgd => ?_)
  refine cSs_cons ?_ ?_
  · refine kAsg (L := ([1] ++ ([2] ++ []))) ?_ ?_
    · exact cV 0
    · refine kGt rfl ?_
      refine kGc ?_ ?_
      · exact cGn 1 S8.nd
      · refine kGc ?_ ?_
        · exact cGn 2 S8.nd
        · exact cGs_nil 
  · refine cSs_one ?_
    refine cS_ret ?_
    refine cE_tup ?_
    refine kA ?_ ?_
    · refine kCall (x := dX 10) (ps := P10) (G 10 (by decide)) hr hgd (T.d 10 (by decide)).fn.kp (T.d 10 (by decide)).bi (T.d 10 (by decide)).mg ?_
      refine kA ?_ ?_
      · exact cV 1
      · exact cA_nil 
    · refine kA ?_ ?_
      · refine kCall (x := dX 10) (ps := P10) (G 10 (by decide)) hr hgd (T.d 10 (by decide)).fn.kp (T.d 10 (by decide)).bi (T.d 10 (by decide)).mg ?_
        refine kA ?_ ?_
        · exact cV 2
        · exact cA_nil 
      · exact cA_nil 
theorem ok9 (T : Txt K mg f fd) {k : Nat} {C : Nat → MF} (G : ∀ i, i < 18 → FnG P w K mg base k (f i) (fd i) (dP i) (spM K mg (dN i) (C i))) : FnG P w K mg base (k + 1) (f 9) (fd 9) (dP 9) (spM K mg 3 (m9 C)) := by
  refine fnG_ok (st := s9) (x := (Str.ofString "_call")) (qual := (Str.ofString "_call")) (T.d 9 (by decide)).fn S9 rfl (fun cdv A outer s H E hr hgd => ?_)
  refine cSs_cons ?_ ?_
  · refine kFor (L := ([3] ++ ([4] ++ []))) PassesOwn.never rfl ?_ ?_ ?_
    · refine cI_seq ?_
      exact cV 0
    · refine kGt rfl ?_
      refine kGc ?_ ?_
      · exact cGn 3 S9.nd
      · refine kGc ?_ ?_
        · exact cGn 4 S9.nd
        · exact cGs_nil 
    · refine cSs_one ?_
      refine cS_if ?_ ?_ ?_
      · refine kCmpT (op_eq.or (op_eqD hr.units)) (OpS.alt opS_sEq opS_deepEq) ?_ ?_
        · exact cV 3
        · exact cV 1
      · refine cSs_one ?_
        refine cS_ret ?_
        exact cV 4
      · exact cSs_nil 
  · refine cSs_one ?_
    refine cS_ret ?_
    refine cE_if ?_ ?_ ?_
    · refine kInXT hr.units ?_ ?_
      · exact cV 2
      · refine kLc (L := ([5] ++ ([4] ++ []))) (own := [ ((Str.ofString "_") , 5) , ((Str.ofString "second") , 4) ]) rfl S9.nd ?_ (by exact show blkC N9 (defScope s9) _ [ ((Str.ofString "_") , 5) , ((Str.ofString "second") , 4) ] = true from by decide +kernel) (by decide) (fun _ _ _ _ _ => ?_) (fun _ _ _ _ _ => ?_) (fun _ _ _ _ _ => ?_)
        · refine cI_seq ?_
          exact cV 0
        · refine kGt rfl ?_
          refine kGc ?_ ?_
          · exact cGn 5 S9.nd
          · refine kGc ?_ ?_
            · exact cGn 4 S9.nd
            · exact cGs_nil 
        · exact cTs_nil 
        · exact cV 4
    · exact cE_non 
    · exact cV 2
theorem ok10 (T : Txt K mg f fd) {k : Nat} {C : Nat → MF} (G : ∀ i, i < 18 → FnG P w K mg base k (f i) (fd i) (dP i) (spM K mg (dN i) (C i))) : FnG P w K mg base (k + 1) (f 10) (fd 10) (dP 10) (spM K mg 1 (m10 C)) := by
  refine fnG_ok (st := s10) (x := (Str.ofString "_turned")) (qual := (Str.ofString "_turned")) (T.d 10 (by decide)).fn S10 rfl (fun cdv A outer s H E hr hgd => ?_)
  refine cSs_one ?_
  refine cS_ret ?_
  refine kTy call_tuple_of callS_tuple T.b_tuple boot_tuple ?_
  refine kA ?_ ?_
  · refine kB (callR_sorted hr.units) callS_sorted T.b_sorted (by rfl) ?_
    refine kA ?_ ?_
    · refine kLc (L := ([1] ++ ([2] ++ []))) (own := [ ((Str.ofString "first") , 1) , ((Str.ofString "second") , 2) ]) rfl S10.nd ?_ (by exact show blkC N10 (defScope s10) _ [ ((Str.ofString "first") , 1) , ((Str.ofString "second") , 2) ] = true from by decide +kernel) (by decide) (fun _ _ _ _ _ => ?_) (fun _ _ _ _ _ => ?_) (fun _ _ _ _ _ => ?_)
      · refine cI_seq ?_
        exact cV 0
      · refine kGt rfl ?_
        refine kGc ?_ ?_
        · exact cGn 1 S10.nd
        · refine kGc ?_ ?_
          · exact cGn 2 S10.nd
          · exact cGs_nil 
      · exact cTs_nil 
      · refine cE_tup ?_
        refine kA ?_ ?_
        · exact cV 2
        · refine kA ?_ ?_
          · exact cV 1
          · exact cA_nil 
    · exact cA_nil 
  · exact cA_nil 
theorem ok11 (T : Txt K mg f fd) {k : Nat} {C : Nat → MF} (G : ∀ i, i < 18 → FnG P w K mg base k (f i) (fd i) (dP i) (spM K mg (dN i) (C i))) : FnG P w K mg base (k + 1) (f 11) (fd 11) (dP 11) (spM K mg 1 (m11 C)) := by
  refine fnG_ok (st := s11) (x := (Str.ofString "_law_feed")) (qual := (Str.ofString "_law_feed")) (T.d 11 (by decide)).fn S11 rfl (fun cdv A outer s H E hr hgd => ?_)
  refine cSs_one ?_
  refine cS_ret ?_
  refine cE_disp ?_ rfl rfl (by simp) (by decide)
  refine cPs_cons ?_ ?_ ?_
  · exact cE_str 
  · refine kTy call_list_of callS_list T.b_list boot_list ?_
    refine kA ?_ ?_
    · refine cE_slA ?_ ?_ ?_
      · exact cV 0
      · exact cO_none 
      · refine cO_some ?_
        exact cE_int 
    · exact cA_nil 
  · refine cPs_cons ?_ ?_ ?_
    · exact cE_str 
    · exact cE_int 
    · refine cPs_cons ?_ ?_ ?_
      · exact cE_str 
      · exact cE_int 
      · refine cPs_cons ?_ ?_ ?_
        · exact cE_str 
        · exact cE_int 
        · exact cPs_nil 
theorem ok12 (T : Txt K mg f fd) {k : Nat} {C : Nat → MF} (G : ∀ i, i < 18 → FnG P w K mg base k (f i) (fd i) (dP i) (spM K mg (dN i) (C i))) : FnG P w K mg base (k + 1) (f 12) (fd 12) (dP 12) (spM K mg 2 (m12 C)) := by
  refine fnG_ok (st := s12) (x := (Str.ofString "_law_draw")) (qual := (Str.ofString "_law_draw")) (T.d 12 (by decide)).fn S12 rfl (fun cdv A outer s H E hr hgd => ?_)
  refine cSs_cons ?_ ?_
  · refine kSet 2 S12.nd ?_
    refine cE_bin (op_add.or (op_add_str.or (op_catA.or op_cat))) (OpS.alt opS_iiI0 (OpS.alt opS_ssS (OpS.alt opS_ttT opS_llL))) ?_ ?_
    · refine kIx (hu_of hr) ?_ ?_
      · exact cV 0
      · exact cE_str 
    · exact cE_int 
  · refine cSs_cons ?_ ?_
    · refine kAsgT (L := []) ?_ ?_
      · exact cV 2
      · refine kGs (hu_of hr) ?_ ?_
        · exact cV 0
        · exact cE_str 
    · refine cSs_cons ?_ ?_
      · refine cS_if ?_ ?_ ?_
        · refine kCmpT (op_gt.or (op_gt_str.or (op_gtD hr.units))) (OpS.alt opS_iiB (OpS.alt opS_ssB opS_ord)) ?_ ?_
          · refine kIx (hu_of hr) ?_ ?_
            · exact cV 0
            · exact cE_str 
          · exact cE_int 
        · refine cSs_cons ?_ ?_
          · refine kSet 3 S12.nd ?_
            refine cE_bin op_mod opS_mod ?_ ?_
            · refine kIx (hu_of hr) ?_ ?_
              · exact cV 0
              · exact cE_str 
            · exact cV 1
          · refine cSs_cons ?_ ?_
            · refine kAsgT (L := []) ?_ ?_
              · refine cE_bin op_fdiv opS_fdiv ?_ ?_
                · refine kIx (hu_of hr) ?_ ?_
                  · exact cV 0
                  · exact cE_str 
                · exact cV 1
              · refine kGs (hu_of hr) ?_ ?_
                · exact cV 0
                · exact cE_str 
            · refine cSs_one ?_
              refine cS_ret ?_
              exact cV 3
        · exact cSs_nil 
      · refine cSs_cons ?_ ?_
        · refine kSet 4 S12.nd ?_
          refine kIx (hu_of hr) ?_ ?_
          · exact cV 0
          · exact cE_str 
        · refine cSs_cons ?_ ?_
          · refine kAsgT (L := []) ?_ ?_
            · refine cE_bin (op_add.or (op_add_str.or (op_catA.or op_cat))) (OpS.alt opS_iiI0 (OpS.alt opS_ssS (OpS.alt opS_ttT opS_llL))) ?_ ?_
              · exact cV 4
              · exact cE_int 
            · refine kGs (hu_of hr) ?_ ?_
              · exact cV 0
              · exact cE_str 
          · refine cSs_cons ?_ ?_
            · refine kSet 5 S12.nd ?_
              exact cE_int 
            · refine cSs_cons ?_ ?_
              · refine cS_if ?_ ?_ ?_
                · refine kCmpT (op_ne.or (op_neD hr.units)) (OpS.alt opS_sNe opS_deepNe) ?_ ?_
                  · refine kIx (hu_of hr) ?_ ?_
                    · exact cV 0
                    · exact cE_str 
                  · refine cE_lst ?_
                    exact cA_nil 
                · refine cSs_one ?_
                  refine kSet 5 S12.nd ?_
                  refine kIx (hu_of hr) ?_ ?_
                  · refine kIx (hu_of hr) ?_ ?_
                    · exact cV 0
                    · exact cE_str 
                  · refine cE_bin op_mod opS_mod ?_ ?_
                    · exact cV 4
                    · refine kB (call_len_seq.or call_len_str) callS_len T.b_len PySem.boot_len ?_
                      refine kA ?_ ?_
                      · refine kIx (hu_of hr) ?_ ?_
                        · exact cV 0
                        · exact cE_str 
                      · exact cA_nil 
                · exact cSs_nil 
              · refine cSs_cons ?_ ?_
                · refine cS_if ?_ ?_ ?_
                  · refine cT_w ?_
                    refine cW_and ?_ ?_
                    · refine kCmpT (op_ge.or (op_ge_str.or (op_geD hr.units))) (OpS.alt opS_iiB (OpS.alt opS_ssB opS_ord)) ?_ ?_
                      · exact cV 5
                      · refine cE_bin op_pow opS_pow ?_ ?_
                        · exact cE_int 
                        · exact cE_int 
                    · refine cW_and1 ?_
                      refine kCmpT (op_lt.or (op_lt_str.or (op_ltD hr.units))) (OpS.alt opS_iiB (OpS.alt opS_ssB opS_ord)) ?_ ?_
                      · exact cV 4
                      · refine kB (call_len_seq.or call_len_str) callS_len T.b_len PySem.boot_len ?_
                        refine kA ?_ ?_
                        · refine kIx (hu_of hr) ?_ ?_
                          · exact cV 0
                          · exact cE_str 
                        · exact cA_nil 
                  · refine cSs_cons ?_ ?_
                    · refine kAsgT (L := []) ?_ ?_
                      · refine cE_bin op_fdiv opS_fdiv ?_ ?_
                        · exact cV 5
                        · exact cV 1
                      · refine kGs (hu_of hr) ?_ ?_
                        · exact cV 0
                        · exact cE_str 
                    · refine cSs_one ?_
                      refine cS_ret ?_
                      refine cE_bin op_mod opS_mod ?_ ?_
                      · exact cV 5
                      · exact cV 1
                  · exact cSs_nil 
                · refine cSs_cons ?_ ?_
                  · refine kSet 6 S12.nd ?_
                    refine cE_bin op_mod opS_mod ?_ ?_
                    · refine cE_bin op_pow opS_pow ?_ ?_
                      · refine cE_bin (op_add.or (op_add_str.or (op_catA.or op_cat))) (OpS.alt opS_iiI0 (OpS.alt opS_ssS (OpS.alt opS_ttT opS_llL))) ?_ ?_
                        · refine cE_bin (op_add.or (op_add_str.or (op_catA.or op_cat))) (OpS.alt opS_iiI0 (OpS.alt opS_ssS (OpS.alt opS_ttT opS_llL))) ?_ ?_
                          · refine cE_bin op_mod opS_mod ?_ ?_
                            · exact cV 5
                            · exact cE_int 
                          · refine cE_bin (op_mul.or op_repT) (OpS.alt opS_mul opS_tiT) ?_ ?_
                            · exact cE_int 
                            · exact cV 2
                        · exact cE_int 
                      · exact cE_int 
                    · exact cE_int 
                  · refine cSs_cons ?_ ?_
                    · refine kSet 6 S12.nd ?_
                      refine cE_bin op_mod opS_mod ?_ ?_
                      · refine cE_bin op_pow opS_pow ?_ ?_
                        · refine cE_bin (op_add.or (op_add_str.or (op_catA.or op_cat))) (OpS.alt opS_iiI0 (OpS.alt opS_ssS (OpS.alt opS_ttT opS_llL))) ?_ ?_
                          · exact cV 6
                          · refine cE_bin (op_mul.or op_repT) (OpS.alt opS_mul opS_tiT) ?_ ?_
                            · exact cE_int 
                            · exact cV 2
                        · exact cE_int 
                      · exact cE_int 
                    · refine cSs_one ?_
                      refine cS_ret ?_
                      refine cE_bin op_mod opS_mod ?_ ?_
                      · refine cE_bin op_fdiv opS_fdiv ?_ ?_
                        · exact cV 6
                        · exact cE_int 
                      · exact cV 1
theorem ok13 (T : Txt K mg f fd) {k : Nat} {C : Nat → MF} (G : ∀ i, i < 18 → FnG P w K mg base k (f i) (fd i) (dP i) (spM K mg (dN i) (C i))) : FnG P w K mg base (k + 1) (f 13) (fd 13) (dP 13) (spM K mg 2 (m13 C)) := by
  refine fnG_ok (st := s13) (x := (Str.ofString "_law_pick")) (qual := (Str.ofString "_law_pick")) (T.d 13 (by decide)).fn S13 rfl (fun cdv A outer s H E hr hgd => ?_)
  refine cSs_one ?_
  refine cS_ret ?_
  refine kIx (hu_of hr) ?_ ?_
  · exact cV 1
  · refine kCall (x := dX 12) (ps := P12) (G 12 (by decide)) hr hgd (T.d 12 (by decide)).fn.kp (T.d 12 (by decide)).bi (T.d 12 (by decide)).mg ?_
    refine kA ?_ ?_
    · exact cV 0
    · refine kA ?_ ?_
      · refine kB (call_len_seq.or call_len_str) callS_len T.b_len PySem.boot_len ?_
        refine kA ?_ ?_
        · exact cV 1
        · exact cA_nil 
      · exact cA_nil 
theorem ok14 (T : Txt K mg f fd) {k : Nat} {C : Nat → MF} (G : ∀ i, i < 18 → FnG P w K mg base k (f i) (fd i) (dP i) (spM K mg (dN i) (C i))) : FnG P w K mg base (k + 1) (f 14) (fd 14) (dP 14) (spM K mg 3 (m14 C)) := by
  refine fnG_ok (st := s14) (x := (Str.ofString "_law_wild")) (qual := (Str.ofString "_law_wild")) (T.d 14 (by decide)).fn S14 rfl (fun cdv A outer s H E hr hgd => ?_)
  refine cSs_cons ?_ ?_
  · refine cS_par (i := 3) (j := 4) rfl S14.nd rfl rfl (by decide) rfl rfl ?_ rfl
    refine kA ?_ ?_
    · exact cE_empty 
    · refine kA ?_ ?_
      · exact cE_emptyT 
      · exact cA_nil 
  · refine cSs_cons ?_ ?_
    · refine kFor (L := [5]) PassesOwn.never rfl ?_ ?_ ?_
      · refine kR1 T.b_range ?_
        refine kA ?_ ?_
        · exact cV 2
        · exact cA_nil 
      · exact cGn 5 S14.nd
      · refine cSs_cons ?_ ?_
        · refine cS_par (i := 6) (j := 7) rfl S14.nd rfl rfl (by decide) rfl rfl ?_ rfl
          refine kA ?_ ?_
          · refine kCall (x := dX 13) (ps := P13) (G 13 (by decide)) hr hgd (T.d 13 (by decide)).fn.kp (T.d 13 (by decide)).bi (T.d 13 (by decide)).mg ?_
            refine kA ?_ ?_
            · exact cV 0
            · refine kA ?_ ?_
              · exact cV 1
              · exact cA_nil 
          · refine kA ?_ ?_
            · refine kCall (x := dX 13) (ps := P13) (G 13 (by decide)) hr hgd (T.d 13 (by decide)).fn.kp (T.d 13 (by decide)).bi (T.d 13 (by decide)).mg ?_
              refine kA ?_ ?_
              · exact cV 0
              · refine kA ?_ ?_
                · exact cV 1
                · exact cA_nil 
            · exact cA_nil 
        · refine cSs_cons ?_ ?_
          · refine cS_if ?_ ?_ ?_
            · refine cT_w ?_
              refine cW_and ?_ ?_
              · refine kNotInXT hr.units ?_ ?_
                · exact cV 6
                · exact cV 3
              · refine cW_and1 ?_
                refine kNotInXT hr.units ?_ ?_
                · exact cV 7
                · refine kListVals rfl T.b_list ?_
                  exact cV 3
            · refine cSs_one ?_
              refine kAsgT (L := []) ?_ ?_
              · exact cV 7
              · refine kGs (hu_of hr) ?_ ?_
                · exact cV 3
                · exact cV 6
            · exact cSs_nil 
          · refine cSs_cons ?_ ?_
            · refine kSet 8 S14.nd ?_
              refine cE_tup ?_
              refine kA ?_ ?_
              · refine kCall (x := dX 13) (ps := P13) (G 13 (by decide)) hr hgd (T.d 13 (by decide)).fn.kp (T.d 13 (by decide)).bi (T.d 13 (by decide)).mg ?_
                refine kA ?_ ?_
                · exact cV 0
                · refine kA ?_ ?_
                  · exact cV 1
                  · exact cA_nil 
              · refine kA ?_ ?_
                · refine kCall (x := dX 13) (ps := P13) (G 13 (by decide)) hr hgd (T.d 13 (by decide)).fn.kp (T.d 13 (by decide)).bi (T.d 13 (by decide)).mg ?_
                  refine kA ?_ ?_
                  · exact cV 0
                  · refine kA ?_ ?_
                    · refine cE_lst ?_
                      refine kA ?_ ?_
                      · exact cE_str 
                      · refine kA ?_ ?_
                        · exact cE_str 
                        · exact cA_nil 
                    · exact cA_nil 
                · exact cA_nil 
            · refine cSs_cons ?_ ?_
              · refine kSet 9 S14.nd ?_
                refine cE_tup ?_
                refine kA ?_ ?_
                · refine kCall (x := dX 13) (ps := P13) (G 13 (by decide)) hr hgd (T.d 13 (by decide)).fn.kp (T.d 13 (by decide)).bi (T.d 13 (by decide)).mg ?_
                  refine kA ?_ ?_
                  · exact cV 0
                  · refine kA ?_ ?_
                    · exact cV 1
                    · exact cA_nil 
                · refine kA ?_ ?_
                  · refine kCall (x := dX 13) (ps := P13) (G 13 (by decide)) hr hgd (T.d 13 (by decide)).fn.kp (T.d 13 (by decide)).bi (T.d 13 (by decide)).mg ?_
                    refine kA ?_ ?_
                    · exact cV 0
                    · refine kA ?_ ?_
                      · refine cE_lst ?_
                        refine kA ?_ ?_
                        · exact cE_str 
                        · refine kA ?_ ?_
                          · exact cE_str 
                          · exact cA_nil 
                      · exact cA_nil 
                  · exact cA_nil 
              · refine cSs_one ?_
                refine cS_if ?_ ?_ ?_
                · refine cT_w ?_
                  refine cW_and ?_ ?_
                  · refine kNotInXT hr.units ?_ ?_
                    · exact cV 8
                    · exact cV 4
                  · refine cW_and1 ?_
                    refine kNotInXT hr.units ?_ ?_
                    · exact cV 9
                    · refine kListVals rfl T.b_list ?_
                      exact cV 4
                · refine cSs_one ?_
                  refine kAsgT (L := []) ?_ ?_
                  · exact cV 9
                  · refine kGs (hu_of hr) ?_ ?_
                    · exact cV 4
                    · exact cV 8
                · exact cSs_nil 
    · refine cSs_one ?_
      refine cS_ret ?_
      refine cE_tup ?_
      refine kA ?_ ?_
      · refine kTy call_tuple_of callS_tuple T.b_tuple boot_tuple ?_
        refine kA ?_ ?_
        · refine kSortItems rfl (hu70 hr) T.b_sorted ?_
          exact cV 3
        · exact cA_nil 
      · refine kA ?_ ?_
        · refine kTy call_tuple_of callS_tuple T.b_tuple boot_tuple ?_
          refine kA ?_ ?_
          · refine kSortItems rfl (hu70 hr) T.b_sorted ?_
            exact cV 4
          · exact cA_nil 
        · exact cA_nil 
theorem ok15 (T : Txt K mg f fd) {k : Nat} {C : Nat → MF} (G : ∀ i, i < 18 → FnG P w K mg base k (f i) (fd i) (dP i) (spM K mg (dN i) (C i))) : FnG P w K mg base (k + 1) (f 15) (fd 15) (dP 15) (spM K mg 2 (m15 C)) := by
  refine fnG_ok (st := s15) (x := (Str.ofString "_law_one_to_one")) (qual := (Str.ofString "_law_one_to_one")) (T.d 15 (by decide)).fn S15 rfl (fun cdv A outer s H E hr hgd => ?_)
  refine cSs_cons ?_ ?_
  · refine kSet 2 S15.nd ?_
    refine kSel (selT 1) ?_ ?_
    · exact cE_emptyT 
    · exact cE_empty 
  · refine cSs_cons ?_ ?_
    · refine kFor (L := ([3] ++ ([4] ++ []))) PassesOwn.never rfl ?_ ?_ ?_
      · refine cI_seq ?_
        exact cV 0
      · refine kGt rfl ?_
        refine kGc ?_ ?_
        · exact cGn 3 S15.nd
        · refine kGc ?_ ?_
          · exact cGn 4 S15.nd
          · exact cGs_nil 
      · refine cSs_cons ?_ ?_
        · refine cS_if ?_ ?_ ?_
          · refine kCmpT (op_isN.or op_isBl) (OpS.alt opS_isN opS_isB) ?_ ?_
            · exact cV 4
            · exact cE_non 
          · refine cSs_one ?_
            exact cS_cont 
          · exact cSs_nil 
        · refine cSs_cons ?_ ?_
          · refine cS_if ?_ ?_ ?_
            · refine cT_w ?_
              refine cW_or ?_ ?_
              · refine kInXT hr.units ?_ ?_
                · exact cV 4
                · exact cV 2
              · refine cW_or1 ?_
                refine kCmpT (op_ne.or (op_neD hr.units)) (OpS.alt opS_sNe opS_deepNe) ?_ ?_
                · refine kB ((callR_repr hgd hr.units).or callR_reprS) (CallS.or callS_repr callS_reprS) T.b_repr boot_repr ?_
                  refine kA ?_ ?_
                  · refine kIx (hu_of hr) ?_ ?_
                    · exact cV 1
                    · exact cV 4
                  · exact cA_nil 
                · refine kB ((callR_repr hgd hr.units).or callR_reprS) (CallS.or callS_repr callS_reprS) T.b_repr boot_repr ?_
                  refine kA ?_ ?_
                  · exact cV 3
                  · exact cA_nil 
            · refine cSs_one ?_
              refine cS_ret ?_
              exact cE_bl 
            · exact cSs_nil 
          · refine cSs_one ?_
            refine kAsgT (L := []) ?_ ?_
            · exact cV 3
            · refine kGs (hu_of hr) ?_ ?_
              · exact cV 2
              · exact cV 4
    · refine cSs_one ?_
      refine cS_ret ?_
      exact cE_bl 
theorem ok16 (T : Txt K mg f fd) {k : Nat} {C : Nat → MF} (G : ∀ i, i < 18 → FnG P w K mg base k (f i) (fd i) (dP i) (spM K mg (dN i) (C i))) : FnG P w K mg base (k + 1) (f 16) (fd 16) (dP 16) (spM K mg 2 (m16 C)) := by
  refine fnG_ok (st := s16) (x := (Str.ofString "_law_both_right")) (qual := (Str.ofString "_law_both_right")) (T.d 16 (by decide)).fn S16 rfl (fun cdv A outer s H E hr hgd => ?_)
  refine cSs_cons ?_ ?_
  · refine kAsgC (L := ([2] ++ ([3] ++ []))) ?_ ?_ rfl
    · refine cE_tup ?_
      refine kA ?_ ?_
      · refine kCall (x := dX 8) (ps := P8) (G 8 (by decide)) hr hgd (T.d 8 (by decide)).fn.kp (T.d 8 (by decide)).bi (T.d 8 (by decide)).mg ?_
        refine kA ?_ ?_
        · exact cV 0
        · exact cA_nil 
      · refine kA ?_ ?_
        · refine cE_lst ?_
          exact cA_nil 
        · exact cA_nil 
    · refine kGt rfl ?_
      refine kGc ?_ ?_
      · exact cGn 2 S16.nd
      · refine kGc ?_ ?_
        · exact cGn 3 S16.nd
        · exact cGs_nil 
  · refine cSs_cons ?_ ?_
    · refine kFor (L := [4]) PassesOwn.never rfl ?_ ?_ ?_
      · refine cI_seq ?_
        exact cV 1
      · exact cGn 4 S16.nd
      · refine cSs_one ?_
        refine kExpr ?_
        refine kMt PySem.F.plainAttrs_list PySem.F.slot_list_extend PySem.F.type_list_extend mt_extend mtS_extend ?_ ?_
        · exact cV 3
        · refine kA ?_ ?_
          · refine kLc (L := [5]) (own := [ ((Str.ofString "_law_sign") , 5) ]) rfl S16.nd ?_ (by exact show blkC N16 (defScope s16) _ [ ((Str.ofString "_law_sign") , 5) ] = true from by decide +kernel) (by decide) (fun _ _ _ _ _ => ?_) (fun _ _ _ _ _ => ?_) (fun _ _ _ _ _ => ?_)
            · refine cI_seq ?_
              refine cE_tup ?_
              refine kA ?_ ?_
              · exact cE_str 
              · refine kA ?_ ?_
                · exact cE_str 
                · refine kA ?_ ?_
                  · exact cE_str 
                  · exact cA_nil 
            · exact cGn 5 S16.nd
            · exact cTs_nil 
            · refine cE_tup ?_
              refine kA ?_ ?_
              · exact cV 4
              · refine kA ?_ ?_
                · exact cV 5
                · exact cA_nil 
          · exact cA_nil 
    · refine cSs_cons ?_ ?_
      · refine kSetLc (L := [4]) (i := 6) (own := [ ((Str.ofString "_law_spot") , 4) ]) rfl S16.nd rfl rfl rfl (by decide +kernel) rfl ?_ (by exact show blkC N16 (defScope s16) _ [ ((Str.ofString "_law_spot") , 4) ] = true from by decide +kernel) (by decide) (fun _ _ _ _ _ => ?_) (fun _ _ _ _ _ => ?_) (fun _ _ _ _ _ => ?_)
        · refine cI_seq ?_
          exact cV 1
        · exact cGn 4 S16.nd
        · exact cTs_nil 
        · refine cE_tup ?_
          refine kA ?_ ?_
          · exact cV 4
          · refine kA ?_ ?_
            · refine kCall (x := dX 6) (ps := P6) (G 6 (by decide)) hr hgd (T.d 6 (by decide)).fn.kp (T.d 6 (by decide)).bi (T.d 6 (by decide)).mg ?_
              refine kA ?_ ?_
              · exact cV 0
              · refine kA ?_ ?_
                · exact cV 4
                · exact cA_nil 
            · exact cA_nil 
      · refine cSs_cons ?_ ?_
        · refine kSet 7 S16.nd ?_
          refine kTy ((callR_dict rfl).or (callR_dictT rfl hr.units)) (CallS.or callS_dict callS_dictT) T.b_dict (by rfl) ?_
          refine kA ?_ ?_
          · refine kLc (L := ([4] ++ ([8] ++ []))) (own := [ ((Str.ofString "_law_spot") , 4) , ((Str.ofString "_law_called") , 8) ]) rfl S16.nd ?_ (by exact show blkC N16 (defScope s16) _ [ ((Str.ofString "_law_spot") , 4) , ((Str.ofString "_law_called") , 8) ] = true from by decide +kernel) (by decide) (fun _ _ _ _ _ => ?_) (fun _ _ _ _ _ => ?_) (fun _ _ _ _ _ => ?_)
            · refine cI_seq ?_
              exact cV 6
            · refine kGt rfl ?_
              refine kGc ?_ ?_
              · exact cGn 4 S16.nd
              · refine kGc ?_ ?_
                · exact cGn 8 S16.nd
                · exact cGs_nil 
            · refine cTs_one ?_
              refine kCmpT (op_notN.or op_notBl) (OpS.alt opS_isNot opS_notB) ?_ ?_
              · exact cV 8
              · exact cE_non 
            · refine cE_tup ?_
              refine kA ?_ ?_
              · exact cV 8
              · refine kA ?_ ?_
                · refine kCall (x := dX 6) (ps := P6) (G 6 (by decide)) hr hgd (T.d 6 (by decide)).fn.kp (T.d 6 (by decide)).bi (T.d 6 (by decide)).mg ?_
                  refine kA ?_ ?_
                  · exact cV 2
                  · refine kA ?_ ?_
                    · exact cV 8
                    · exact cA_nil 
                · exact cA_nil 
          · exact cA_nil 
        · refine cSs_cons ?_ ?_
          · refine cS_if ?_ ?_ ?_
            · refine cT_not ?_
              refine kTru ?_
              refine kCall (x := dX 15) (ps := P15) (G 15 (by decide)) hr hgd (T.d 15 (by decide)).fn.kp (T.d 15 (by decide)).bi (T.d 15 (by decide)).mg ?_
              refine kA ?_ ?_
              · exact cV 6
              · refine kA ?_ ?_
                · exact cV 7
                · exact cA_nil 
            · refine cSs_one ?_
              refine cS_ret ?_
              exact cE_bl 
            · exact cSs_nil 
          · refine cSs_cons ?_ ?_
            · refine kSetLc (L := [9]) (i := 6) (own := [ ((Str.ofString "_law_duo") , 9) ]) rfl S16.nd rfl rfl rfl (by decide +kernel) rfl ?_ (by exact show blkC N16 (defScope s16) _ [ ((Str.ofString "_law_duo") , 9) ] = true from by decide +kernel) (by decide) (fun _ _ _ _ _ => ?_) (fun _ _ _ _ _ => ?_) (fun _ _ _ _ _ => ?_)
              · refine cI_seq ?_
                exact cV 3
              · exact cGn 9 S16.nd
              · exact cTs_nil 
              · refine cE_tup ?_
                refine kA ?_ ?_
                · exact cV 9
                · refine kA ?_ ?_
                  · refine kCall (x := dX 7) (ps := P7) (G 7 (by decide)) hr hgd (T.d 7 (by decide)).fn.kp (T.d 7 (by decide)).bi (T.d 7 (by decide)).mg ?_
                    refine kA ?_ ?_
                    · exact cV 0
                    · refine kA ?_ ?_
                      · exact cV 9
                      · exact cA_nil 
                  · exact cA_nil 
            · refine cSs_cons ?_ ?_
              · refine kSet 7 S16.nd ?_
                refine kTy ((callR_dict rfl).or (callR_dictT rfl hr.units)) (CallS.or callS_dict callS_dictT) T.b_dict (by rfl) ?_
                refine kA ?_ ?_
                · refine kLc (L := ([9] ++ ([8] ++ []))) (own := [ ((Str.ofString "_law_duo") , 9) , ((Str.ofString "_law_called") , 8) ]) rfl S16.nd ?_ (by exact show blkC N16 (defScope s16) _ [ ((Str.ofString "_law_duo") , 9) , ((Str.ofString "_law_called") , 8) ] = true from by decide +kernel) (by decide) (fun _ _ _ _ _ => ?_) (fun _ _ _ _ _ => ?_) (fun _ _ _ _ _ => ?_)
                  · refine cI_seq ?_
                    exact cV 6
                  · refine kGt rfl ?_
                    refine kGc ?_ ?_
                    · exact cGn 9 S16.nd
                    · refine kGc ?_ ?_
                      · exact cGn 8 S16.nd
                      · exact cGs_nil 
                  · refine cTs_one ?_
                    refine kCmpT (op_notN.or op_notBl) (OpS.alt opS_isNot opS_notB) ?_ ?_
                    · exact cV 8
                    · exact cE_non 
                  · refine cE_tup ?_
                    refine kA ?_ ?_
                    · exact cV 8
                    · refine kA ?_ ?_
                      · refine kCall (x := dX 7) (ps := P7) (G 7 (by decide)) hr hgd (T.d 7 (by decide)).fn.kp (T.d 7 (by decide)).bi (T.d 7 (by decide)).mg ?_
                        refine kA ?_ ?_
                        · exact cV 2
                        · refine kA ?_ ?_
                          · exact cV 8
                          · exact cA_nil 
                      · exact cA_nil 
                · exact cA_nil 
              · refine cSs_one ?_
                refine cS_ret ?_
                refine kCall (x := dX 15) (ps := P15) (G 15 (by decide)) hr hgd (T.d 15 (by decide)).fn.kp (T.d 15 (by decide)).bi (T.d 15 (by decide)).mg ?_
                refine kA ?_ ?_
                · exact cV 6
                · refine kA ?_ ?_
                  · exact cV 7
                  · exact cA_nil 
theorem ok17 (T : Txt K mg f fd) {k : Nat} {C : Nat → MF} (G : ∀ i, i < 18 → FnG P w K mg base k (f i) (fd i) (dP i) (spM K mg (dN i) (C i))) : FnG P w K mg base (k + 1) (f 17) (fd 17) (dP 17) (spM K mg 1 (m17 C)) := by
  refine fnG_ok (st := s17) (x := (Str.ofString "law")) (qual := (Str.ofString "law")) (T.d 17 (by decide)).fn S17 rfl (fun cdv A outer s H E hr hgd => ?_)
  refine cSs_cons ?_ ?_
  · refine kSet 1 S17.nd ?_
    refine kCall (x := dX 11) (ps := P11) (G 11 (by decide)) hr hgd (T.d 11 (by decide)).fn.kp (T.d 11 (by decide)).bi (T.d 11 (by decide)).mg ?_
    refine kA ?_ ?_
    · exact cV 0
    · exact cA_nil 
  · refine cSs_cons ?_ ?_
    · refine kSet 2 S17.nd ?_
      refine cE_lst ?_
      refine kA ?_ ?_
      · exact cE_str 
      · refine kA ?_ ?_
        · exact cE_str 
        · refine kA ?_ ?_
          · exact cE_str 
          · refine kA ?_ ?_
            · exact cE_str 
            · refine kA ?_ ?_
              · exact cE_str 
              · exact cA_nil 
    · refine cSs_cons ?_ ?_
      · refine kFor (L := [3]) PassesOwn.never rfl ?_ ?_ ?_
        · refine kR1 T.b_range ?_
          refine kA ?_ ?_
          · exact cE_int 
          · exact cA_nil 
        · exact cGn 3 S17.nd
        · refine cSs_cons ?_ ?_
          · refine kSet 4 S17.nd ?_
            refine kCall (x := dX 14) (ps := P14) (G 14 (by decide)) hr hgd (T.d 14 (by decide)).fn.kp (T.d 14 (by decide)).bi (T.d 14 (by decide)).mg ?_
            refine kA ?_ ?_
            · exact cV 1
            · refine kA ?_ ?_
              · refine cE_slA ?_ ?_ ?_
                · exact cV 2
                · exact cO_none 
                · refine cO_some ?_
                  refine cE_bin (op_add.or (op_add_str.or (op_catA.or op_cat))) (OpS.alt opS_iiI0 (OpS.alt opS_ssS (OpS.alt opS_ttT opS_llL))) ?_ ?_
                  · exact cE_int 
                  · refine cE_bin op_mod opS_mod ?_ ?_
                    · exact cV 3
                    · exact cE_int 
              · refine kA ?_ ?_
                · refine cE_bin (op_add.or (op_add_str.or (op_catA.or op_cat))) (OpS.alt opS_iiI0 (OpS.alt opS_ssS (OpS.alt opS_ttT opS_llL))) ?_ ?_
                  · exact cE_int 
                  · exact cV 3
                · exact cA_nil 
          · refine cSs_cons ?_ ?_
            · refine cS_if ?_ ?_ ?_
              · refine kCmpT (op_eq.or (op_eqD hr.units)) (OpS.alt opS_sEq opS_deepEq) ?_ ?_
                · exact cV 3
                · exact cE_int 
              · refine cSs_one ?_
                refine kSet 4 S17.nd ?_
                refine cE_tup ?_
                refine kA ?_ ?_
                · refine cE_tup ?_
                  refine kA ?_ ?_
                  · refine cE_tup ?_
                    refine kA ?_ ?_
                    · exact cE_str 
                    · refine kA ?_ ?_
                      · exact cE_str 
                      · exact cA_nil 
                  · refine kA ?_ ?_
                    · refine cE_tup ?_
                      refine kA ?_ ?_
                      · exact cE_str 
                      · refine kA ?_ ?_
                        · exact cE_str 
                        · exact cA_nil 
                    · refine kA ?_ ?_
                      · refine cE_tup ?_
                        refine kA ?_ ?_
                        · exact cE_str 
                        · refine kA ?_ ?_
                          · exact cE_str 
                          · exact cA_nil 
                      · exact cA_nil 
                · refine kA ?_ ?_
                  · refine cE_tup ?_
                    refine kA ?_ ?_
                    · refine cE_tup ?_
                      refine kA ?_ ?_
                      · refine cE_tup ?_
                        refine kA ?_ ?_
                        · exact cE_str 
                        · refine kA ?_ ?_
                          · exact cE_str 
                          · exact cA_nil 
                      · refine kA ?_ ?_
                        · refine cE_tup ?_
                          refine kA ?_ ?_
                          · exact cE_str 
                          · refine kA ?_ ?_
                            · exact cE_str 
                            · exact cA_nil 
                        · exact cA_nil 
                    · refine kA ?_ ?_
                      · refine cE_tup ?_
                        refine kA ?_ ?_
                        · refine cE_tup ?_
                          refine kA ?_ ?_
                          · exact cE_str 
                          · refine kA ?_ ?_
                            · exact cE_str 
                            · exact cA_nil 
                        · refine kA ?_ ?_
                          · refine cE_tup ?_
                            refine kA ?_ ?_
                            · exact cE_str 
                            · refine kA ?_ ?_
                              · exact cE_str 
                              · exact cA_nil 
                          · exact cA_nil 
                      · exact cA_nil 
                  · exact cA_nil 
              · exact cSs_nil 
            · refine cSs_cons ?_ ?_
              · refine kSet 5 S17.nd ?_
                refine kCall (x := dX 8) (ps := P8) (G 8 (by decide)) hr hgd (T.d 8 (by decide)).fn.kp (T.d 8 (by decide)).bi (T.d 8 (by decide)).mg ?_
                refine kA ?_ ?_
                · exact cV 4
                · exact cA_nil 
              · refine cSs_cons ?_ ?_
                · refine cS_if ?_ ?_ ?_
                  · refine cT_w ?_
                    refine cW_or ?_ ?_
                    · refine kCmpT (op_notN.or op_notBl) (OpS.alt opS_isNot opS_notB) ?_ ?_
                      · refine kCall (x := dX 4) (ps := P4) (G 4 (by decide)) hr hgd (T.d 4 (by decide)).fn.kp (T.d 4 (by decide)).bi (T.d 4 (by decide)).mg ?_
                        refine kA ?_ ?_
                        · exact cV 5
                        · exact cA_nil 
                      · exact cE_bl 
                    · refine cW_or1 ?_
                      refine kCmpT (op_ne.or (op_neD hr.units)) (OpS.alt opS_sNe opS_deepNe) ?_ ?_
                      · refine kB ((callR_repr hgd hr.units).or callR_reprS) (CallS.or callS_repr callS_reprS) T.b_repr boot_repr ?_
                        refine kA ?_ ?_
                        · refine kCall (x := dX 8) (ps := P8) (G 8 (by decide)) hr hgd (T.d 8 (by decide)).fn.kp (T.d 8 (by decide)).bi (T.d 8 (by decide)).mg ?_
                          refine kA ?_ ?_
                          · exact cV 5
                          · exact cA_nil 
                        · exact cA_nil 
                      · refine kB ((callR_repr hgd hr.units).or callR_reprS) (CallS.or callS_repr callS_reprS) T.b_repr boot_repr ?_
                        refine kA ?_ ?_
                        · exact cV 4
                        · exact cA_nil 
                  · refine cSs_one ?_
                    refine cS_ret ?_
                    exact cE_bl 
                  · exact cSs_nil 
                · refine cSs_one ?_
                  refine cS_if ?_ ?_ ?_
                  · refine cT_w ?_
                    refine cW_or ?_ ?_
                    · refine cT_not ?_
                      refine kTru ?_
                      refine kCall (x := dX 16) (ps := P16) (G 16 (by decide)) hr hgd (T.d 16 (by decide)).fn.kp (T.d 16 (by decide)).bi (T.d 16 (by decide)).mg ?_
                      refine kA ?_ ?_
                      · exact cV 4
                      · refine kA ?_ ?_
                        · exact cV 2
                        · exact cA_nil 
                    · refine cW_or1 ?_
                      refine cT_not ?_
                      refine kTru ?_
                      refine kCall (x := dX 16) (ps := P16) (G 16 (by decide)) hr hgd (T.d 16 (by decide)).fn.kp (T.d 16 (by decide)).bi (T.d 16 (by decide)).mg ?_
                      refine kA ?_ ?_
                      · exact cV 5
                      · refine kA ?_ ?_
                        · exact cV 2
                        · exact cA_nil 
                  · refine cSs_one ?_
                    refine cS_ret ?_
                    exact cE_bl 
                  · exact cSs_nil 
      · refine cSs_cons ?_ ?_
        · refine kFor (L := [6]) PassesOwn.never rfl ?_ ?_ ?_
          · refine cI_seq ?_
            exact cV 2
          · exact cGn 6 S17.nd
          · refine cSs_one ?_
            refine cS_if ?_ ?_ ?_
            · refine cT_w ?_
              refine cW_or ?_ ?_
              · refine kCmpT (op_ne.or (op_neD hr.units)) (OpS.alt opS_sNe opS_deepNe) ?_ ?_
                · refine kCall (x := dX 6) (ps := P6) (G 6 (by decide)) hr hgd (T.d 6 (by decide)).fn.kp (T.d 6 (by decide)).bi (T.d 6 (by decide)).mg ?_
                  refine kA ?_ ?_
                  · refine cE_tup ?_
                    refine kA ?_ ?_
                    · refine cE_tup ?_
                      exact cA_nil 
                    · refine kA ?_ ?_
                      · refine cE_tup ?_
                        exact cA_nil 
                      · exact cA_nil 
                  · refine kA ?_ ?_
                    · exact cV 6
                    · exact cA_nil 
                · exact cV 6
              · refine cW_or1 ?_
                refine kCmpT (op_ne.or (op_neD hr.units)) (OpS.alt opS_sNe opS_deepNe) ?_ ?_
                · refine kCall (x := dX 7) (ps := P7) (G 7 (by decide)) hr hgd (T.d 7 (by decide)).fn.kp (T.d 7 (by decide)).bi (T.d 7 (by decide)).mg ?_
                  refine kA ?_ ?_
                  · refine cE_tup ?_
                    refine kA ?_ ?_
                    · refine cE_tup ?_
                      exact cA_nil 
                    · refine kA ?_ ?_
                      · refine cE_tup ?_
                        exact cA_nil 
                      · exact cA_nil 
                  · refine kA ?_ ?_
                    · refine cE_tup ?_
                      refine kA ?_ ?_
                      · exact cV 6
                      · refine kA ?_ ?_
                        · exact cE_str 
                        · exact cA_nil 
                    · exact cA_nil 
                · refine cE_tup ?_
                  refine kA ?_ ?_
                  · exact cV 6
                  · refine kA ?_ ?_
                    · exact cE_str 
                    · exact cA_nil 
            · refine cSs_one ?_
              refine cS_ret ?_
              exact cE_bl 
            · exact cSs_nil 
        · refine cSs_one ?_
          refine cS_ret ?_
          refine kCmp (op_eq.or (op_eqD hr.units)) (OpS.alt opS_sEq opS_deepEq) ?_ ?_
          · refine kCall (x := dX 8) (ps := P8) (G 8 (by decide)) hr hgd (T.d 8 (by decide)).fn.kp (T.d 8 (by decide)).bi (T.d 8 (by decide)).mg ?_
            refine kA ?_ ?_
            · refine cE_tup ?_
              refine kA ?_ ?_
              · refine cE_tup ?_
                exact cA_nil 
              · refine kA ?_ ?_
                · refine cE_tup ?_
                  exact cA_nil 
                · exact cA_nil 
            · exact cA_nil 
          · refine cE_tup ?_
            refine kA ?_ ?_
            · refine cE_tup ?_
              exact cA_nil 
            · refine kA ?_ ?_
              · refine cE_tup ?_
                exact cA_nil 
              · exact cA_nil 
theorem all_ok (T : Txt K mg f fd) : ∀ (k i : Nat), i < 18 → FnG P w K mg base k (f i) (fd i) (dP i) (spM K mg (dN i) (lv k i))
  | 0, _, _ => fnG_none
  | k + 1, i, hi => by
    have G := all_ok T k
    match i, hi with
    | 0, _ => exact ok0 T G
    | 1, _ => exact ok1 T G
    | 2, _ => exact ok2 T G
    | 3, _ => exact ok3 T G
    | 4, _ => exact ok4 T G
    | 5, _ => exact ok5 T G
    | 6, _ => exact ok6 T G
    | 7, _ => exact ok7 T G
    | 8, _ => exact ok8 T G
    | 9, _ => exact ok9 T G
    | 10, _ => exact ok10 T G
    | 11, _ => exact ok11 T G
    | 12, _ => exact ok12 T G
    | 13, _ => exact ok13 T G
    | 14, _ => exact ok14 T G
    | 15, _ => exact ok15 T G
    | 16, _ => exact ok16 T G
    | 17, _ => exact ok17 T G
    | n + 18, h => exact absurd h (by omega)
end
end K53
end

section
set_option Elab.async false
set_option linter.all false
set_option maxRecDepth 100000
set_option maxHeartbeats 4000000
namespace K53
open PySem PySem.Spec PyProof.Rows L2 PL PySem.W TB
/-- what stands in a store stands in a longer one -/
theorem pre_get {S T : Sto} (h : S <+: T) {n : Nat} {o : Ob} (e : S[n]? = some o) : T[n]? = some o := by
  obtain ⟨J, rfl⟩ := h
  rw [List.getElem?_append_left (List.getElem?_eq_some_iff.mp e).1]
  exact e
theorem pre_seq {S T : Sto} (h : S <+: T) {n : Nat} {xs : List D} (e : seqAt n S = some xs) : seqAt n T = some xs := by
  unfold seqAt at e ⊢
  cases g : S[n]? with
  | none => rw [g] at e; cases e
  | some o => rw [g] at e; rw [pre_get h g]; exact e
theorem at_new {S J : Sto} {o : Ob} : (S ++ o :: J)[S.length]? = some o := by simp
theorem seq_new {S J : Sto} {xs : List D} : seqAt S.length (S ++ .lst xs :: J) = some xs := by
  unfold seqAt
  rw [at_new]
theorem set_new {S J : Sto} {o u : Ob} : (S ++ o :: J).set S.length u = S ++ u :: J := by simp
theorem pre_app {S J : Sto} : S <+: S ++ J := ⟨J, rfl⟩
/-- one round of a comprehension -/
def Stp (g : MG) (t : MT) (e : ME) (env : PL.Env) (x : D) (o : Option D) (T : Sto) : Prop := match o with
  | none => ∃ env', g x env T = some (env', T) ∧ t env' T = some (false, T)
  | some y => ∃ env' J, g x env T = some (env', T) ∧ t env' T = some (true, T) ∧ e env' T = some (y, T ++ J)
theorem lcL {xs : List D} {nx : Nxt} {g : MG} {t : MT} {e : ME} {env : PL.Env} {S1 : Sto} {out : D → Option D}
    (hnx : ∀ i T, S1 <+: T → nx i T = some xs[i]?) (hst : ∀ x ∈ xs, ∀ T, S1 <+: T → Stp g t e env x (out x) T) :
    ∀ (k i : Nat) (acc : List D) (J : Sto), xs.length = i + k → acc.length + k < 1000 →
      ∃ J', mLcL nx g t e S1.length (k + 1) i env (S1 ++ .lst acc :: J) = some (S1 ++ .lst (acc ++ (xs.drop i).filterMap out) :: J') := by
  intro k
  induction k with
  | zero =>
    intro i acc J hi _
    refine ⟨J, ?_⟩
    have h0 : xs[i]? = none := List.getElem?_eq_none_iff.mpr (by omega)
    have h1 : xs.drop i = [] := List.drop_eq_nil_of_le (by omega)
    unfold mLcL
    rw [hnx i _ pre_app, h0, h1]
    simp
  | succ k ih =>
    intro i acc J hi hl
    have hx : i < xs.length := by omega
    have h0 : xs[i]? = some xs[i] := List.getElem?_eq_getElem hx
    have h1 : xs.drop i = xs[i] :: xs.drop (i + 1) := List.drop_eq_getElem_cons hx
    have st := hst xs[i] (List.getElem_mem hx) (S1 ++ .lst acc :: J) pre_app
    unfold mLcL
    rw [hnx i _ pre_app, h0, h1]
    cases ho : out xs[i] with
    | none =>
      rw [ho] at st
      obtain ⟨env', e1, e2⟩ := st
      obtain ⟨J', e3⟩ := ih (i + 1) acc J (by omega) (by omega)
      refine ⟨J', ?_⟩
      simp only [e1, e2, Option.bind_some, Bool.false_eq_true, if_false, e3, List.filterMap_cons_none ho]
    | some y =>
      rw [ho] at st
      obtain ⟨env', J2, e1, e2, e3⟩ := st
      obtain ⟨J', e4⟩ := ih (i + 1) (acc ++ [y]) (J ++ J2) (by omega) (by simp; omega)
      have hz : acc.length < sizeLine := by
        have : 1000 ≤ sizeLine := by decide
        omega
      refine ⟨J', ?_⟩
      have e5 : (S1 ++ Ob.lst acc :: J ++ J2)[S1.length]? = some (.lst acc) := by simp
      have e6 : (S1 ++ Ob.lst acc :: J ++ J2).set S1.length (.lst (acc ++ [y])) = S1 ++ .lst (acc ++ [y]) :: (J ++ J2) := by simp
      simp only [e1, e2, e3, Option.bind_some, if_true, e5, hz, e6, e4, ho, List.filterMap_cons_some ho]
      simp
theorem lcE {it : MI} {xs : List D} {nx : Nxt} {g : MG} {t : MT} {e : ME} {env : PL.Env} {vs : List Nat} {S S1 : Sto} (out : D → Option D) (hi : it env S = some ((xs.length + 1, nx), S1))
    (hnx : ∀ i T, S1 <+: T → nx i T = some xs[i]?) (hl : xs.length < 1000) (hst : ∀ x ∈ xs, ∀ T, S1 <+: T → Stp g t e (wipeE env vs) x (out x) T) :
    ∃ J, mLc it g t e vs env S = some (.ref S1.length, S1 ++ .lst (xs.filterMap out) :: J) := by
  obtain ⟨J, h⟩ := lcL hnx hst xs.length 0 [] [] (by omega) (by simpa using hl)
  refine ⟨J, ?_⟩
  unfold mLc
  rw [hi]
  simp only [Option.bind_some, h]
  simp
theorem itT {env : PL.Env} {S : Sto} {i : Nat} {xs : List D} (h : env[i]? = some (some (.tup xs))) : mItr (mVar i) env S = some ((xs.length + 1, nxT xs), S) := by
  unfold mItr mVar
  rw [h]
  rfl
theorem itL {env : PL.Env} {S : Sto} {i n : Nat} {xs : List D} (h : env[i]? = some (some (.ref n))) (e : seqAt n S = some xs) : mItr (mVar i) env S = some ((xs.length + 1, nxL n), S) := by
  unfold mItr mVar
  rw [h]
  show (seqAt n S).bind (fun xs => some ((xs.length + 1, nxL n), S)) = _
  rw [e]
  rfl
theorem nT {xs : List D} {S : Sto} : ∀ i T, S <+: T → nxT xs i T = some xs[i]? := fun _ _ _ => rfl
theorem nL {xs : List D} {S : Sto} {n : Nat} (e : seqAt n S = some xs) : ∀ i T, S <+: T → nxL n i T = some xs[i]? := fun i T h => by
  unfold nxL
  rw [pre_seq h e]
  rfl
/-- things of a Lean type as values -/
class Em (α : Type) [DecidableEq α] [DatumOrd α] where
  d : α → D
  py : ∀ a, pyD (d a) = some (Datum.toD a)
instance : Em Str where
  d := .str
  py _ := rfl
instance {α β : Type} [DecidableEq α] [DatumOrd α] [DecidableEq β] [DatumOrd β] [Em α] [Em β] : Em (α × β) where
  d p := .tup [Em.d p.1, Em.d p.2]
  py p := by
    show pyD (.tup [Em.d p.1, Em.d p.2]) = _
    simp only [pyD, pyDs, Em.py, Option.bind_some, Option.map_some]
    rfl
section
variable {α : Type} [DecidableEq α] [DatumOrd α] [Em α]
theorem pys (xs : List α) : pyDs (xs.map Em.d) = some (xs.map Datum.toD) := by
  induction xs with
  | nil => rfl
  | cons x xs ih => simp only [List.map_cons, pyDs, Em.py, ih, Option.bind_some, Option.map_some]
theorem alikeB_map (xs : List α) : alikeB (xs.map Datum.toD) = true := by
  simp only [alikeB, List.all_eq_true, List.mem_map]
  rintro _ ⟨a, _, rfl⟩ _ ⟨b, _, rfl⟩
  exact DatumOrd.alike a b
theorem sorted_map [Lin α] (xs : List α) : sortedD (xs.map Em.d) (xs.map Datum.toD) = (xs.mergeSort TB.le).map Em.d := by
  unfold sortedD
  have z : (xs.map Em.d).zip (xs.map (Datum.toD (α := α))) = xs.map fun a => (Em.d a, Datum.toD a) := by
    induction xs with
    | nil => rfl
    | cons x xs ih => simp only [List.map_cons, List.zip_cons_cons, ih]
  rw [z, ← List.map_mergeSort (r := TB.le) (s := leD) (f := fun a : α => (Em.d a, Datum.toD a)) (fun a _ b _ => by rw [← TB.le_data]; rfl), List.map_map]
  rfl
end
section
variable {α : Type} [DecidableEq α] [DatumOrd α] [Em α]
abbrev eT (T : Rows α) : D := .tup (T.map Em.d)
theorem sortB_rows (xs : Rows α) (hd : Datum.depth α ≤ 20) (hl : xs.length < 1000) : sortB (xs.map Datum.toD) = true := by
  have h1 : (xs.map (Datum.toD (α := α × α))).all isTupB = true := by
    simp only [List.all_eq_true, List.mem_map]
    rintro _ ⟨a, _, rfl⟩
    rfl
  have h2 : (xs.map (Datum.toD (α := α × α))).length ≤ sizeLine := by
    have : 1000 ≤ sizeLine := by decide
    rw [List.length_map]; omega
  have h3 : ((xs.map (Datum.toD (α := α × α))).all fun p => decide (p.depth ≤ 60)) = true := by
    simp only [List.all_eq_true, List.mem_map, decide_eq_true_eq]
    rintro _ ⟨a, _, rfl⟩
    have q1 := Datum.depth_le a
    have q2 : Datum.depth (α × α) = max (Datum.depth α) (Datum.depth α) + 1 := rfl
    omega
  simp only [sortB, alikeB_map, h1, h3, Bool.true_or, Bool.and_true, Bool.true_and, decide_eq_true_eq]
  exact h2
theorem turned_ok [Lin α] (T : Rows α) (hd : Datum.depth α ≤ 20) (hl : T.length < 1000) (C : Nat → MF) (S : Sto) : ∃ J, m10 C [eT T] S = some (eT (turned T), S ++ J) := by
  obtain ⟨J, h⟩ := lcE (it := mItr (mVar 0)) (g := gT 2 (gsC (gN 1) (gsC (gN 2) (gsN)))) (t := mYes) (e := mTup (mCons (mVar 2) (mCons (mVar 1) (mNil)))) (env := startE 3 [eT T]) (vs := [1, 2]) (S := S)
    (fun x => match x with | .tup [a, b] => some (.tup [b, a]) | _ => none) (itT (xs := T.map Em.d) rfl) nT (by simpa using hl) (fun x hx T' hT => by
      obtain ⟨p, _, rfl⟩ := List.mem_map.mp hx
      have sz2 : 2 ≤ sizeLine := by decide
      refine ⟨_, [], rfl, rfl, ?_⟩
      simp [mTup, mCons, mVar, mNil, startE, wipeE, sz2])
  have e1 : (T.map Em.d).filterMap (fun x : D => match x with | .tup [a, b] => some (.tup [b, a]) | _ => none) = (T.map Prod.swap).map Em.d := by
    rw [List.filterMap_map, ← List.filterMap_eq_map, List.filterMap_map]
    rfl
  rw [e1] at h
  refine ⟨.lst ((T.map Prod.swap).map Em.d) :: J ++ [.lst ((turned T).map Em.d)], ?_⟩
  have e2 : seqAt S.length (S ++ Ob.lst ((T.map Prod.swap).map Em.d) :: J) = some ((T.map Prod.swap).map Em.d) := seq_new
  have e3 : sortOf ((T.map Prod.swap).map Em.d) (S ++ Ob.lst ((T.map Prod.swap).map Em.d) :: J) = newL ((turned T).map Em.d) (S ++ Ob.lst ((T.map Prod.swap).map Em.d) :: J) := by
    unfold sortOf
    rw [pys, Option.bind_some, if_pos (sortB_rows _ hd (by simpa using hl)), sorted_map]
    rfl
  unfold m10
  simp only [mBody, mRet, mBlt, mCons, mNil, h, gSorted, Option.bind_some, e2, e3, newL, gTuple]
  have e4 : seqAt (S ++ Ob.lst ((T.map Prod.swap).map Em.d) :: J).length ((S ++ Ob.lst ((T.map Prod.swap).map Em.d) :: J) ++ [Ob.lst ((turned T).map Em.d)]) = some ((turned T).map Em.d) := seq_new (J := [])
  rw [e4]
  simp
end
end K53
end

section
set_option Elab.async false
set_option linter.all false
set_option maxRecDepth 100000
set_option maxHeartbeats 4000000
namespace K53
open PySem PySem.Spec PyProof.Rows L2 PL PySem.W TB
theorem sl2 : 2 ≤ sizeLine := by decide
theorem s1000 : 1000 ≤ sizeLine := by decide
abbrev tb (T : Rows Str) (U : Rows (Str × Str)) : D := .tup [eT T, eT U]
theorem tt_ok (T : Rows Str) (U : Rows (Str × Str)) (hT : T.length < 1000) (hU : U.length < 1000) (j : Nat) (S : Sto) : ∃ J, lv (j + 2) 8 [tb T U] S = some (tb (turned T) (turned U), S ++ J) := by
  obtain ⟨J1, e1⟩ := turned_ok T (by decide) hT (lv j) S
  obtain ⟨J2, e2⟩ := turned_ok U (by decide) hU (lv j) (S ++ J1)
  have e1' : lv (j + 1) 10 [eT T] S = _ := e1
  have e2' : lv (j + 1) 10 [eT U] (S ++ J1) = _ := e2
  refine ⟨J1 ++ J2, ?_⟩
  show m8 (lv (j + 1)) _ S = _
  simp [m8, mBody, startE, mSeq, mAsg, mVar, gT, gsC, gN, gsN, mRet, mTup, mCons, mNil, mCall, e1', e2', sl2]
/-- a word -/
structure Wd (x : Str) : Prop where
  lo : 1 ≤ x.length
  hi : x.length ≤ 8
  cs : ∀ c ∈ x.cps.toList, 97 ≤ c ∧ c ≤ 122
  sh : (PyData.str x).showable = true
  rp : (PyData.str x).shown.length ≤ 20
def oD {α : Type} [DecidableEq α] [DatumOrd α] [Em α] : Option α → D
  | none => .non
  | some a => Em.d a
def inB {α : Type} [DecidableEq α] (o : Option α) (xs : List α) : Bool := match o with
  | none => false
  | some b => decide (b ∈ xs)
class Fit (α : Type) [DecidableEq α] [DatumOrd α] [Em α] where
  ok : α → Prop
  dp : Datum.depth α ≤ 20
  lay : ∀ a, ok a → (Datum.toD a).canLay0 = true
  eq : ∀ a b S, ok a → ok b → dEq (Em.d a) (Em.d b) S = some (.bl (decide (a = b)), S)
  inn : ∀ (o : Option α) (xs : List α) (n : Nat) (S : Sto), (∀ b, o = some b → ok b) → (∀ b ∈ xs, ok b) → xs.length < 1000 → seqAt n S = some (xs.map Em.d) →
    ((inA id (oD o) (.ref n) S).orElse fun _ => inP false (oD o) (.ref n) S) = some (.bl (inB o xs), S)
theorem wd_lay {x : Str} (h : Wd x) : (PyData.str x).canLay0 = true := by
  simp only [PyData.canLay0]
  unfold PyData.strOk
  rw [← Array.all_toList, List.all_eq_true]
  intro c hc
  have := (h.cs c hc).2
  simp only [decide_eq_true_eq]
  omega
theorem flatDs_str (xs : List Str) : flatDs (xs.map D.str) = some (xs.map V.str) := by
  induction xs with
  | nil => rfl
  | cons x xs ih => simp only [List.map_cons, flatDs, flatD, ih, Option.bind_some, Option.map_some]
theorem layAll {xs : List PyData} (h : ∀ x ∈ xs, x.canLay0 = true) : PyData.canLayAll0 xs = true := by
  induction xs with
  | nil => rfl
  | cons x xs ih =>
    simp only [PyData.canLayAll0, h x (.head _), ih fun y hy => h y (.tail _ hy), Bool.and_self]
instance : Fit Str where
  ok := Wd
  dp := by decide
  lay a h := wd_lay h
  eq a b S _ _ := rfl
  inn o xs n S h1 h2 hl e := by
    have e' : seqD S (.ref n) = some (xs.map D.str) := e
    cases o with
    | none =>
      have : inSeq id (.non) (.ref n) S = some (.bl false, S) := by
        unfold inSeq
        rw [e']
        simp only [flatD, Option.bind_some, flatDs_str, id, inV]
        congr 2
        simp only [Prod.mk.injEq, D.bl.injEq, and_true]
        rw [List.any_eq_false]
        intro y hy
        obtain ⟨z, _, rfl⟩ := List.mem_map.mp hy
        simp [eqV]
      show (((inSeq id (.non) (.ref n) S).orElse _).orElse _) = _
      rw [this]
      rfl
    | some b =>
      have : inSeq id (.str b) (.ref n) S = some (.bl (decide (b ∈ xs)), S) := by
        unfold inSeq
        rw [e']
        simp only [flatD, Option.bind_some, flatDs_str, id, inV]
        congr 2
        simp only [Prod.mk.injEq, D.bl.injEq, and_true]
        rw [Bool.eq_iff_iff, List.any_eq_true, decide_eq_true_eq]
        constructor
        · rintro ⟨y, hy, h⟩
          obtain ⟨z, hz, rfl⟩ := List.mem_map.mp hy
          have : z = b := by simpa [eqV] using h
          rw [← this]; exact hz
        · intro h
          exact ⟨_, List.mem_map.mpr ⟨b, h, rfl⟩, by simp [eqV]⟩
      show (((inSeq id (.str b) (.ref n) S).orElse _).orElse _) = _
      rw [this]
      rfl
theorem dictAt_seq {n : Nat} {y : D} {S : Sto} {xs : List D} (e : seqAt n S = some xs) : dictAt n y S = none := by
  unfold seqAt at e
  unfold dictAt
  split at e <;> first | (rename_i q; rw [q]) | cases e
theorem inP_ok {α : Type} [DecidableEq α] [DatumOrd α] [Em α] (hd : Datum.depth α ≤ 20) {o : Option α} {xs : List α} {n : Nat} {S : Sto} (h1 : ∀ b, o = some b → (Datum.toD b).canLay0 = true) (h2 : ∀ b ∈ xs, (Datum.toD b).canLay0 = true)
    (e : seqAt n S = some (xs.map Em.d)) : inP false (oD o) (.ref n) S = some (.bl (inB o xs), S) := by
  have e1 : pyT S (.ref n) = some (.list (xs.map Datum.toD)) := by
    show (seqAt n S).bind (fun xs => (pyDs xs).map PyData.list) = _
    rw [e, Option.bind_some, pys]
    rfl
  have e2 : PyData.canLayAll0 (xs.map Datum.toD) = true := layAll fun x hx => by
    obtain ⟨b, hb, rfl⟩ := List.mem_map.mp hx
    exact h2 b hb
  unfold inP
  rw [e1]
  cases o with
  | none =>
    have e3 : ((xs.map (Datum.toD (α := α))).any fun y => PyData.eqv y .none) = false := by
      rw [List.any_eq_false]
      intro y hy
      obtain ⟨z, _, rfl⟩ := List.mem_map.mp hy
      have := DatumOrd.notNone z
      cases g : Datum.toD z <;> simp_all [PyData.eqv]
    have e4 : (PyData.none).canLay0 = true := rfl
    have e5 : (PyData.none).depth ≤ 40 := by decide
    simp only [oD, pyD, Option.bind_some, e2, e4, e3, e5, decide_true, Bool.and_self, if_true]
    rfl
  | some b =>
    have e3 : ((xs.map (Datum.toD (α := α))).any fun y => PyData.eqv y (Datum.toD b)) = decide (b ∈ xs) := by
      rw [Bool.eq_iff_iff, List.any_eq_true, decide_eq_true_eq]
      constructor
      · rintro ⟨y, hy, h⟩
        obtain ⟨z, hz, rfl⟩ := List.mem_map.mp hy
        rw [Datum.eqv, decide_eq_true_eq] at h
        rw [← h]; exact hz
      · intro h
        exact ⟨_, List.mem_map.mpr ⟨b, h, rfl⟩, by rw [Datum.eqv]; simp⟩
    have e5 : (Datum.toD b).depth ≤ 40 := by
      have := Datum.depth_le b
      omega
    simp only [oD, Em.py, Option.bind_some, e2, h1 b rfl, e3, e5, decide_true, Bool.and_self, if_true]
    rfl
instance : Fit (Str × Str) where
  ok p := Wd p.1 ∧ Wd p.2
  dp := by decide
  lay a h := by
    show (PyData.tuple [.str a.1, .str a.2]).canLay0 = true
    have h1 := wd_lay h.1
    have h2 := wd_lay h.2
    simp only [PyData.canLay0, PyData.canLayAll0] at h1 h2 ⊢
    simp [h1, h2]
  eq a b S h1 h2 := by
    have l1 : SeqAt.shaped (Datum.toD a) = true := by
      have h3 := wd_lay h1.1
      have h4 := wd_lay h1.2
      show SeqAt.shaped (PyData.tuple [.str a.1, .str a.2]) = true
      simp only [PyData.canLay0] at h3 h4
      simp [SeqAt.shaped, PyData.canLay0, PyData.canLayAll0, h3, h4, PyData.depth, PyData.depthAll]
    have l2 : SeqAt.shaped (Datum.toD b) = true := by
      have h3 := wd_lay h2.1
      have h4 := wd_lay h2.2
      show SeqAt.shaped (PyData.tuple [.str b.1, .str b.2]) = true
      simp only [PyData.canLay0] at h3 h4
      simp [SeqAt.shaped, PyData.canLay0, PyData.canLayAll0, h3, h4, PyData.depth, PyData.depthAll]
    have e1 : pyT S (Em.d a) = some (Datum.toD a) := Em.py a
    have e2 : pyT S (Em.d b) = some (Datum.toD b) := Em.py b
    show ((sEq id (Em.d a) (Em.d b) S).orElse fun _ => deepB id (Em.d a) (Em.d b) S) = _
    have e3 : sEq id (Em.d a) (Em.d b) S = none := rfl
    rw [e3]
    show deepB id (Em.d a) (Em.d b) S = _
    unfold deepB
    rw [e1, e2]
    simp only [Option.bind_some, l1, l2, Bool.and_self, if_true, Datum.eqv, id]
  inn o xs n S h1 h2 hl e := by
    have lay : ∀ a : Str × Str, (Wd a.1 ∧ Wd a.2) → (Datum.toD a).canLay0 = true := fun a h => by
      show (PyData.tuple [.str a.1, .str a.2]).canLay0 = true
      have h1 := wd_lay h.1
      have h2 := wd_lay h.2
      simp only [PyData.canLay0, PyData.canLayAll0] at h1 h2 ⊢
      simp [h1, h2]
    have hp := inP_ok (α := Str × Str) (by decide) (o := o) (xs := xs) (n := n) (S := S) (fun b hb => lay b (h1 b hb)) (fun b hb => lay b (h2 b hb)) e
    have d0 : ∀ y, inD id y (.ref n) S = none := fun y => by
      show (dictAt n y S).map _ = none
      rw [dictAt_seq e]
      rfl
    have hs : inA id (oD o) (.ref n) S = none ∨ inA id (oD o) (.ref n) S = some (.bl (inB o xs), S) := by
      cases o with
      | none =>
        cases xs with
        | nil =>
          right
          have e' : seqD S (.ref n) = some [] := e
          have q : inSeq id (.non) (.ref n) S = some (.bl false, S) := by
            unfold inSeq
            rw [e']
            rfl
          show ((inSeq id (.non) (.ref n) S).orElse _) = _
          rw [q]
          rfl
        | cons x xs =>
          left
          have e' : seqD S (.ref n) = some (Em.d x :: xs.map Em.d) := e
          have q : inSeq id (.non) (.ref n) S = none := by
            unfold inSeq
            rw [e']
            rfl
          show ((inSeq id (.non) (.ref n) S).orElse fun _ => _) = none
          rw [q]
          exact d0 _
      | some b =>
        left
        exact d0 _
    rcases hs with hs | hs
    · rw [hs]; exact hp
    · rw [hs]; rfl
end K53
end

section
set_option Elab.async false
set_option linter.all false
set_option maxRecDepth 100000
set_option maxHeartbeats 4000000
namespace K53
open PySem PySem.Spec PyProof.Rows L2 PL PySem.W TB
theorem kit_s : kitB "str" "str" = some true := by rfl
theorem kit_t : kitB "tuple" "tuple" = some true := by rfl
theorem xLe_s (a b : Str) (S : Sto) : xLe (.str a) (.str b) S = some (.bl (!decide (b.cps.toList < a.cps.toList)), S) := rfl
theorem xLe_i (a b : Int) (S : Sto) : xLe (.int a) (.int b) S = some (.bl (decide (a ≤ b)), S) := rfl
theorem cps_a : (Str.ofString "a").cps.toList = [97] := by decide +kernel
theorem cps_z : (Str.ofString "z").cps.toList = [122] := by decide +kernel
theorem bls_map (xs : List Nat) (f : Nat → Bool) : blsOf (xs.map fun c => D.bl (f c)) = some (xs.map f) := by
  induction xs with
  | nil => rfl
  | cons x xs ih => simp only [List.map_cons, blsOf, ih, Option.map_some]
theorem xGt_i (a b : Int) (S : Sto) : xGt (.int a) (.int b) S = some (.bl (decide (a > b)), S) := rfl
theorem low (n : Fin 26) : Unicode.isAlpha (97 + n.val) = true ∧ Unicode.isLower (97 + n.val) = true ∧ Unicode.isUpper (97 + n.val) = false ∧ Unicode.isTitle (97 + n.val) = false := by
  have h : ∀ n : Fin 26, (Unicode.isAlpha (97 + n.val) && Unicode.isLower (97 + n.val) && !Unicode.isUpper (97 + n.val) && !Unicode.isTitle (97 + n.val)) = true := by decide +kernel
  have := h n
  simp only [Bool.and_eq_true, Bool.not_eq_true'] at this
  exact ⟨this.1.1.1, this.1.1.2, this.1.2, this.2⟩
theorem lowc {c : Nat} (h : 97 ≤ c ∧ c ≤ 122) : Unicode.isAlpha c = true ∧ Unicode.isLower c = true ∧ Unicode.isUpper c = false ∧ Unicode.isTitle c = false := by
  have := low ⟨c - 97, by omega⟩
  rwa [show 97 + (c - 97) = c by omega] at this
theorem wd_asc {x : Str} (h : Wd x) : Txt.isascii x = true := by
  unfold Txt.isascii
  rw [← Array.all_toList, List.all_eq_true]
  intro c hc
  have := (h.cs c hc).2
  simp only [decide_eq_true_eq]
  omega
theorem wd_alp {x : Str} (h : Wd x) : Txt.isalpha x = true := by
  have a : x.cps.all Unicode.isAlpha = true := by
    rw [← Array.all_toList, List.all_eq_true]
    exact fun c hc => (lowc (h.cs c hc)).1
  have l := h.lo
  unfold Txt.isalpha
  rw [a]
  simp
  omega
theorem wd_low {x : Str} (h : Wd x) : Txt.islower x = true := by
  have l := h.lo
  have ln : x.cps.toList.length = x.length := by simp; rfl
  have a : x.cps.any Unicode.isLower = true := by
    rw [← Array.any_toList, List.any_eq_true]
    have hm : x.cps.toList[0]'(by omega) ∈ x.cps.toList := List.getElem_mem _
    exact ⟨_, hm, (lowc (h.cs _ hm)).2.1⟩
  have b : (x.cps.any fun c => Unicode.isUpper c || Unicode.isTitle c) = false := by
    rw [← Array.any_toList, List.any_eq_false]
    intro c hc
    have := lowc (h.cs c hc)
    simp [this.2.2.1, this.2.2.2]
  unfold Txt.islower
  rw [a, b]
  rfl
theorem word_ok {x : Str} (h : Wd x) (C : Nat → MF) (S : Sto) : ∃ J, m2 C [.str x] S = some (.bl true, S ++ J) := by
  refine ⟨[], ?_⟩
  have h3 : x.length ≤ sizeLine := by have := h.hi; have := s1000; omega
  have e4 : gLen [.str x] S = some (.int x.length, S) := by
    show (if x.length ≤ sizeLine then some (D.int x.length, S) else none) = _
    rw [if_pos h3]
  have h8 : decide ((x.length : Int) > 8) = false := by have := h.hi; rw [decide_eq_false_iff_not]; omega
  have e5 : mBin xGt (mBlt gLen (mCons (mVar 0) mNil)) (mC (.int 8)) (startE 1 [.str x]) S = some (.bl false, S) := by
    simp [mBin, mC, mBlt, mCons, mVar, mNil, startE, e4, xGt_i, h8]
  have e6 : gIsi [.str x, .ty "str"] S = some (.bl true, S) := by
    simp [gIsi, tyD, kit_s]
  have e7 : mBlt gIsi (mCons (mVar 0) (mCons (mC (.ty "str")) mNil)) (startE 1 [.str x]) S = some (.bl true, S) := e6
  have i1 : mMt "str" (gIsT Txt.isascii) (mVar 0) mNil (startE 1 [.str x]) S = some (.bl true, S) := by
    show some (D.bl (Txt.isascii x), S) = _
    rw [wd_asc h]
  have i2 : mMt "str" (gIsT Txt.isalpha) (mVar 0) mNil (startE 1 [.str x]) S = some (.bl true, S) := by
    show some (D.bl (Txt.isalpha x), S) = _
    rw [wd_alp h]
  have i3 : mMt "str" (gIsT Txt.islower) (mVar 0) mNil (startE 1 [.str x]) S = some (.bl true, S) := by
    show some (D.bl (Txt.islower x), S) = _
    rw [wd_low h]
  unfold m2
  simp only [mBody, mSeq, mIfS, mOrT, mNotT, mTru, e7, Option.bind_some, dTru, Bool.not_true, Bool.false_eq_true, if_false, asB, e5, mNext, mRet, mAndV, i1, i2, i3, if_true, List.append_nil]
theorem pair_ok {x y : Str} (hx : Wd x) (hy : Wd y) (j : Nat) (S : Sto) : ∃ J, lv (j + 2) 3 [.tup [.str x, .str y]] S = some (.bl true, S ++ J) := by
  obtain ⟨J1, e1⟩ := word_ok hx (lv j) S
  obtain ⟨J2, e2⟩ := word_ok hy (lv j) (S ++ J1)
  refine ⟨J1 ++ J2, ?_⟩
  have e1' : lv (j + 1) 2 [.str x] S = _ := e1
  have e2' : lv (j + 1) 2 [.str y] (S ++ J1) = _ := e2
  have e6 : gIsi [.tup [.str x, .str y], .ty "tuple"] S = some (.bl true, S) := by
    simp [gIsi, tyD, kit_t]
  have e7 : gLen [.tup [.str x, .str y]] S = some (.int 2, S) := rfl
  have e8 : dEq (.int 2) (.int 2) S = some (.bl true, S) := rfl
  have e9 : ixA (.tup [.str x, .str y]) (.int 0) S = some (.str x, S) := rfl
  have e10 : ixA (.tup [.str x, .str y]) (.int 1) (S ++ J1) = some (.str y, S ++ J1) := rfl
  show m3 (lv (j + 1)) _ S = _
  simp [m3, mBody, mRet, mAndV, mBlt, mCons, mVar, mC, mNil, startE, e6, e7, mBin, e8, dTru, e9, e10, mCall, e1', e2']
section
variable {α : Type} [DecidableEq α] [DatumOrd α] [Em α] [Fit α]
def OkR (T : Rows α) : Prop := ∀ p ∈ T, Fit.ok p.1 ∧ Fit.ok p.2
def fnd (T : Rows α) (x : α) : Option α := (T.find? fun p => decide (p.1 = x)).map Prod.snd
theorem call_fnd (T : Rows α) (ss : List α) (x : α) (o : Option α) : TB.call T ss x o = match fnd T x with
  | some c => some c
  | none => TB.call [] ss x o := by
  induction T with
  | nil => rfl
  | cons p T ih =>
    by_cases h : p.1 = x
    · simp [TB.call, fnd, h]
    · have : fnd (p :: T) x = fnd T x := by simp [fnd, h]
      rw [this, ← ih]
      simp [TB.call, h]
theorem fnd_yes {p : α × α} {T : Rows α} {x : α} (h : p.1 = x) : fnd (p :: T) x = some p.2 := by simp [fnd, h]
theorem fnd_no {p : α × α} {T : Rows α} {x : α} (h : ¬ p.1 = x) : fnd (p :: T) x = fnd T x := by simp [fnd, h]
theorem call_loop {T : Rows α} (hT : OkR T) {x : α} (hx : Fit.ok x) (S : Sto) (u w c : Option D) : ∀ (k i : Nat) (a b : Option D), T.length = i + k → ∃ a' b',
    mForL (nxT (T.map Em.d)) (gT 2 (gsC (gN 3) (gsC (gN 4) (gsN)))) (mIfS (asB (mBin dEq (mVar 3) (mVar 1))) (mRet (mVar 4)) (mNext)) (k + 1) i [u, some (Em.d x), w, a, b, c] S =
      some (match fnd (T.drop i) x with | some c => .rt (Em.d c) | none => .nx, [u, some (Em.d x), w, a', b', c], S) := by
  intro k
  induction k with
  | zero =>
    intro i a b hi
    refine ⟨a, b, ?_⟩
    have h0 : (T.map Em.d)[i]? = none := List.getElem?_eq_none_iff.mpr (by simp; omega)
    have h1 : T.drop i = [] := List.drop_eq_nil_of_le (by omega)
    unfold mForL
    show (some (T.map Em.d)[i]?).bind _ = _
    rw [h0, h1]
    rfl
  | succ k ih =>
    intro i a b hi
    have hx' : i < T.length := by omega
    have h0 : (T.map Em.d)[i]? = some (Em.d T[i]) := by rw [List.getElem?_map, List.getElem?_eq_getElem hx']; rfl
    have h1 : T.drop i = T[i] :: T.drop (i + 1) := List.drop_eq_getElem_cons hx'
    have q := Fit.eq T[i].1 x S (hT _ (List.getElem_mem hx')).1 hx
    have hn : nxT (T.map Em.d) i S = some (some (Em.d T[i])) := by
      show some (T.map Em.d)[i]? = _
      rw [h0]
    rw [h1]
    have g1 : gT 2 (gsC (gN 3) (gsC (gN 4) (gsN))) (Em.d T[i]) [u, some (Em.d x), w, a, b, c] S = some ([u, some (Em.d x), w, some (Em.d T[i].1), some (Em.d T[i].2), c], S) := rfl
    by_cases g : T[i].1 = x
    · refine ⟨some (Em.d T[i].1), some (Em.d T[i].2), ?_⟩
      have e : fnd (T[i] :: T.drop (i + 1)) x = some T[i].2 := fnd_yes g
      rw [decide_eq_true g] at q
      rw [e]
      unfold mForL
      rw [hn]
      simp only [Option.bind_some, g1]
      simp [mIfS, asB, mBin, mVar, q, mRet]
    · obtain ⟨a', b', e⟩ := ih (i + 1) (some (Em.d T[i].1)) (some (Em.d T[i].2)) (by omega)
      refine ⟨a', b', ?_⟩
      have e' : fnd (T[i] :: T.drop (i + 1)) x = fnd (T.drop (i + 1)) x := fnd_no g
      rw [decide_eq_false g] at q
      rw [e']
      unfold mForL
      rw [hn]
      simp only [Option.bind_some, g1]
      simp [mIfS, asB, mBin, mVar, q, mNext]
      exact e
theorem call_ok {T : Rows α} (hT : OkR T) (hl : T.length < 1000) {x : α} (hx : Fit.ok x) {o : Option α} (ho : ∀ b, o = some b → Fit.ok b) (C : Nat → MF) (S : Sto) : ∃ J, m9 C [eT T, Em.d x, oD o] S = some (oD (cl T x o), S ++ J) := by
  obtain ⟨a', b', e⟩ := call_loop hT hx S (some (eT T)) (some (oD o)) none T.length 0 none none (by omega)
  rw [List.drop_zero] at e
  have e' : mFor (mItr (mVar 0)) (gT 2 (gsC (gN 3) (gsC (gN 4) (gsN)))) (mIfS (asB (mBin dEq (mVar 3) (mVar 1))) (mRet (mVar 4)) (mNext)) (startE 6 [eT T, Em.d x, oD o]) S =
      some (match fnd T x with | some c => .rt (Em.d c) | none => .nx, [some (eT T), some (Em.d x), some (oD o), a', b', none], S) := by
    unfold mFor
    rw [itT (xs := T.map Em.d) rfl]
    simp only [Option.bind_some, List.length_map]
    exact e
  unfold cl
  rw [call_fnd]
  cases hf : fnd T x with
  | some c =>
    refine ⟨[], ?_⟩
    rw [hf] at e'
    unfold m9
    simp only [mBody, mSeq, e', Option.bind_some]
    simp [oD]
  | none =>
    rw [hf] at e'
    obtain ⟨J, h⟩ := lcE (it := mItr (mVar 0)) (g := gT 2 (gsC (gN 5) (gsC (gN 4) (gsN)))) (t := mYes) (e := mVar 4) (env := [some (eT T), some (Em.d x), some (oD o), a', b', none]) (vs := [5, 4]) (S := S)
      (fun x => match x with | .tup [a, b] => some b | _ => none) (itT (xs := T.map Em.d) rfl) nT (by simpa using hl) (fun x hx T' hT => by
        obtain ⟨p, _, rfl⟩ := List.mem_map.mp hx
        refine ⟨_, [], rfl, rfl, ?_⟩
        simp [mVar, wipeE])
    have e1 : (T.map Em.d).filterMap (fun x : D => match x with | .tup [a, b] => some b | _ => none) = (seconds T).map Em.d := by
      rw [List.filterMap_map, ← List.filterMap_eq_map, seconds, List.filterMap_map]
      rfl
    rw [e1] at h
    have q := Fit.inn o (seconds T) S.length (S ++ Ob.lst ((seconds T).map Em.d) :: J) ho (fun b hb => by
      obtain ⟨p, hp, rfl⟩ := List.mem_map.mp hb
      exact (hT p hp).2) (by simpa [seconds] using hl) seq_new
    have t1 : mOrTT (asB (mBin (inA id) (mVar 2) (mLc (mItr (mVar 0)) (gT 2 (gsC (gN 5) (gsC (gN 4) (gsN)))) (mYes) (mVar 4) [5, 4]))) (asB (mBin (inP false) (mVar 2) (mLc (mItr (mVar 0)) (gT 2 (gsC (gN 5) (gsC (gN 4) (gsN)))) (mYes) (mVar 4) [5, 4])))
        [some (eT T), some (Em.d x), some (oD o), a', b', none] S = some (inB o (seconds T), S ++ Ob.lst ((seconds T).map Em.d) :: J) := by
      have v2 : mVar 2 [some (eT T), some (Em.d x), some (oD o), a', b', none] S = some (oD o, S) := rfl
      unfold mOrTT
      simp only [asB, mBin, v2, Option.bind_some, h]
      cases g : inA id (oD o) (.ref S.length) (S ++ Ob.lst ((seconds T).map Em.d) :: J) with
      | some z =>
        rw [g] at q
        have q' : z = (.bl (inB o (seconds T)), S ++ Ob.lst ((seconds T).map Em.d) :: J) := Option.some.inj q
        subst q'
        rfl
      | none =>
        rw [g] at q
        have q' : inP false (oD o) (.ref S.length) (S ++ Ob.lst ((seconds T).map Em.d) :: J) = _ := q
        rw [q']
        rfl
    refine ⟨Ob.lst ((seconds T).map Em.d) :: J, ?_⟩
    have v2 : ∀ S', mVar 2 [some (eT T), some (Em.d x), some (oD o), a', b', none] S' = some (oD o, S') := fun _ => rfl
    unfold m9
    simp only [mBody, mSeq, e', Option.bind_some, mRet, mIf, t1]
    cases o with
    | none => rfl
    | some b =>
      by_cases hb : b ∈ seconds T
      · simp [inB, hb, mC, TB.call, oD]
      · simp [inB, hb, TB.call, v2]
end
end K53
end

section
set_option Elab.async false
set_option linter.all false
set_option maxRecDepth 100000
set_option maxHeartbeats 4000000
namespace K53
open PySem PySem.Spec PyProof.Rows L2 PL PySem.W TB
theorem cut1 (xs : List D) : PL.cutD xs (some 1) none = xs.drop 1 := by
  unfold PL.cutD HT.sIx
  cases xs with
  | nil => simp
  | cons x xs => simp
theorem scene_ok {T : Rows Str} {U : Rows (Str × Str)} (hT : OkR T) (hl : T.length < 1000) {x : Str} (hx : Wd x) (j : Nat) (S : Sto) : ∃ J, lv (j + 2) 6 [tb T U, .str x] S = some (oD (sc T x), S ++ J) := by
  obtain ⟨J1, e1⟩ := word_ok hx (lv j) S
  obtain ⟨J2, e2⟩ := call_ok (o := some x) hT hl hx (fun b hb => by cases hb; exact hx) (lv j) (S ++ J1)
  have e1' : lv (j + 1) 2 [.str x] S = _ := e1
  have e2' : lv (j + 1) 9 [eT T, .str x, .str x] (S ++ J1) = some (oD (sc T x), S ++ J1 ++ J2) := e2
  have e9 : ixA (tb T U) (.int 0) (S ++ J1) = some (eT T, S ++ J1) := rfl
  refine ⟨J1 ++ J2, ?_⟩
  show m6 (lv (j + 1)) _ S = _
  simp only [m6, mBody, mRet, mIf, mTru, mCall, mCons, mVar, mNil, startE, List.map_cons, List.map_nil, List.length_cons, List.length_nil, List.cons_append, List.nil_append, List.getElem?_cons_succ, List.getElem?_cons_zero, Option.bind_some, e1', dTru, if_true, mBin, mC, e9, e2']
  simp
theorem choice_ok {T : Rows Str} {U : Rows (Str × Str)} (hT : OkR T) (hU : OkR U) (hl : T.length < 1000) (hl2 : U.length < 1000) {x : Str × Str} (hx : Wd x.1 ∧ Wd x.2) (j : Nat) (S : Sto) : ∃ J, lv (j + 3) 7 [tb T U, Em.d x] S = some (oD (ch T U x), S ++ J) := by
  obtain ⟨J1, e1⟩ := pair_ok hx.1 hx.2 j S
  obtain ⟨J2, e2⟩ := scene_ok (U := U) hT hl hx.1 j (S ++ J1)
  have oks : ∀ s, sc T x.1 = some s → Wd s := fun s hs => by
    unfold sc cl at hs
    rw [call_fnd] at hs
    cases g : fnd T x.1 with
    | some c =>
      rw [g] at hs
      cases hs
      obtain ⟨p, hp, rfl⟩ := Option.map_eq_some_iff.mp g
      exact (hT p (List.mem_of_find?_eq_some hp)).2
    | none =>
      rw [g] at hs
      simp only [TB.call] at hs
      split at hs
      · cases hs
      · cases hs; exact hx.1
  obtain ⟨J3, e3⟩ := call_ok (o := (sc T x.1).map fun s => (s, x.2)) hU hl2 (x := x) hx (fun b hb => by
    obtain ⟨s, q1, rfl⟩ := Option.map_eq_some_iff.mp hb
    exact ⟨oks s q1, hx.2⟩) (lv (j + 1)) (S ++ J1 ++ J2)
  have e3' : lv (j + 2) 9 [eT U, Em.d x, oD ((sc T x.1).map fun s => (s, x.2))] (S ++ J1 ++ J2) = some (oD (ch T U x), S ++ J1 ++ J2 ++ J3) := e3
  have e1' : lv (j + 2) 3 [Em.d x] S = some (.bl true, S ++ J1) := e1
  have i0 : ∀ S', ixA (Em.d x) (.int 0) S' = some (.str x.1, S') := fun _ => rfl
  have i1 : ∀ S', ixA (Em.d x) (.int 1) S' = some (.str x.2, S') := fun _ => rfl
  have i2 : ∀ S', ixA (tb T U) (.int 1) S' = some (eT U, S') := fun _ => rfl
  refine ⟨J1 ++ J2 ++ J3, ?_⟩
  show m7 (lv (j + 2)) _ S = _
  have t1 : mIf (asB (mBin dIsO (mVar 2) (mC .non))) (mC .non) (mTup (mCons (mVar 2) (mCons (mBin ixA (mVar 1) (mC (.int 1))) (mNil)))) [some (tb T U), some (Em.d x), some (oD (sc T x.1))] (S ++ J1 ++ J2) = some (oD ((sc T x.1).map fun s => (s, x.2)), S ++ J1 ++ J2) := by
    cases sc T x.1 with
    | none => rfl
    | some s =>
      have q : dIsO (.str s) .non (S ++ J1 ++ J2) = some (.bl false, S ++ J1 ++ J2) := rfl
      simp only [mIf, asB, mBin, mVar, mC, List.getElem?_cons_succ, List.getElem?_cons_zero, Option.bind_some, oD, Option.map_some]
      have q' : dIsO (Em.d s) .non (S ++ J1 ++ J2) = some (.bl false, S ++ J1 ++ J2) := q
      simp only [q', Option.bind_some, Bool.false_eq_true, if_false, mTup, mCons, mVar, mBin, mC, mNil, List.getElem?_cons_succ, List.getElem?_cons_zero, i1, List.length_cons, List.length_nil, sl2, if_true]
      rfl
  have c0 : mCall 2 (lv (j + 2) 6) (mCons (mVar 0) (mCons (mBin ixA (mVar 1) (mC (.int 0))) mNil)) [some (tb T U), some (Em.d x), none] (S ++ J1) = some (oD (sc T x.1), S ++ J1 ++ J2) := by
    simp [-List.append_assoc, mCall, mCons, mBin, mVar, mC, mNil, i0, e2]
  have c1 : mCall 3 (lv (j + 2) 9) (mCons (mBin ixA (mVar 0) (mC (.int 1))) (mCons (mVar 1) (mCons (mIf (asB (mBin dIsO (mVar 2) (mC .non))) (mC .non) (mTup (mCons (mVar 2) (mCons (mBin ixA (mVar 1) (mC (.int 1))) (mNil))))) mNil))) [some (tb T U), some (Em.d x), some (oD (sc T x.1))] (S ++ J1 ++ J2) = some (oD (ch T U x), S ++ J1 ++ J2 ++ J3) := by
    have v : mVar 1 [some (tb T U), some (Em.d x), some (oD (sc T x.1))] (S ++ J1 ++ J2) = some (Em.d x, S ++ J1 ++ J2) := rfl
    have w : mBin ixA (mVar 0) (mC (.int 1)) [some (tb T U), some (Em.d x), some (oD (sc T x.1))] (S ++ J1 ++ J2) = some (eT U, S ++ J1 ++ J2) := rfl
    simp only [mCall, mCons, w, v, t1, mNil, Option.bind_some, List.length_cons, List.length_nil, if_true]
    exact e3'
  have c2 : mCall 1 (lv (j + 2) 3) (mCons (mVar 1) mNil) [some (tb T U), some (Em.d x), none] S = some (.bl true, S ++ J1) := by
    simp [-List.append_assoc, mCall, mCons, mVar, mNil, e1']
  have st : startE 3 [tb T U, Em.d x] = [some (tb T U), some (Em.d x), none] := rfl
  simp only [m7, mBody, st, mSeq, mIfS, mNotT, mTru, c2, Option.bind_some, dTru, Bool.not_true, Bool.false_eq_true, if_false, mNext, mAsg, c0, gN, List.set_cons_succ, List.set_cons_zero, mRet, c1]
  simp
end K53
end

section
set_option Elab.async false
set_option linter.all false
set_option maxRecDepth 100000
set_option maxHeartbeats 4000000
namespace K53
open PySem PySem.Spec PyProof.Rows L2 PL PySem.W TB
theorem ded_self {α : Type} [DecidableEq α] : ∀ {xs : List α}, xs.Nodup → ded xs = xs
  | [], _ => rfl
  | x :: xs, h => by
    have h' := List.nodup_cons.mp h
    unfold ded
    rw [if_neg h'.1, ded_self h'.2]
class Fit2 (α : Type) [DecidableEq α] [DatumOrd α] [Em α] [Fit α] : Prop where
  lt : ∀ (a b : α) (S : Sto), Fit.ok a → Fit.ok b → xLt (Em.d a) (Em.d b) S = some (.bl (DatumOrd.lt a b), S)
  len : ∀ (xs : List α) (n : Nat) (env : PL.Env) (i : Nat) (S : Sto), env[i]? = some (some (.ref n)) → seqAt n S = some (xs.map Em.d) → xs.Nodup → xs.length < 60 → mLenSetX (mVar i) env S = some (.int xs.length, S)
theorem strs_map (xs : List Str) : strsD (xs.map D.str) = some xs := by
  induction xs with
  | nil => rfl
  | cons x xs ih => simp only [List.map_cons, strsD, ih, Option.map_some]
theorem mv {env : PL.Env} {i : Nat} {d : D} (h : env[i]? = some (some d)) (S : Sto) : mVar i env S = some (d, S) := by
  unfold mVar
  rw [h]
instance : Fit2 Str where
  lt a b S _ _ := rfl
  len xs n env i S h e nd hl := by
    have e' : seqAt n S = some (xs.map D.str) := e
    have b : xs.length + 1 < scanBound := by
      have : 100 ≤ scanBound := by decide
      omega
    have q : mOfSet gLenS (mVar i) env S = some (.int xs.length, S) := by
      unfold mOfSet setArg
      rw [mv h]
      simp only [Option.bind_some, e', strs_map, b, if_true, gLenS, ded_self nd]
    show ((mOfSet gLenS (mVar i) env S).orElse _) = _
    rw [q]
    rfl
def pk (x : Str × Str) : List Key := [.inr x.1, .inr x.2]
theorem keyLs_map (xs : List (Str × Str)) : keyLs (xs.map Em.d) = some (xs.map pk) := by
  induction xs with
  | nil => rfl
  | cons x xs ih =>
    show keyLs (.tup [.str x.1, .str x.2] :: xs.map Em.d) = _
    unfold keyLs
    rw [ih]
    rfl
theorem pk_inj {x y : Str × Str} (h : pk x = pk y) : x = y := by
  simp only [pk, List.cons.injEq, Sum.inr.injEq, and_true] at h
  exact Prod.ext h.1 h.2
theorem nodup_map {α β : Type} {f : α → β} (hf : ∀ a b, f a = f b → a = b) {xs : List α} (h : xs.Nodup) : (xs.map f).Nodup :=
  List.pairwise_map.mpr (h.imp fun {a b} g e => g (hf a b e))
instance : Fit2 (Str × Str) where
  lt a b S h1 h2 := by
    have e1 : pyT S (Em.d a) = some (Datum.toD a) := Em.py a
    have e2 : pyT S (Em.d b) = some (Datum.toD b) := Em.py b
    have e3 : cmpOk (Datum.toD a) (Datum.toD b) = true := by
      have q1 := DatumOrd.alike a b
      have q2 := Datum.depth_le a
      have q3 : Datum.depth (Str × Str) ≤ 20 := by decide
      have q4 : min (Datum.toD a).depth (Datum.toD b).depth ≤ 64 := by omega
      unfold cmpOk
      simp only [q1, q4, decide_true, Bool.and_true, Bool.true_and]
      rfl
    show ordB _ (Em.d a) (Em.d b) S = _
    unfold ordB
    rw [e1, e2]
    simp only [Option.bind_some, e3, if_true, DatumOrd.lt_eq]
  len xs n env i S h e nd hl := by
    cases xs with
    | nil =>
      have e' : seqAt n S = some [] := e
      have q : mOfSet gLenS (mVar i) env S = some (.int 0, S) := by
        unfold mOfSet setArg
        rw [mv h]
        simp only [Option.bind_some, e']
        rfl
      show ((mOfSet gLenS (mVar i) env S).orElse _) = _
      rw [q]
      rfl
    | cons x xs =>
      have e' : seqAt n S = some (Em.d x :: xs.map Em.d) := e
      have q : mOfSet gLenS (mVar i) env S = none := by
        unfold mOfSet setArg
        rw [mv h]
        simp only [Option.bind_some, e']
        rfl
      show ((mOfSet gLenS (mVar i) env S).orElse fun _ => mLenSetT (mVar i) env S) = _
      rw [q]
      show mLenSetT (mVar i) env S = _
      unfold mLenSetT
      rw [mv h]
      have e2 : keyLs (Em.d x :: xs.map Em.d) = some ((x :: xs).map pk) := keyLs_map (x :: xs)
      have nd2 : ((x :: xs).map pk).Nodup := nodup_map (fun a b => pk_inj) nd
      have hl2 : ((x :: xs).map pk).length < 63 := by rw [List.length_map]; omega
      simp only [Option.bind_some, e', e2]
      rw [if_pos hl2, ded_self nd2, List.length_map]
theorem zip_at {α β γ : Type} (f : α × β → γ) : ∀ (A : List α) (B : List β) (i : Nat), ((A.zip B).map f)[i]? = (A[i]?).bind fun a => (B[i]?).map fun b => f (a, b)
  | [], B, i => by simp
  | a :: A, [], i => by simp
  | a :: A, b :: B, 0 => by simp
  | a :: A, b :: B, i + 1 => by simpa using zip_at f A B i
theorem bls_true (xs : List D) : blsOf (xs.filterMap fun _ => some (D.bl true)) = some (xs.map fun _ => true) := by
  induction xs with
  | nil => rfl
  | cons x xs ih =>
    show blsOf (D.bl true :: xs.filterMap fun _ => some (D.bl true)) = _
    simp only [blsOf, ih, Option.map_some, List.map_cons]
section
variable {α : Type} [DecidableEq α] [DatumOrd α] [Em α] [Fit α] [Fit2 α] [Lin α]
theorem adj {R : α → α → Prop} : ∀ {xs : List α}, xs.Pairwise R → ∀ p ∈ xs.zip (xs.drop 1), R p.1 p.2 ∧ p.1 ∈ xs ∧ p.2 ∈ xs
  | [], _, p, h => by simp at h
  | x :: xs, hp, p, h => by
    cases xs with
    | nil => simp at h
    | cons y ys =>
      have hp' := List.pairwise_cons.mp hp
      simp only [List.drop_succ_cons, List.drop_zero, List.zip_cons_cons, List.mem_cons] at h
      rcases h with rfl | h
      · exact ⟨hp'.1 y (.head _), .head _, .tail _ (.head _)⟩
      · have h2 : p ∈ (y :: ys).zip ((y :: ys).drop 1) := by simpa using h
        obtain ⟨q1, q2, q3⟩ := adj hp'.2 p h2
        exact ⟨q1, .tail _ q2, .tail _ q3⟩
theorem rises_ok {xs : List α} (ok : ∀ a ∈ xs, Fit.ok a) (h : xs.Pairwise fun a b => DatumOrd.lt a b = true) (hl : xs.length < 1000) {n : Nat} {S : Sto} (e : seqAt n S = some (xs.map Em.d)) (C : Nat → MF) : ∃ J, m0 C [.ref n] S = some (.bl true, S ++ J) := by
  let S1 : Sto := S ++ [.lst ((xs.map Em.d).drop 1)]
  have e1 : mSl slA (mVar 0) (mPart (mC (.int 1))) mNo (startE 3 [.ref n]) S = some (.ref S.length, S1) := by
    have q : slA (.ref n) (some 1) none S = some (.ref S.length, S1) := by
      show (seqAt n S).bind _ = _
      rw [e]
      simp only [Option.bind_some, cut1]
      rfl
    exact q
  have p1 : S <+: S1 := ⟨_, rfl⟩
  have a1 : seqAt n S1 = some (xs.map Em.d) := pre_seq p1 e
  have a2 : seqAt S.length S1 = some ((xs.map Em.d).drop 1) := seq_new (J := [])
  let Z : List D := (xs.zip (xs.drop 1)).map fun p => .tup [Em.d p.1, Em.d p.2]
  have zl : Z.length = min (xs.map (Em.d (α := α))).length ((xs.map (Em.d (α := α))).drop 1).length := by simp [Z]
  have zi : ∀ i T, S1 <+: T → nxZ n S.length i T = some Z[i]? := fun i T hT => by
    unfold nxZ
    rw [pre_seq hT a1, pre_seq hT a2]
    simp only [Option.bind_some]
    congr 1
    rw [zip_at, ← List.map_drop, List.getElem?_map]
    cases xs[i]? with
    | none => rfl
    | some a =>
      simp only [Option.map_some, Option.bind_some, List.getElem?_map, Option.map_map]
      rfl
  have it : mZip (mCons (mVar 0) (mCons (mSl slA (mVar 0) (mPart (mC (.int 1))) (mNo)) (mNil))) (startE 3 [.ref n]) S = some ((Z.length + 1, nxZ n S.length), S1) := by
    have v : mVar 0 (startE 3 [.ref n]) S = some (.ref n, S) := rfl
    unfold mZip
    simp only [mCons, v, e1, mNil, Option.bind_some]
    show (seqAt n S1).bind _ = _
    rw [a1]
    simp only [Option.bind_some, a2, zl]
  obtain ⟨J, h⟩ := lcE (t := mYes) (g := gT 2 (gsC (gN 1) (gsC (gN 2) (gsN)))) (e := mBin xLt (mVar 1) (mVar 2)) (vs := [1, 2]) (fun _ => some (.bl true)) it zi (by simp [Z]; omega) (fun y hy T hT => by
    obtain ⟨p, hp, rfl⟩ := List.mem_map.mp hy
    obtain ⟨q1, q2, q3⟩ := adj h p hp
    have q := Fit2.lt p.1 p.2 T (ok _ q2) (ok _ q3)
    rw [q1] at q
    refine ⟨_, [], rfl, rfl, ?_⟩
    show mBin xLt (mVar 1) (mVar 2) [some (.ref n), some (Em.d p.1), some (Em.d p.2)] T = _
    show xLt (Em.d p.1) (Em.d p.2) T = _
    rw [q]
    simp)
  refine ⟨[.lst ((xs.map Em.d).drop 1)] ++ Ob.lst (Z.filterMap fun _ => some (D.bl true)) :: J, ?_⟩
  have e2 : gAll [.ref S1.length] (S1 ++ Ob.lst (Z.filterMap fun _ => some (D.bl true)) :: J) = some (.bl true, S1 ++ Ob.lst (Z.filterMap fun _ => some (D.bl true)) :: J) := by
    show (seqAt _ _).bind _ = _
    rw [seq_new]
    simp only [Option.bind_some, bls_true]
    simp
  unfold m0
  simp only [mBody, mRet, mBlt, mCons, h, mNil, Option.bind_some, e2]
  simp [S1]
theorem unlike_ok {xs : List α} (nd : xs.Nodup) (hl : xs.length < 60) {n : Nat} {S : Sto} (e : seqAt n S = some (xs.map Em.d)) (C : Nat → MF) : m1 C [.ref n] S = some (.bl true, S) := by
  have q := Fit2.len xs n (startE 1 [.ref n]) 0 S rfl e nd hl
  have q2 : gLen [.ref n] S = some (.int xs.length, S) := by
    show (seqD S (.ref n)).map _ = _
    have : seqD S (.ref n) = some (xs.map Em.d) := e
    rw [this]
    simp
  have q3 : dEq (.int xs.length) (.int xs.length) S = some (.bl true, S) := by
    show some (D.bl (id (decide ((xs.length : Int) = xs.length))), S) = _
    simp
  have v : mVar 0 (startE 1 [.ref n]) S = some (.ref n, S) := rfl
  unfold m1
  simp only [mBody, mRet, mBin, q, mBlt, mCons, v, mNil, Option.bind_some, q2, q3]
end
end K53
end

section
set_option Elab.async false
set_option linter.all false
set_option maxRecDepth 100000
set_option maxHeartbeats 4000000
namespace K53
open PySem PySem.Spec PyProof.Rows L2 PL PySem.W TB
theorem isi_tup (xs : List D) (S : Sto) : gIsi [.tup xs, .ty "tuple"] S = some (.bl true, S) := by
  simp [gIsi, tyD, kit_t]
section
variable {α : Type} [DecidableEq α] [DatumOrd α] [Em α] [Fit α] [Fit2 α] [Lin α]
abbrev bodyC (C : Nat → MF) : MS := mSeq (mIfS (mOrT (mNotT (mTru (mBlt gIsi (mCons (mVar 2) (mCons (mC (.ty "tuple")) (mNil)))))) (asB (mBin dNe (mBlt gLen (mCons (mVar 2) (mNil))) (mC (.int 2))))) (mRet (mC (.bl false))) (mNext))
    (mIfS (mOrT (mNotT (mTru (mCallV 1 fsV C (mCons (mBin ixA (mVar 2) (mC (.int 0))) (mNil))))) (mNotT (mTru (mCallV 1 fsV C (mCons (mBin ixA (mVar 2) (mC (.int 1))) (mNil)))))) (mRet (mC (.bl false))) (mNext))
theorem calls_loop {T : Rows α} (hT : OkR T) {nm : Str} {jj : Nat} (hf : fsV nm = some (jj, 1)) {C : Nat → MF} (hone : ∀ (a : α) (S : Sto), Fit.ok a → ∃ J, C jj [Em.d a] S = some (.bl true, S ++ J)) (u x y z : Option D) : ∀ (k i : Nat) (a : Option D) (S : Sto), T.length = i + k → ∃ a' J,
    mForL (nxT (T.map Em.d)) (gN 2) (bodyC C) (k + 1) i [u, some (.fn nm), a, x, y, z] S = some (.nx, [u, some (.fn nm), a', x, y, z], S ++ J) := by
  intro k
  induction k with
  | zero =>
    intro i a S hi
    refine ⟨a, [], ?_⟩
    have h0 : nxT (T.map Em.d) i S = some none := by
      show some (T.map Em.d)[i]? = _
      rw [List.getElem?_eq_none_iff.mpr (by simp; omega)]
    unfold mForL
    rw [h0]
    simp
  | succ k ih =>
    intro i a S hi
    have hx' : i < T.length := by omega
    have hn : nxT (T.map Em.d) i S = some (some (Em.d T[i])) := by
      show some (T.map Em.d)[i]? = _
      rw [List.getElem?_map, List.getElem?_eq_getElem hx']
      rfl
    have okp := hT _ (List.getElem_mem hx')
    generalize hp : T[i] = p at hn okp
    obtain ⟨J1, e1⟩ := hone p.1 S okp.1
    obtain ⟨J2, e2⟩ := hone p.2 (S ++ J1) okp.2
    obtain ⟨a', J3, e3⟩ := ih (i + 1) (some (Em.d p)) (S ++ J1 ++ J2) (by omega)
    refine ⟨a', J1 ++ J2 ++ J3, ?_⟩
    have v2 : ∀ S', mVar 2 [u, some (.fn nm), some (Em.d p), x, y, z] S' = some (Em.d p, S') := fun _ => rfl
    have c1 : mBlt gIsi (mCons (mVar 2) (mCons (mC (.ty "tuple")) (mNil))) [u, some (.fn nm), some (Em.d p), x, y, z] S = some (.bl true, S) := by
      simp only [mBlt, mCons, v2, mC, mNil, Option.bind_some]
      exact isi_tup _ _
    have c2 : mBin dNe (mBlt gLen (mCons (mVar 2) (mNil))) (mC (.int 2)) [u, some (.fn nm), some (Em.d p), x, y, z] S = some (.bl false, S) := rfl
    have c3 : mCallV 1 fsV C (mCons (mBin ixA (mVar 2) (mC (.int 0))) (mNil)) [u, some (.fn nm), some (Em.d p), x, y, z] S = some (.bl true, S ++ J1) := by
      have q : mCons (mBin ixA (mVar 2) (mC (.int 0))) mNil [u, some (.fn nm), some (Em.d p), x, y, z] S = some ([Em.d p.1], S) := rfl
      simp only [mCallV, List.getElem?_cons_succ, List.getElem?_cons_zero, hf, q, Option.bind_some, List.length_cons, List.length_nil, if_true, e1]
    have c4 : mCallV 1 fsV C (mCons (mBin ixA (mVar 2) (mC (.int 1))) (mNil)) [u, some (.fn nm), some (Em.d p), x, y, z] (S ++ J1) = some (.bl true, S ++ J1 ++ J2) := by
      have q : mCons (mBin ixA (mVar 2) (mC (.int 1))) mNil [u, some (.fn nm), some (Em.d p), x, y, z] (S ++ J1) = some ([Em.d p.2], S ++ J1) := rfl
      simp only [mCallV, List.getElem?_cons_succ, List.getElem?_cons_zero, hf, q, Option.bind_some, List.length_cons, List.length_nil, if_true, e2]
    have c5 : bodyC C [u, some (.fn nm), some (Em.d p), x, y, z] S = some (.nx, [u, some (.fn nm), some (Em.d p), x, y, z], S ++ J1 ++ J2) := by
      simp only [bodyC, mSeq, mIfS, mOrT, mNotT, mTru, c1, Option.bind_some, dTru, Bool.not_true, Bool.false_eq_true, if_false, asB, c2, mNext, c3, c4]
    have g1 : gN 2 (Em.d p) [u, some (.fn nm), a, x, y, z] S = some ([u, some (.fn nm), some (Em.d p), x, y, z], S) := rfl
    unfold mForL
    rw [hn]
    simp only [Option.bind_some, g1, c5, e3]
    simp
theorem calls_ok {T : Rows α} (h : Half T) (hT : OkR T) (hl : T.length < 60) {nm : Str} {jj : Nat} (hf : fsV nm = some (jj, 1)) (j : Nat) (hone : ∀ (a : α) (S : Sto), Fit.ok a → ∃ J, lv (j + 2) jj [Em.d a] S = some (.bl true, S ++ J)) (S : Sto) :
    ∃ J, lv (j + 3) 5 [eT T, .fn nm] S = some (.bl true, S ++ J) := by
  obtain ⟨a', J1, e1⟩ := calls_loop hT hf hone (some (eT T)) none none none T.length 0 none S (by omega)
  obtain ⟨J2, e2⟩ := lcE (it := mItr (mVar 0)) (g := gT 2 (gsC (gN 3) (gsC (gN 4) (gsN)))) (t := mYes) (e := mVar 3) (env := [some (eT T), some (.fn nm), a', none, none, none]) (vs := [3, 4]) (S := S ++ J1)
      (fun x => match x with | .tup [a, b] => some a | _ => none) (itT (xs := T.map Em.d) rfl) nT (by simp; omega) (fun x hx T' hT => by
        obtain ⟨p, _, rfl⟩ := List.mem_map.mp hx
        refine ⟨_, [], rfl, rfl, ?_⟩
        simp [mVar, wipeE])
  have f1 : (T.map Em.d).filterMap (fun x : D => match x with | .tup [a, b] => some a | _ => none) = (firsts T).map Em.d := by
    rw [List.filterMap_map, ← List.filterMap_eq_map, firsts, List.filterMap_map]
    rfl
  rw [f1] at e2
  have okf : ∀ a ∈ firsts T, Fit.ok a := fun a ha => by
    obtain ⟨p, hp, rfl⟩ := List.mem_map.mp ha
    exact (hT p hp).1
  let S2 : Sto := S ++ J1 ++ Ob.lst ((firsts T).map Em.d) :: J2
  obtain ⟨J3, e3⟩ := rises_ok (n := (S ++ J1).length) (S := S2) okf h.up (by simp [firsts]; omega) seq_new (lv (j + 1))
  obtain ⟨J4, e4⟩ := lcE (it := mItr (mVar 0)) (g := gT 2 (gsC (gN 4) (gsC (gN 5) (gsN)))) (t := mYes) (e := mVar 5) (env := [some (eT T), some (.fn nm), a', none, none, none]) (vs := [4, 5]) (S := S2 ++ J3)
      (fun x => match x with | .tup [a, b] => some b | _ => none) (itT (xs := T.map Em.d) rfl) nT (by simp; omega) (fun x hx T' hT => by
        obtain ⟨p, _, rfl⟩ := List.mem_map.mp hx
        refine ⟨_, [], rfl, rfl, ?_⟩
        simp [mVar, wipeE])
  have f2 : (T.map Em.d).filterMap (fun x : D => match x with | .tup [a, b] => some b | _ => none) = (seconds T).map Em.d := by
    rw [List.filterMap_map, ← List.filterMap_eq_map, seconds, List.filterMap_map]
    rfl
  rw [f2] at e4
  have e5 := unlike_ok (n := (S2 ++ J3).length) (S := S2 ++ J3 ++ Ob.lst ((seconds T).map Em.d) :: J4) h.one (by simp [seconds]; omega) seq_new (lv (j + 1))
  have e3' : lv (j + 2) 0 [.ref (S ++ J1).length] S2 = _ := e3
  have e5' : lv (j + 2) 1 [.ref (S2 ++ J3).length] (S2 ++ J3 ++ Ob.lst ((seconds T).map Em.d) :: J4) = _ := e5
  have c1 : mBlt gIsi (mCons (mVar 0) (mCons (mC (.ty "tuple")) (mNil))) [some (eT T), some (.fn nm), none, none, none, none] S = some (.bl true, S) := by
    have v : mVar 0 [some (eT T), some (.fn nm), none, none, none, none] S = some (eT T, S) := rfl
    simp only [mBlt, mCons, v, mC, mNil, Option.bind_some]
    exact isi_tup _ _
  have c2 : mFor (mItr (mVar 0)) (gN 2) (bodyC (lv (j + 2))) [some (eT T), some (.fn nm), none, none, none, none] S = some (.nx, [some (eT T), some (.fn nm), a', none, none, none], S ++ J1) := by
    unfold mFor
    rw [itT (xs := T.map Em.d) rfl]
    simp only [Option.bind_some, List.length_map]
    exact e1
  have c3 : mCall 1 (lv (j + 2) 0) (mCons (mLc (mItr (mVar 0)) (gT 2 (gsC (gN 3) (gsC (gN 4) (gsN)))) (mYes) (mVar 3) [3, 4]) (mNil)) [some (eT T), some (.fn nm), a', none, none, none] (S ++ J1) = some (.bl true, S2 ++ J3) := by
    simp only [mCall, mCons, e2, mNil, Option.bind_some, List.length_cons, List.length_nil, if_true]
    exact e3'
  have c4 : mCall 1 (lv (j + 2) 1) (mCons (mLc (mItr (mVar 0)) (gT 2 (gsC (gN 4) (gsC (gN 5) (gsN)))) (mYes) (mVar 5) [4, 5]) (mNil)) [some (eT T), some (.fn nm), a', none, none, none] (S2 ++ J3) = some (.bl true, S2 ++ J3 ++ Ob.lst ((seconds T).map Em.d) :: J4) := by
    simp only [mCall, mCons, e4, mNil, Option.bind_some, List.length_cons, List.length_nil, if_true]
    exact e5'
  refine ⟨J1 ++ Ob.lst ((firsts T).map Em.d) :: J2 ++ J3 ++ Ob.lst ((seconds T).map Em.d) :: J4, ?_⟩
  have st : startE 6 [eT T, .fn nm] = [some (eT T), some (.fn nm), none, none, none, none] := rfl
  show m5 (lv (j + 2)) _ S = _
  unfold m5
  simp only [mBody, st]
  have main : mSeq (mIfS (mNotT (mTru (mBlt gIsi (mCons (mVar 0) (mCons (mC (.ty "tuple")) (mNil)))))) (mRet (mC (.bl false))) (mNext)) (mSeq (mFor (mItr (mVar 0)) (gN 2) (bodyC (lv (j + 2)))) (mRet (mAndV (mCall 1 (lv (j + 2) 0) (mCons (mLc (mItr (mVar 0)) (gT 2 (gsC (gN 3) (gsC (gN 4) (gsN)))) (mYes) (mVar 3) [3, 4]) (mNil))) (mCall 1 (lv (j + 2) 1) (mCons (mLc (mItr (mVar 0)) (gT 2 (gsC (gN 4) (gsC (gN 5) (gsN)))) (mYes) (mVar 5) [4, 5]) (mNil)))))) [some (eT T), some (.fn nm), none, none, none, none] S =
      some (.rt (.bl true), [some (eT T), some (.fn nm), a', none, none, none], S2 ++ J3 ++ Ob.lst ((seconds T).map Em.d) :: J4) := by
    unfold mSeq
    simp only [mIfS, mNotT, mTru, c1, Option.bind_some, dTru, Bool.not_true, Bool.false_eq_true, if_false, mNext, c2, mRet, mAndV, c3, if_true, c4]
  have main' := congrArg (fun q : Option (Flw × PL.Env × Sto) => q.bind fun p => match p.1 with
    | .nx => some (D.non, p.2.2)
    | .rt d => some (d, p.2.2)
    | _ => none) main
  refine Eq.trans main' ?_
  simp [S2]
end
theorem is_table_ok {T : Rows Str} {U : Rows (Str × Str)} (h : Half T) (g : Half U) (hT : OkR T) (hU : OkR U) (hl : T.length < 60) (hl2 : U.length < 60) (j : Nat) (S : Sto) : ∃ J, lv (j + 4) 4 [tb T U] S = some (.bl true, S ++ J) := by
  obtain ⟨J1, e1⟩ := calls_ok h hT hl (nm := Str.ofString "is_word") (jj := 2) (by simp [fsV]) j (fun a S ha => word_ok ha (lv (j + 1)) S) S
  obtain ⟨J2, e2⟩ := calls_ok g hU hl2 (nm := Str.ofString "is_word_pair") (jj := 3) (by
    unfold fsV
    rw [if_neg (by decide +kernel), if_pos rfl]) j (fun a S ha => pair_ok ha.1 ha.2 j S) (S ++ J1)
  refine ⟨J1 ++ J2, ?_⟩
  have st : startE 1 [tb T U] = [some (tb T U)] := rfl
  have c1 : mBlt gIsi (mCons (mVar 0) (mCons (mC (.ty "tuple")) (mNil))) [some (tb T U)] S = some (.bl true, S) := by
    have v : mVar 0 [some (tb T U)] S = some (tb T U, S) := rfl
    simp only [mBlt, mCons, v, mC, mNil, Option.bind_some]
    exact isi_tup _ _
  have c2 : mBin dNe (mBlt gLen (mCons (mVar 0) (mNil))) (mC (.int 2)) [some (tb T U)] S = some (.bl false, S) := rfl
  have a1 : mCons (mBin ixA (mVar 0) (mC (.int 0))) (mCons (mC (.fn (Str.ofString "is_word"))) mNil) [some (tb T U)] S = some ([eT T, .fn (Str.ofString "is_word")], S) := rfl
  have a2 : mCons (mBin ixA (mVar 0) (mC (.int 1))) (mCons (mC (.fn (Str.ofString "is_word_pair"))) mNil) [some (tb T U)] (S ++ J1) = some ([eT U, .fn (Str.ofString "is_word_pair")], S ++ J1) := rfl
  show m4 (lv (j + 3)) _ S = _
  simp only [m4, mBody, st, mSeq, mIfS, mOrT, mNotT, mTru, c1, Option.bind_some, dTru, Bool.not_true, Bool.false_eq_true, if_false, asB, c2, mNext, mRet, mAndV, mCall, a1, List.length_cons, List.length_nil, if_true, e1, a2, e2]
  simp
end K53
end

section
set_option Elab.async false
set_option linter.all false
set_option maxRecDepth 100000
set_option maxHeartbeats 4000000
namespace K53
open PySem PySem.Spec PyProof.Rows L2 PL PySem.W TB
theorem pyInts : ∀ ns : List Int, pyDs (ns.map D.int) = some (ns.map PyData.int)
  | [] => rfl
  | n :: ns => by simp [pyDs, pyD, pyInts ns]
theorem sh0 : SeqAt.shaped (.list []) = true := by rfl
theorem sh_ints (ns : List Int) : SeqAt.shaped (.list (ns.map PyData.int)) = true := by
  have h1 : ∀ ns : List Int, PyData.canLayAll0 (ns.map PyData.int) = true := fun ns => by
    induction ns with
    | nil => rfl
    | cons n ns ih => simp [PyData.canLayAll0, PyData.canLay0, ih]
  have h2 : ∀ ns : List Int, PyData.depthAll (ns.map PyData.int) = 0 := fun ns => by
    induction ns with
    | nil => rfl
    | cons n ns ih => simp [PyData.depthAll, PyData.depth, ih]
  simp [SeqAt.shaped, PyData.canLay0, h1, PyData.depth, h2]
theorem eqv_ints (ns : List Int) : PyData.eqv (.list (ns.map PyData.int)) (.list []) = decide (ns = []) := by
  cases ns with
  | nil => simp [PyData.eqv, PyData.eqvAll]
  | cons n ns => simp [PyData.eqv, PyData.eqvAll]
theorem at_mod {ns : List Int} {a : Nat} {x : Int} (h : ns[a % ns.length]? = some x) : L2.atI (ns.map D.int) ((a : Int) % (ns.length : Int)) = some (.int x) := by
  have hl := (List.getElem?_eq_some_iff.mp h).1
  have e : ((a : Int) % (ns.length : Int)) = ((a % ns.length : Nat) : Int) := (Int.natCast_emod a ns.length).symm
  rw [e]
  have hh : (ns.map D.int)[a % ns.length]? = some (.int x) := by rw [List.getElem?_map, h]; rfl
  exact L2.atI_nat hh
def mixR (cell n many : Int) : Int := (((cell % 2147483629 + 7919 * n + 1) ^ 5 % 2147483647 + 104729 * n) ^ 5 % 2147483587) / 64 % many
/-- the store, the feed in it -/
def F (x0 x2 : Ob) (ns : List Int) (a b n : Int) (rest : Sto) : Sto := x0 :: .dK [(.inr (Str.ofString "cells"), .ref 3), (.inr (Str.ofString "next"), .int a), (.inr (Str.ofString "left"), .int b), (.inr (Str.ofString "draws"), .int n)] :: x2 :: .lst (ns.map D.int) :: rest
section
variable {x0 x2 : Ob} {ns : List Int} {a b n m : Int} {rest : Sto}
theorem n1 : (Str.ofString "cells" = Str.ofString "next") = False := eq_false (by decide +kernel)
theorem n2 : (Str.ofString "cells" = Str.ofString "left") = False := eq_false (by decide +kernel)
theorem n3 : (Str.ofString "cells" = Str.ofString "draws") = False := eq_false (by decide +kernel)
theorem n4 : (Str.ofString "next" = Str.ofString "left") = False := eq_false (by decide +kernel)
theorem n5 : (Str.ofString "next" = Str.ofString "draws") = False := eq_false (by decide +kernel)
theorem n6 : (Str.ofString "left" = Str.ofString "draws") = False := eq_false (by decide +kernel)
theorem n4' : (Str.ofString "left" = Str.ofString "next") = False := eq_false (by decide +kernel)
theorem n5' : (Str.ofString "draws" = Str.ofString "next") = False := eq_false (by decide +kernel)
theorem n6' : (Str.ofString "draws" = Str.ofString "left") = False := eq_false (by decide +kernel)
theorem sl4 : 4 < sizeLine := by decide
theorem ixK (k : String) (S : Sto) : ixA (.ref 1) (.str (Str.ofString k)) S = (dictAt 1 (.str (Str.ofString k)) S).bind fun o => o.map fun d => (d, S) := rfl
theorem ixDr (k : Nat) (y : D) (S : Sto) : ixD (.ref k) y S = (dictAt k y S).bind fun o => o.map fun d => (d, S) := rfl
theorem pyTr (k : Nat) (S : Sto) : pyT S (.ref k) = (seqAt k S).bind fun xs => (pyDs xs).map PyData.list := rfl
theorem gC : ixA (.ref 1) (.str (Str.ofString "cells")) (F x0 x2 ns a b n rest) = some (.ref 3, F x0 x2 ns a b n rest) := by
  rw [ixK]; simp [F, dictAt, PL.keyD, valD]
theorem gNx : ixA (.ref 1) (.str (Str.ofString "next")) (F x0 x2 ns a b n rest) = some (.int a, F x0 x2 ns a b n rest) := by
  rw [ixK]; simp [F, dictAt, PL.keyD, valD, n1]
theorem gL : ixA (.ref 1) (.str (Str.ofString "left")) (F x0 x2 ns a b n rest) = some (.int b, F x0 x2 ns a b n rest) := by
  rw [ixK]; simp [F, dictAt, PL.keyD, valD, n2, n4]
theorem gDr : ixA (.ref 1) (.str (Str.ofString "draws")) (F x0 x2 ns a b n rest) = some (.int n, F x0 x2 ns a b n rest) := by
  rw [ixK]; simp [F, dictAt, PL.keyD, valD, n3, n5, n6]
theorem sNx : setSeq (.ref 1) (.str (Str.ofString "next")) (.int m) (F x0 x2 ns a b n rest) = some (F x0 x2 ns m b n rest) := by
  simp [F, setSeq, putD, n1, n4', n5', sl4]
theorem sL : setSeq (.ref 1) (.str (Str.ofString "left")) (.int m) (F x0 x2 ns a b n rest) = some (F x0 x2 ns a m n rest) := by
  simp [F, setSeq, putD, n2, n4, n6', sl4]
theorem sDr : setSeq (.ref 1) (.str (Str.ofString "draws")) (.int m) (F x0 x2 ns a b n rest) = some (F x0 x2 ns a b m rest) := by
  simp [F, setSeq, putD, n3, n5, n6, sl4]
theorem gLn : gLen [.ref 3] (F x0 x2 ns a b n rest) = some (.int ns.length, F x0 x2 ns a b n rest) := by
  simp [gLen, seqD, seqAt, F]
theorem gAt {i : Int} : ixA (.ref 3) (.int i) (F x0 x2 ns a b n rest) = ((L2.atI (ns.map D.int) i).bind fun d => some (d, F x0 x2 ns a b n rest)).orElse fun _ => none := by
  have e : ixD (.ref 3) (.int i) (F x0 x2 ns a b n rest) = none := by
    rw [ixDr]
    simp [dictAt, F]
  have e2 : ixSeq (.ref 3) (.int i) (F x0 x2 ns a b n rest) = (L2.atI (ns.map D.int) i).bind fun d => some (d, F x0 x2 ns a b n rest) := by
    simp [ixSeq, seqD, seqAt, F]
    cases L2.atI (ns.map D.int) i <;> rfl
  unfold ixA
  rw [e2, e]
theorem nE : dNe (.ref 3) (.ref (F x0 x2 ns a b n rest).length) (F x0 x2 ns a b n (rest ++ [.lst []])) = some (.bl (!decide (ns = [])), F x0 x2 ns a b n (rest ++ [.lst []])) := by
  have p1 : pyT (F x0 x2 ns a b n (rest ++ [.lst []])) (.ref 3) = some (.list (ns.map PyData.int)) := by
    rw [pyTr]
    simp [seqAt, F, pyInts]
  have p2 : pyT (F x0 x2 ns a b n (rest ++ [.lst []])) (.ref (F x0 x2 ns a b n rest).length) = some (.list []) := by
    rw [pyTr]
    have : seqAt (F x0 x2 ns a b n rest).length (F x0 x2 ns a b n rest ++ [.lst []]) = some [] := seq_new (J := [])
    have e : F x0 x2 ns a b n rest ++ [.lst []] = F x0 x2 ns a b n (rest ++ [.lst []]) := rfl
    rw [e] at this
    rw [this]
    rfl
  show deepB not _ _ _ = _
  unfold deepB
  rw [p1, p2]
  simp only [Option.bind_some, sh_ints, sh0, Bool.and_self, if_true, eqv_ints]
theorem natAbs_lt {x : Int} {m : Nat} (h0 : 0 ≤ x) (h : x < m) : x.natAbs < m := by omega
end
def FeedAt (ns : List Int) (k : Nat) (S : Sto) : Prop := ∃ (x0 x2 : Ob) (a : Nat) (b : Int) (n : Nat) (rest : Sto), S = F x0 x2 ns a b n rest ∧ n ≤ k
theorem mix_ev {x n many : Int} (hm : 0 < many) (hm2 : many < 1000) (h0 : 0 ≤ n) (hn : n < 1000000000001) (env : PL.Env) (h5 : env[5]? = some (some (.int x))) (h2 : env[2]? = some (some (.int n))) (h1 : env[1]? = some (some (.int many))) (h6 : 6 < env.length) (S : Sto) :
    mSeq (mAsg (mBin dMod (mBin dPow (mBin dAdd (mBin dAdd (mBin dMod (mVar 5) (mC (.int 2147483629))) (mBin dMul (mC (.int 7919)) (mVar 2))) (mC (.int 1))) (mC (.int 5))) (mC (.int 2147483647))) (gN 6))
    (mSeq (mAsg (mBin dMod (mBin dPow (mBin dAdd (mVar 6) (mBin dMul (mC (.int 104729)) (mVar 2))) (mC (.int 5))) (mC (.int 2147483587))) (gN 6))
    (mRet (mBin dMod (mBin dDiv (mVar 6) (mC (.int 64))) (mVar 1)))) env S = some (.rt (.int (mixR x n many)), (env.set 6 (some (.int ((x % 2147483629 + 7919 * n + 1) ^ 5 % 2147483647)))).set 6 (some (.int (((x % 2147483629 + 7919 * n + 1) ^ 5 % 2147483647 + 104729 * n) ^ 5 % 2147483587))), S) := by
  have h3 : many < 1073741824 := by omega
  have q1 := Int.emod_nonneg x (show (2147483629 : Int) ≠ 0 by decide)
  have q2 := Int.emod_lt_of_pos x (show (0 : Int) < 2147483629 by decide)
  have e1 : (x % 2147483629 + 7919 * n + 1).natAbs < 18446744073709551616 := natAbs_lt (by omega) (by omega)
  have e2 : ((x % 2147483629 + 7919 * n + 1) ^ 5 % 2147483647 + 104729 * n).natAbs < 18446744073709551616 := by
    have := Int.emod_nonneg ((x % 2147483629 + 7919 * n + 1) ^ 5) (show (2147483647 : Int) ≠ 0 by decide)
    have := Int.emod_lt_of_pos ((x % 2147483629 + 7919 * n + 1) ^ 5) (show (0 : Int) < 2147483647 by decide)
    exact natAbs_lt (by omega) (by omega)
  simp [mSeq, mAsg, mBin, mVar, mC, h5, h2, h1, h6, gN, mRet, dMod, dPow, dAdd, dMul, dDiv, iiI, PL.alt, cMulB, cPowB, cDivB, hm, h3, e1, e2, mixR, List.getElem?_set]
theorem mix_bd (c n many : Int) (hm : 0 < many) : 0 ≤ mixR c n many ∧ mixR c n many < many := ⟨Int.emod_nonneg _ (by omega), Int.emod_lt_of_pos _ hm⟩
end K53
end

section
set_option Elab.async false
set_option linter.all false
set_option maxRecDepth 100000
set_option maxHeartbeats 4000000
namespace K53
open PySem PySem.Spec PyProof.Rows L2 PL PySem.W TB
theorem seq_nx {a b : MS} {env e' : PL.Env} {S S' : Sto} (h : a env S = some (.nx, e', S')) : mSeq a b env S = b e' S' := by
  unfold mSeq; rw [h]; rfl
theorem seq_rt {a b : MS} {env e' : PL.Env} {S S' : Sto} {d : D} (h : a env S = some (.rt d, e', S')) : mSeq a b env S = some (.rt d, e', S') := by
  unfold mSeq; rw [h]; rfl
theorem body_rt {n : Nat} {b : MS} {ds : List D} {e' : PL.Env} {S S' : Sto} {d : D} (h : b (startE n ds) S = some (.rt d, e', S')) : mBody n b ds S = some (d, S') := by
  unfold mBody; rw [h]; rfl
theorem if_yes {c : MT} {a b : MS} {env : PL.Env} {S S' : Sto} (h : c env S = some (true, S')) : mIfS c a b env S = a env S' := by
  unfold mIfS; rw [h]; rfl
theorem if_no {c : MT} {a b : MS} {env : PL.Env} {S S' : Sto} (h : c env S = some (false, S')) : mIfS c a b env S = b env S' := by
  unfold mIfS; rw [h]; rfl
/-- S' is S and more; what may be another one: the feed, what X names -/
structure Go (X : List Nat) (S S' : Sto) : Prop where
  len : S.length ≤ S'.length
  keep : ∀ (i : Nat) (o : Ob), i ≠ 1 → i ∉ X → S[i]? = some o → S'[i]? = some o
theorem Go.refl {X : List Nat} {S : Sto} : Go X S S := ⟨Nat.le_refl _, fun _ _ _ _ h => h⟩
theorem Go.trans {X : List Nat} {S S1 S2 : Sto} (a : Go X S S1) (b : Go X S1 S2) : Go X S S2 := ⟨Nat.le_trans a.len b.len, fun i o h1 h2 h => b.keep i o h1 h2 (a.keep i o h1 h2 h)⟩
theorem Go.more {X Y : List Nat} {S S' : Sto} (a : Go X S S') (h : ∀ i ∈ X, i ∈ Y) : Go Y S S' := ⟨a.len, fun i o h1 h2 e => a.keep i o h1 (fun z => h2 (h i z)) e⟩
theorem Go.new {X : List Nat} {S T : Sto} : Go X S (S ++ T) := ⟨by rw [List.length_append]; omega, fun i o _ _ h => by rw [List.getElem?_append_left (List.getElem?_eq_some_iff.mp h).1]; exact h⟩
theorem FeedAt.new {ns : List Int} {k : Nat} {S T : Sto} (Fd : FeedAt ns k S) : FeedAt ns k (S ++ T) := by
  obtain ⟨x0, x2, a, b, n, rest, rfl, h⟩ := Fd
  exact ⟨x0, x2, a, b, n, rest ++ T, rfl, h⟩
theorem FeedAt.mono {ns : List Int} {k l : Nat} {S : Sto} (Fd : FeedAt ns k S) (h : k ≤ l) : FeedAt ns l S := by
  obtain ⟨x0, x2, a, b, n, rest, e, hn⟩ := Fd
  exact ⟨x0, x2, a, b, n, rest, e, Nat.le_trans hn h⟩
theorem go_F {X : List Nat} {x0 x2 : Ob} {ns : List Int} {a b n a' b' n' : Int} {rest J : Sto} : Go X (F x0 x2 ns a b n rest) (F x0 x2 ns a' b' n' (rest ++ J)) := by
  refine ⟨by simp [F], fun i o h1 _ h => ?_⟩
  match i, h1, h with
  | 0, _, h => exact h
  | 1, h1, _ => exact absurd rfl h1
  | 2, _, h => exact h
  | 3, _, h => exact h
  | i + 4, _, h =>
    have h' : rest[i]? = some o := h
    show (rest ++ J)[i]? = some o
    rw [List.getElem?_append_left (List.getElem?_eq_some_iff.mp h').1]
    exact h'
theorem draw_ok {ns : List Int} {k : Nat} {S : Sto} (Fd : FeedAt ns k S) (hk : k < 1000000000) (C : Nat → MF) (many : Int) (hm : 0 < many) (hm2 : many < 1000) :
    ∃ (r : Int) (S' : Sto), m12 C [.ref 1, .int many] S = some (.int r, S') ∧ 0 ≤ r ∧ r < many ∧ FeedAt ns (k + 1) S' ∧ Go [] S S' := by
  obtain ⟨x0, x2, a, b, n, rest, rfl, hn⟩ := Fd
  have c1 : ((n : Int) + 1) = ((n + 1 : Nat) : Int) := by omega
  have c2 : ((a : Int) + 1) = ((a + 1 : Nat) : Int) := by omega
  have h3 : many < 1073741824 := by omega
  have st : startE 7 [.ref 1, .int many] = [some (.ref 1), some (.int many), none, none, none, none, none] := rfl
  unfold m12
  have P1 : ∀ T : Sto, T = F x0 x2 ns a b n rest → mAsg (mBin dAdd (mBin ixA (mVar 0) (mC (.str (Str.ofString "draws")))) (mC (.int 1))) (gN 2) (startE 7 [.ref 1, .int many]) T = some (.nx, [some (.ref 1), some (.int many), some (.int (n + 1)), none, none, none, none], T) := fun T hT => by
    subst hT
    rw [st]
    simp [mAsg, mBin, mVar, mC, gDr, gN, dAdd, iiI, PL.alt]
  have P2 : mAsg (mVar 2) (gSubM (mVar 0) (mC (.str (Str.ofString "draws"))) setSeq) [some (.ref 1), some (.int many), some (.int (n + 1)), none, none, none, none] (F x0 x2 ns a b n rest) = some (.nx, [some (.ref 1), some (.int many), some (.int (n + 1)), none, none, none, none], F x0 x2 ns a b (n + 1) rest) := by
    simp [mAsg, mVar, mC, gSubM, sDr]
  by_cases hb : 0 < b
  · refine ⟨b % many, F x0 x2 ns a (b / many) (n + 1) rest, ?_, Int.emod_nonneg _ (by omega), Int.emod_lt_of_pos _ hm, ⟨x0, x2, a, b / many, n + 1, rest, by rw [c1], by omega⟩, ?_⟩
    · refine body_rt (e' := [some (.ref 1), some (.int many), some (.int (n + 1)), some (.int (b % many)), none, none, none]) ?_
      rw [seq_nx (P1 _ rfl), seq_nx P2]
      refine seq_rt ?_
      rw [if_yes (S' := F x0 x2 ns a b (n + 1) rest) (by simp [asB, mBin, mVar, mC, gL, xGt, PL.alt, iiB, hb])]
      simp [mSeq, mAsg, mBin, mVar, mC, gL, gN, gSubM, sL, mRet, dMod, dDiv, iiI, cDivB, hm, h3]
    · have := go_F (X := []) (x0 := x0) (x2 := x2) (ns := ns) (a := a) (b := b) (n := n) (a' := a) (b' := b / many) (n' := n + 1) (rest := rest) (J := [])
      rwa [List.append_nil] at this
  · have P3 : mIfS (asB (mBin xGt (mBin ixA (mVar 0) (mC (.str (Str.ofString "left")))) (mC (.int 0)))) (mSeq (mAsg (mBin dMod (mBin ixA (mVar 0) (mC (.str (Str.ofString "left")))) (mVar 1)) (gN 3))
        (mSeq (mAsg (mBin dDiv (mBin ixA (mVar 0) (mC (.str (Str.ofString "left")))) (mVar 1)) (gSubM (mVar 0) (mC (.str (Str.ofString "left"))) setSeq))
        (mRet (mVar 3)))) (mNext) [some (.ref 1), some (.int many), some (.int (n + 1)), none, none, none, none] (F x0 x2 ns a b (n + 1) rest) = some (.nx, [some (.ref 1), some (.int many), some (.int (n + 1)), none, none, none, none], F x0 x2 ns a b (n + 1) rest) := by
      rw [if_no (S' := F x0 x2 ns a b (n + 1) rest) (by simp [asB, mBin, mVar, mC, gL, xGt, PL.alt, iiB, hb])]
      rfl
    have P4 : mAsg (mBin ixA (mVar 0) (mC (.str (Str.ofString "next")))) (gN 4) [some (.ref 1), some (.int many), some (.int (n + 1)), none, none, none, none] (F x0 x2 ns a b (n + 1) rest) = some (.nx, [some (.ref 1), some (.int many), some (.int (n + 1)), none, some (.int a), none, none], F x0 x2 ns a b (n + 1) rest) := by
      simp [mAsg, mBin, mVar, mC, gNx, gN]
    have P5 : mAsg (mBin dAdd (mVar 4) (mC (.int 1))) (gSubM (mVar 0) (mC (.str (Str.ofString "next"))) setSeq) [some (.ref 1), some (.int many), some (.int (n + 1)), none, some (.int a), none, none] (F x0 x2 ns a b (n + 1) rest) = some (.nx, [some (.ref 1), some (.int many), some (.int (n + 1)), none, some (.int a), none, none], F x0 x2 ns (a + 1) b (n + 1) rest) := by
      simp [mAsg, mBin, mVar, mC, gSubM, sNx, dAdd, iiI, PL.alt]
    have P6 : mAsg (mC (.int 0)) (gN 5) [some (.ref 1), some (.int many), some (.int (n + 1)), none, some (.int a), none, none] (F x0 x2 ns (a + 1) b (n + 1) rest) = some (.nx, [some (.ref 1), some (.int many), some (.int (n + 1)), none, some (.int a), some (.int 0), none], F x0 x2 ns (a + 1) b (n + 1) rest) := rfl
    have Pc : asB (mBin dNe (mBin ixA (mVar 0) (mC (.str (Str.ofString "cells")))) (mLst mNil)) [some (.ref 1), some (.int many), some (.int (n + 1)), none, some (.int a), some (.int 0), none] (F x0 x2 ns (a + 1) b (n + 1) rest) = some (!decide (ns = []), F x0 x2 ns (a + 1) b (n + 1) (rest ++ [.lst []])) := by
      have q : mLst mNil [some (.ref 1), some (.int many), some (.int (n + 1)), none, some (.int a), some (.int 0), none] (F x0 x2 ns (a + 1) b (n + 1) rest) = some (.ref (F x0 x2 ns (a + 1) b (n + 1) rest).length, F x0 x2 ns (a + 1) b (n + 1) (rest ++ [.lst []])) := rfl
      have v : mBin ixA (mVar 0) (mC (.str (Str.ofString "cells"))) [some (.ref 1), some (.int many), some (.int (n + 1)), none, some (.int a), some (.int 0), none] (F x0 x2 ns (a + 1) b (n + 1) rest) = some (.ref 3, F x0 x2 ns (a + 1) b (n + 1) rest) := gC
      unfold asB
      show ((mBin ixA (mVar 0) (mC (.str (Str.ofString "cells"))) _ _).bind _).bind _ = _
      rw [v]
      simp only [Option.bind_some]
      rw [q]
      simp only [Option.bind_some]
      rw [nE]
      rfl
    obtain ⟨x, P7⟩ : ∃ x : Int, mIfS (asB (mBin dNe (mBin ixA (mVar 0) (mC (.str (Str.ofString "cells")))) (mLst (mNil)))) (mAsg (mBin ixA (mBin ixA (mVar 0) (mC (.str (Str.ofString "cells")))) (mBin dMod (mVar 4) (mBlt gLen (mCons (mBin ixA (mVar 0) (mC (.str (Str.ofString "cells")))) (mNil))))) (gN 5)) (mNext) [some (.ref 1), some (.int many), some (.int (n + 1)), none, some (.int a), some (.int 0), none] (F x0 x2 ns (a + 1) b (n + 1) rest) =
        some (.nx, [some (.ref 1), some (.int many), some (.int (n + 1)), none, some (.int a), some (.int x), none], F x0 x2 ns (a + 1) b (n + 1) (rest ++ [.lst []])) := by
      by_cases hns : ns = []
      · refine ⟨0, ?_⟩
        rw [if_no (S' := F x0 x2 ns (a + 1) b (n + 1) (rest ++ [.lst []])) (by rw [Pc]; simp [hns])]
        rfl
      · have hp : 0 < ns.length := List.length_pos_iff.mpr hns
        have hl : a % ns.length < ns.length := Nat.mod_lt _ hp
        have hp' : (0 : Int) < ns.length := by omega
        have q := at_mod (List.getElem?_eq_getElem hl)
        refine ⟨ns[a % ns.length], ?_⟩
        rw [if_yes (S' := F x0 x2 ns (a + 1) b (n + 1) (rest ++ [.lst []])) (by rw [Pc]; simp [hns])]
        have hp2 : ns.length ≠ 0 := by omega
        simp [mAsg, mBin, mVar, mC, gC, mBlt, mCons, mNil, gLn, dMod, iiI, hp, hp', gAt, q, gN]
    have hX : xGe (.int x) (.int 1000000000000000000) = fun S => some (.bl (decide (1000000000000000000 ≤ x)), S) := rfl
    have P8 : ∀ T : Sto, T = F x0 x2 ns (a + 1) b (n + 1) (rest ++ [.lst []]) → (mAndT (asB (mBin xGe (mVar 5) (mBin dPow (mC (.int 10)) (mC (.int 18))))) (asB (mBin xLt (mVar 4) (mBlt gLen (mCons (mBin ixA (mVar 0) (mC (.str (Str.ofString "cells")))) (mNil)))))) [some (.ref 1), some (.int many), some (.int (n + 1)), none, some (.int a), some (.int x), none] T =
        some (decide (1000000000000000000 ≤ x) && decide ((a : Int) < ns.length), T) := fun T hT => by
      subst hT
      have w : mBin dPow (mC (.int 10)) (mC (.int 18)) [some (.ref 1), some (.int many), some (.int (n + 1)), none, some (.int a), some (.int x), none] (F x0 x2 ns (a + 1) b (n + 1) (rest ++ [.lst []])) = some (.int 1000000000000000000, F x0 x2 ns (a + 1) b (n + 1) (rest ++ [.lst []])) := rfl
      have w2 : mBlt gLen (mCons (mBin ixA (mVar 0) (mC (.str (Str.ofString "cells")))) (mNil)) [some (.ref 1), some (.int many), some (.int (n + 1)), none, some (.int a), some (.int x), none] (F x0 x2 ns (a + 1) b (n + 1) (rest ++ [.lst []])) = some (.int ns.length, F x0 x2 ns (a + 1) b (n + 1) (rest ++ [.lst []])) := by
        simp [mBlt, mCons, mBin, mVar, mC, gC, mNil, gLn]
      have w3 : asB (mBin xGe (mVar 5) (mBin dPow (mC (.int 10)) (mC (.int 18)))) [some (.ref 1), some (.int many), some (.int (n + 1)), none, some (.int a), some (.int x), none] (F x0 x2 ns (a + 1) b (n + 1) (rest ++ [.lst []])) = some (decide (1000000000000000000 ≤ x), F x0 x2 ns (a + 1) b (n + 1) (rest ++ [.lst []])) := by
        have v : ∀ S', mVar 5 [some (.ref 1), some (.int many), some (.int (n + 1)), none, some (.int a), some (.int x), none] S' = some (.int x, S') := fun _ => rfl
        unfold asB
        show (((mVar 5 _ _).bind fun p => (mBin dPow (mC (.int 10)) (mC (.int 18)) _ p.2).bind fun q => xGe p.1 q.1 q.2)).bind _ = _
        rw [v]
        simp only [Option.bind_some]
        rw [w]
        simp only [Option.bind_some, hX]
      have w4 : asB (mBin xLt (mVar 4) (mBlt gLen (mCons (mBin ixA (mVar 0) (mC (.str (Str.ofString "cells")))) (mNil)))) [some (.ref 1), some (.int many), some (.int (n + 1)), none, some (.int a), some (.int x), none] (F x0 x2 ns (a + 1) b (n + 1) (rest ++ [.lst []])) = some (decide ((a : Int) < ns.length), F x0 x2 ns (a + 1) b (n + 1) (rest ++ [.lst []])) := by
        have v : ∀ S', mVar 4 [some (.ref 1), some (.int many), some (.int (n + 1)), none, some (.int a), some (.int x), none] S' = some (.int a, S') := fun _ => rfl
        have hL : ∀ S', xLt (.int a) (.int ns.length) S' = some (.bl (decide ((a : Int) < ns.length)), S') := fun _ => rfl
        unfold asB
        show (((mVar 4 _ _).bind fun p => (mBlt gLen _ _ p.2).bind fun q => xLt p.1 q.1 q.2)).bind _ = _
        rw [v]
        simp only [Option.bind_some]
        rw [w2]
        simp only [Option.bind_some, hL]
      unfold mAndT
      rw [w3]
      simp only [Option.bind_some]
      by_cases g : 1000000000000000000 ≤ x
      · rw [decide_eq_true g, if_pos rfl, w4, Bool.true_and]
      · rw [decide_eq_false g, if_neg (by simp), Bool.false_and]
    have nn : ((n : Int) + 1) < 1000000000001 := by omega
    have M := mix_ev (x := x) (n := n + 1) hm hm2 (by omega) nn [some (.ref 1), some (.int many), some (.int (n + 1)), none, some (.int a), some (.int x), none] rfl rfl rfl (by simp) (F x0 x2 ns (a + 1) b (n + 1) (rest ++ [.lst []]))
    by_cases hc : (decide (1000000000000000000 ≤ x) && decide ((a : Int) < ns.length)) = true
    · refine ⟨x % many, F x0 x2 ns (a + 1) (x / many) (n + 1) (rest ++ [.lst []]), ?_, Int.emod_nonneg _ (by omega), Int.emod_lt_of_pos _ hm, ⟨x0, x2, a + 1, x / many, n + 1, rest ++ [.lst []], by rw [c1, c2], by omega⟩, go_F⟩
      refine body_rt (e' := [some (.ref 1), some (.int many), some (.int (n + 1)), none, some (.int a), some (.int x), none]) ?_
      rw [seq_nx (P1 _ rfl), seq_nx P2, seq_nx P3, seq_nx P4, seq_nx P5, seq_nx P6, seq_nx P7]
      refine seq_rt ?_
      rw [if_yes (S' := F x0 x2 ns (a + 1) b (n + 1) (rest ++ [.lst []])) (by rw [P8 _ rfl, hc])]
      simp [mSeq, mAsg, mBin, mVar, mC, gSubM, sL, mRet, dMod, dDiv, iiI, cDivB, hm, h3]
    · have hc' : (decide (1000000000000000000 ≤ x) && decide ((a : Int) < ns.length)) = false := by
        cases g : (decide (1000000000000000000 ≤ x) && decide ((a : Int) < ns.length)) with
        | true => exact absurd g hc
        | false => rfl
      refine ⟨mixR x (n + 1) many, F x0 x2 ns (a + 1) b (n + 1) (rest ++ [.lst []]), ?_, (mix_bd _ _ _ hm).1, (mix_bd _ _ _ hm).2, ⟨x0, x2, a + 1, b, n + 1, rest ++ [.lst []], by rw [c1, c2], by omega⟩, go_F⟩
      refine body_rt (Eq.trans ?_ M)
      rw [seq_nx (P1 _ rfl), seq_nx P2, seq_nx P3, seq_nx P4, seq_nx P5, seq_nx P6, seq_nx P7]
      rw [seq_nx (e' := [some (.ref 1), some (.int many), some (.int (n + 1)), none, some (.int a), some (.int x), none]) (S' := F x0 x2 ns (a + 1) b (n + 1) (rest ++ [.lst []])) (by
        rw [if_no (S' := F x0 x2 ns (a + 1) b (n + 1) (rest ++ [.lst []])) (by rw [P8 _ rfl, hc'])]
        rfl)]
theorem seqD_go {X : List Nat} {S S' : Sto} {d : D} {xs : List D} (G : Go X S S') (h : seqD S d = some xs) (h2 : d ≠ .ref 1) (hX : ∀ n ∈ X, d ≠ .ref n) : seqD S' d = some xs := by
  cases d with
  | ref n =>
    have hn : n ≠ 1 := fun e => h2 (by rw [e])
    have hx : n ∉ X := fun e => hX n e rfl
    have h' : seqAt n S = some xs := h
    show seqAt n S' = some xs
    unfold seqAt at h' ⊢
    cases e : S[n]? with
    | none => rw [e] at h'; cases h'
    | some o => rw [e] at h'; rw [G.keep n o hn hx e]; exact h'
  | _ => exact h
theorem ix_at {S : Sto} {d : D} {xs : List D} {r : Int} (h : seqD S d = some xs) (h0 : 0 ≤ r) (hr : r < xs.length) : ∃ x ∈ xs, ixA d (.int r) S = some (x, S) := by
  have hl : r.toNat < xs.length := by omega
  have hat : L2.atI xs r = some xs[r.toNat] := by
    obtain ⟨i, rfl⟩ : ∃ i : Nat, r = (i : Int) := ⟨r.toNat, by omega⟩
    exact L2.atI_nat (List.getElem?_eq_getElem hl)
  refine ⟨xs[r.toNat], List.getElem_mem hl, ?_⟩
  unfold ixA
  have : ixSeq d (.int r) S = some (xs[r.toNat], S) := by
    cases d <;> simp only [ixSeq, h, hat, Option.bind_some, Option.map_some] <;> simp [seqD] at h
  rw [this]
  rfl
theorem pick_ok {ns : List Int} {k : Nat} {S : Sto} {d : D} {xs : List D} (Fd : FeedAt ns k S) (hk : k < 1000000000) (j : Nat) (h : seqD S d = some xs) (h2 : d ≠ .ref 1) (hp : 0 < xs.length) (hl : xs.length < 1000) :
    ∃ x ∈ xs, ∃ S', lv (j + 2) 13 [.ref 1, d] S = some (x, S') ∧ FeedAt ns (k + 1) S' ∧ Go [] S S' := by
  obtain ⟨r, S', e, r0, r1, F', G⟩ := draw_ok Fd hk (lv j) (xs.length : Int) (by omega) (by omega)
  have e' : lv (j + 1) 12 [.ref 1, .int xs.length] S = some (.int r, S') := e
  have hlen : gLen [d] S = some (.int xs.length, S) := by
    cases d <;> simp [gLen, h] <;> simp [seqD] at h
  obtain ⟨x, hx, e2⟩ := ix_at (seqD_go G h h2 (by simp)) r0 r1
  refine ⟨x, hx, S', ?_, F', G⟩
  show m13 (lv (j + 1)) [.ref 1, d] S = _
  simp [m13, mBody, startE, mRet, mBin, mVar, mCall, mCons, mNil, mBlt, hlen, e', e2]
end K53
end

section
set_option Elab.async false
set_option linter.all false
set_option maxRecDepth 100000
set_option maxHeartbeats 4000000
namespace K53
open PySem PySem.Spec PyProof.Rows L2 PL PySem.W TB
/-- the dict of a half being made: names -/
def kvK (es : Rows Str) : List (Key × D) := es.map fun e => (.inr e.1, .str e.2)
/-- .. choices -/
def kvT (us : Rows (Str × Str)) : List (List Key × D) := us.map fun e => (pk e.1, Em.d e.2)
theorem val_some {κ α : Type} [DecidableEq κ] [DecidableEq α] (f : α → κ) (hf : ∀ a b, f a = f b → a = b) (g : α → D) (es : Rows α) (x : α) : (valD (es.map fun e => (f e.1, g e.2)) (f x)).isSome = decide (x ∈ firsts es) := by
  induction es with
  | nil => simp [valD, firsts]
  | cons e es ih =>
    by_cases h : e.1 = x
    · simp [valD, firsts, h]
    · have h' : f e.1 ≠ f x := fun q => h (hf _ _ q)
      have q : valD ((e :: es).map fun e => (f e.1, g e.2)) (f x) = valD (es.map fun e => (f e.1, g e.2)) (f x) := by simp [valD, h']
      have h2 : ¬ x = e.1 := fun q => h q.symm
      rw [q, ih]
      exact decide_eq_decide.mpr ⟨fun m => List.mem_cons_of_mem _ m, fun m => (List.mem_cons.mp m).elim (fun q => absurd q h2) id⟩
theorem put_new {κ α : Type} [DecidableEq κ] [DecidableEq α] (f : α → κ) (hf : ∀ a b, f a = f b → a = b) (g : α → D) (es : Rows α) (x y : α) (h : x ∉ firsts es) : putD (es.map fun e => (f e.1, g e.2)) (f x) (g y) = (es ++ [(x, y)]).map fun e => (f e.1, g e.2) := by
  have q : ((es.map fun e => (f e.1, g e.2)).any fun kv => decide (kv.1 = f x)) = false := by
    rw [List.any_eq_false]
    intro kv hk
    obtain ⟨e, he, rfl⟩ := List.mem_map.mp hk
    simp only [decide_eq_true_eq]
    exact fun q => h (List.mem_map.mpr ⟨e, he, hf _ _ q⟩)
  unfold putD
  rw [q]
  simp
theorem inr_inj (a b : Str) (h : (Sum.inr a : Key) = Sum.inr b) : a = b := by cases h; rfl
/-- not in the dict, then: in its list of values -/
theorem notK {S : Sto} {p : Nat} {es : Rows Str} (h : S[p]? = some (.dK (kvK es))) (x : Str) : inA not (.str x) (.ref p) S = some (.bl (!decide (x ∈ firsts es)), S) := by
  have e : seqD S (.ref p) = none := by
    show seqAt p S = none
    unfold seqAt
    rw [h]
  have q : inSeq not (.str x) (.ref p) S = none := by
    unfold inSeq
    rw [e]
    rfl
  show ((inSeq not (.str x) (.ref p) S).orElse fun _ => (ssB _ (.str x) (.ref p) S).orElse fun _ => inD not (.str x) (.ref p) S) = _
  rw [q]
  show (dictAt p (.str x) S).map (fun o => (D.bl (not o.isSome), S)) = _
  have d : dictAt p (.str x) S = some (valD (kvK es) (.inr x)) := by
    unfold dictAt
    rw [h]
    rfl
  rw [d]
  have v := val_some (κ := Key) (Sum.inr : Str → Key) inr_inj D.str es x
  simp only [Option.map_some]
  rw [show (valD (kvK es) (Sum.inr x)).isSome = _ from v]
theorem notT {S : Sto} {p : Nat} {es : Rows (Str × Str)} (h : S[p]? = some (.dT (kvT es))) (x : Str × Str) : inA not (Em.d x) (.ref p) S = some (.bl (!decide (x ∈ firsts es)), S) := by
  have q : inSeq not (Em.d x) (.ref p) S = none := rfl
  show ((inSeq not (Em.d x) (.ref p) S).orElse fun _ => (ssB _ (Em.d x) (.ref p) S).orElse fun _ => inD not (Em.d x) (.ref p) S) = _
  rw [q]
  show (dictAt p (Em.d x) S).map (fun o => (D.bl (not o.isSome), S)) = _
  have d : dictAt p (Em.d x) S = some (valD (kvT es) (pk x)) := by
    show dictAt p (.tup [.str x.1, .str x.2]) S = _
    unfold dictAt
    rw [h]
    rfl
  rw [d]
  have v := val_some (κ := List Key) pk (fun a b => pk_inj) (Em.d (α := Str × Str)) es x
  simp only [Option.map_some]
  rw [show (valD (kvT es) (pk x)).isSome = _ from v]
  by_cases m : x ∈ firsts es <;> simp [m]
theorem valsK {S : Sto} {p : Nat} {es : Rows Str} (h : S[p]? = some (.dK (kvK es))) {env : PL.Env} {i : Nat} (hi : env[i]? = some (some (.ref p))) : mListVals (mVar i) env S = some (.ref S.length, S ++ [.lst ((seconds es).map Em.d)]) := by
  have e : dictVals (.dK (kvK es)) = some ((seconds es).map Em.d) := by
    show some ((kvK es).map Prod.snd) = _
    simp [kvK, seconds]
    exact fun _ _ _ => rfl
  unfold mListVals
  rw [mv hi]
  simp only [Option.bind_some, h, e]
  rfl
theorem valsT {S : Sto} {p : Nat} {es : Rows (Str × Str)} (h : S[p]? = some (.dT (kvT es))) {env : PL.Env} {i : Nat} (hi : env[i]? = some (some (.ref p))) : mListVals (mVar i) env S = some (.ref S.length, S ++ [.lst ((seconds es).map Em.d)]) := by
  have e : dictVals (.dT (kvT es)) = some ((seconds es).map Em.d) := by
    show some ((kvT es).map Prod.snd) = _
    simp [kvT, seconds]
  unfold mListVals
  rw [mv hi]
  simp only [Option.bind_some, h, e]
  rfl
/-- not in a list of things -/
theorem nin_seq {α : Type} [DecidableEq α] [DatumOrd α] [Em α] [Fit α] (x : α) (xs : List α) (n : Nat) (S : Sto) (hx : Fit.ok x) (hxs : ∀ b ∈ xs, Fit.ok b) (e : seqAt n S = some (xs.map Em.d)) (hk : (∃ y, Em.d x = .str y ∧ ∀ b : α, ∃ z, Em.d b = .str z) ∨ ∃ ys, Em.d x = .tup ys) :
    inA not (Em.d x) (.ref n) S = some (.bl (!decide (x ∈ xs)), S) ∨ (inA not (Em.d x) (.ref n) S = none ∧ inP true (Em.d x) (.ref n) S = some (.bl (!decide (x ∈ xs)), S)) := by
  rcases hk with ⟨y, hy, hb⟩ | ⟨ys, hy⟩
  · left
    have e' : seqD S (.ref n) = some (xs.map Em.d) := e
    have fl : ∃ ws : List V, flatDs (xs.map (Em.d (α := α))) = some ws ∧ ws = xs.map fun b => V.str (match Em.d b with | .str z => z | _ => y) := by
      refine ⟨_, ?_, rfl⟩
      clear e e' hxs
      induction xs with
      | nil => rfl
      | cons b xs ih =>
        obtain ⟨z, hz⟩ := hb b
        simp only [List.map_cons, flatDs, hz, flatD, ih, Option.bind_some, Option.map_some]
    obtain ⟨ws, f1, f2⟩ := fl
    have inj : ∀ b : α, (match Em.d b with | .str z => z | _ => y) = y → b = x := fun b q => by
      obtain ⟨z, hz⟩ := hb b
      rw [hz] at q
      have q' : z = y := q
      have p1 := Em.py b
      have p2 := Em.py x
      rw [hz, q'] at p1
      rw [hy] at p2
      have p3 : Datum.toD b = Datum.toD x := Option.some.inj (p1.symm.trans p2)
      have p4 := Datum.eqv b x
      rw [p3, Datum.eqv] at p4
      simpa using p4.symm
    have q : inSeq not (Em.d x) (.ref n) S = some (.bl (!decide (x ∈ xs)), S) := by
      unfold inSeq
      rw [e', hy]
      simp only [flatD, Option.bind_some, f1, inV, f2]
      refine congrArg (fun b => some (D.bl (!b), S)) ?_
      rw [Bool.eq_iff_iff, List.any_eq_true, decide_eq_true_eq]
      constructor
      · rintro ⟨w, hw, g⟩
        obtain ⟨b, hb', rfl⟩ := List.mem_map.mp hw
        have : (match Em.d b with | .str z => z | _ => y) = y := by simpa [eqV] using g
        rw [← inj b this]
        exact hb'
      · intro g
        refine ⟨_, List.mem_map.mpr ⟨x, g, rfl⟩, ?_⟩
        rw [hy]
        simp [eqV]
    show ((inSeq not (Em.d x) (.ref n) S).orElse _) = _ 
    rw [q]
    rfl
  · right
    have d0 : inD not (Em.d x) (.ref n) S = none := by
      show (dictAt n (Em.d x) S).map _ = none
      rw [dictAt_seq e]
      rfl
    refine ⟨?_, ?_⟩
    · have q : inSeq not (Em.d x) (.ref n) S = none := by
        unfold inSeq
        rw [hy]
        rfl
      have q2 : ssB (fun i j => not (!(Builtin.Str.occurrences j i 0 j.length 1).isEmpty)) (Em.d x) (.ref n) S = none := by
        rw [hy]
        rfl
      show ((inSeq not (Em.d x) (.ref n) S).orElse fun _ => (ssB (fun i j => not (!(Builtin.Str.occurrences j i 0 j.length 1).isEmpty)) (Em.d x) (.ref n) S).orElse fun _ => inD not (Em.d x) (.ref n) S) = none
      rw [q, q2]
      exact d0
    · have e1 : pyT S (.ref n) = some (.list (xs.map Datum.toD)) := by
        rw [pyTr, e, Option.bind_some, pys]
        rfl
      have e2 : PyData.canLayAll0 (xs.map Datum.toD) = true := layAll fun z hz => by
        obtain ⟨b, hb, rfl⟩ := List.mem_map.mp hz
        exact Fit.lay b (hxs b hb)
      have e3 : ((xs.map (Datum.toD (α := α))).any fun y => PyData.eqv y (Datum.toD x)) = decide (x ∈ xs) := by
        rw [Bool.eq_iff_iff, List.any_eq_true, decide_eq_true_eq]
        constructor
        · rintro ⟨y, hy, h⟩
          obtain ⟨z, hz, rfl⟩ := List.mem_map.mp hy
          rw [Datum.eqv, decide_eq_true_eq] at h
          rw [← h]; exact hz
        · intro h
          exact ⟨_, List.mem_map.mpr ⟨x, h, rfl⟩, by rw [Datum.eqv]; simp⟩
      have e5 : (Datum.toD x).depth ≤ 40 := by
        have := Datum.depth_le x
        have := Fit.dp (α := α)
        omega
      unfold inP
      rw [e1]
      simp only [Em.py, Option.bind_some, e2, Fit.lay x hx, e3, e5, decide_true, Bool.and_self, if_true]
end K53
end

section
set_option Elab.async false
set_option linter.all false
set_option maxRecDepth 100000
set_option maxHeartbeats 4000000
namespace K53
open PySem PySem.Spec PyProof.Rows L2 PL PySem.W TB
theorem FeedAt.put {ns : List Int} {k p : Nat} {S : Sto} {o : Ob} (Fd : FeedAt ns k S) (h : 4 ≤ p) : FeedAt ns k (S.set p o) := by
  obtain ⟨x0, x2, a, b, n, rest, rfl, hn⟩ := Fd
  obtain ⟨i, rfl⟩ : ∃ i, p = i + 4 := ⟨p - 4, by omega⟩
  exact ⟨x0, x2, a, b, n, rest.set i o, rfl, hn⟩
/-- the dict that a half is made in -/
class Hd (α : Type) [DecidableEq α] [DatumOrd α] [Em α] [Fit α] where
  ob : Rows α → Ob
  notin : ∀ {S : Sto} {p : Nat} {es : Rows α}, S[p]? = some (ob es) → ∀ x, inA not (Em.d x) (.ref p) S = some (.bl (!decide (x ∈ firsts es)), S)
  vals : ∀ {S : Sto} {p : Nat} {es : Rows α}, S[p]? = some (ob es) → ∀ {env : PL.Env} {i : Nat}, env[i]? = some (some (.ref p)) → mListVals (mVar i) env S = some (.ref S.length, S ++ [.lst ((seconds es).map Em.d)])
  set : ∀ {S : Sto} {p : Nat} {es : Rows α}, S[p]? = some (ob es) → es.length < 1000 → ∀ x y, x ∉ firsts es → setSeq (.ref p) (Em.d x) (Em.d y) S = some (S.set p (ob (es ++ [(x, y)])))
  kind : ∀ x : α, (∃ y, Em.d x = .str y ∧ ∀ b : α, ∃ z, Em.d b = .str z) ∨ ∃ ys, Em.d x = .tup ys
instance : Hd Str where
  ob es := .dK (kvK es)
  notin h x := notK h x
  vals h _ _ hi := valsK h hi
  set {S p es} h hl x y hx := by
    show setSeq (.ref p) (.str x) (.str y) S = _
    have hz : (kvK es).length < sizeLine := by
      have := s1000
      simp only [kvK, List.length_map]
      omega
    have q := put_new (κ := Key) (Sum.inr : Str → Key) inr_inj D.str es x y hx
    simp only [setSeq, h, hz, if_true]
    rw [show putD (kvK es) (Sum.inr x) (D.str y) = _ from q]
    rfl
  kind x := .inl ⟨x, rfl, fun b => ⟨b, rfl⟩⟩
instance : Hd (Str × Str) where
  ob es := .dT (kvT es)
  notin {S p es} h x := by
    rw [notT h x]
    by_cases m : x ∈ firsts es <;> simp [m]
  vals h _ _ hi := valsT h hi
  set {S p es} h hl x y hx := by
    show setSeq (.ref p) (.tup [.str x.1, .str x.2]) (Em.d y) S = _
    have hz : (kvT es).length < sizeLine := by
      have := s1000
      simp only [kvT, List.length_map]
      omega
    have q := put_new (κ := List Key) pk (fun a b => pk_inj) (Em.d (α := Str × Str)) es x y hx
    have hk : keysD [.str x.1, .str x.2] = some (pk x) := rfl
    simp only [setSeq, h, hk, Option.bind_some, hz, if_true]
    rw [show putD (kvT es) (pk x) (Em.d y) = _ from q]
    rfl
  kind x := .inr ⟨_, rfl⟩
/-- rows as a half being made has them -/
structure Gr {α : Type} [DecidableEq α] [DatumOrd α] [Em α] [Fit α] (es : Rows α) : Prop where
  a : (firsts es).Nodup
  b : (seconds es).Nodup
  ok : OkR es
theorem Gr.add {α : Type} [DecidableEq α] [DatumOrd α] [Em α] [Fit α] {es : Rows α} (g : Gr es) {x y : α} (hx : x ∉ firsts es) (hy : y ∉ seconds es) (ox : Fit.ok x) (oy : Fit.ok y) : Gr (es ++ [(x, y)]) := by
  refine ⟨?_, ?_, ?_⟩
  · have : firsts (es ++ [(x, y)]) = firsts es ++ [x] := by simp [firsts]
    rw [this]
    refine List.nodup_append.mpr ⟨g.a, by simp, fun a ha b hb e => ?_⟩
    rw [List.mem_singleton] at hb
    subst hb
    subst e
    exact hx ha
  · have : seconds (es ++ [(x, y)]) = seconds es ++ [y] := by simp [seconds]
    rw [this]
    refine List.nodup_append.mpr ⟨g.b, by simp, fun a ha b hb e => ?_⟩
    rw [List.mem_singleton] at hb
    subst hb
    subst e
    exact hy ha
  · intro p hp
    rcases List.mem_append.mp hp with h | h
    · exact g.ok p h
    · rw [List.mem_singleton] at h
      subst h
      exact ⟨ox, oy⟩
theorem mOrTT_l {a b : MT} {env : PL.Env} {S : Sto} {z : Bool × Sto} (h : a env S = some z) : mOrTT a b env S = some z := by
  unfold mOrTT; rw [h]; rfl
theorem mOrTT_r {a b : MT} {env : PL.Env} {S : Sto} {z : Bool × Sto} (h : a env S = none) (g : b env S = some z) : mOrTT a b env S = some z := by
  unfold mOrTT; rw [h]; exact g
theorem add_step {α : Type} [DecidableEq α] [DatumOrd α] [Em α] [Fit α] [Hd α] {S : Sto} {p : Nat} {es : Rows α} (h : S[p]? = some (Hd.ob es)) (g : Gr es) (hl : es.length < 1000) {x y : α} (ox : Fit.ok x) (oy : Fit.ok y) {env : PL.Env} {i m l : Nat}
    (hi : env[i]? = some (some (.ref p))) (hm : env[m]? = some (some (Em.d x))) (hv : env[l]? = some (some (Em.d y))) :
    ∃ (es' : Rows α) (S' : Sto), mIfS (mAndT (mOrTT (asB (mBin (inA not) (mVar m) (mVar i))) (asB (mBin (inP true) (mVar m) (mVar i)))) (mOrTT (asB (mBin (inA not) (mVar l) (mListVals (mVar i)))) (asB (mBin (inP true) (mVar l) (mListVals (mVar i)))))) (mAsg (mVar l) (gSubM (mVar i) (mVar m) setSeq)) (mNext) env S = some (.nx, env, S') ∧
      S'[p]? = some (Hd.ob es') ∧ Gr es' ∧ es'.length ≤ es.length + 1 ∧ (∃ J, S' = S ++ J ∨ S' = (S ++ J).set p (Hd.ob es')) := by
  have c1 : mOrTT (asB (mBin (inA not) (mVar m) (mVar i))) (asB (mBin (inP true) (mVar m) (mVar i))) env S = some (!decide (x ∈ firsts es), S) := by
    refine mOrTT_l ?_
    unfold asB mBin
    rw [mv hm]
    simp only [Option.bind_some]
    rw [mv hi]
    simp only [Option.bind_some, Hd.notin (α := α) h]
  by_cases hx : x ∈ firsts es
  · refine ⟨es, S, ?_, h, g, by omega, [], .inl (by simp)⟩
    rw [if_no (S' := S) (by
      unfold mAndT
      rw [c1]
      simp [hx])]
    rfl
  · have ok2 : ∀ b ∈ seconds es, Fit.ok b := fun b hb => by
      obtain ⟨q, hq, rfl⟩ := List.mem_map.mp hb
      exact (g.ok q hq).2
    have vl := Hd.vals (α := α) h hi
    have c2 : mOrTT (asB (mBin (inA not) (mVar l) (mListVals (mVar i)))) (asB (mBin (inP true) (mVar l) (mListVals (mVar i)))) env S = some (!decide (y ∈ seconds es), S ++ [.lst ((seconds es).map Em.d)]) := by
      rcases nin_seq y (seconds es) S.length (S ++ [.lst ((seconds es).map Em.d)]) oy ok2 (seq_new (J := [])) (Hd.kind y) with q | ⟨q1, q2⟩
      · refine mOrTT_l ?_
        unfold asB mBin
        rw [mv hv]
        simp only [Option.bind_some]
        rw [vl]
        simp only [Option.bind_some, q]
      · refine mOrTT_r ?_ ?_
        · unfold asB mBin
          rw [mv hv]
          simp only [Option.bind_some]
          rw [vl]
          simp only [Option.bind_some, q1, Option.bind_none]
        · unfold asB mBin
          rw [mv hv]
          simp only [Option.bind_some]
          rw [vl]
          simp only [Option.bind_some, q2]
    have h' : (S ++ [Ob.lst ((seconds es).map Em.d)])[p]? = some (Hd.ob es) := pre_get pre_app h
    by_cases hy : y ∈ seconds es
    · refine ⟨es, S ++ [.lst ((seconds es).map Em.d)], ?_, h', g, by omega, _, .inl rfl⟩
      rw [if_no (S' := S ++ [.lst ((seconds es).map Em.d)]) (by
        unfold mAndT
        rw [c1]
        simp [hx, c2, hy])]
      rfl
    · refine ⟨es ++ [(x, y)], (S ++ [Ob.lst ((seconds es).map Em.d)]).set p (Hd.ob (es ++ [(x, y)])), ?_, ?_, g.add hx hy ox oy, by simp, _, .inr rfl⟩
      · rw [if_yes (S' := S ++ [.lst ((seconds es).map Em.d)]) (by
          unfold mAndT
          rw [c1]
          simp [hx, c2, hy])]
        unfold mAsg gSubM
        rw [mv hv]
        simp only [Option.bind_some]
        rw [mv hi]
        simp only [Option.bind_some]
        rw [mv hm]
        simp only [Option.bind_some, Hd.set (α := α) h' hl x y hx]
      · rw [List.getElem?_set_self (List.getElem?_eq_some_iff.mp h').1]
end K53
end

section
set_option Elab.async false
set_option linter.all false
set_option maxRecDepth 100000
set_option maxHeartbeats 4000000
namespace K53
open PySem PySem.Spec PyProof.Rows L2 PL PySem.W TB
structure Wi (ns : List Int) (k p q w : Nat) (wl : List Str) (es : Rows Str) (us : Rows (Str × Str)) (S : Sto) : Prop where
  fd : FeedAt ns k S
  hp : S[p]? = some (Hd.ob es)
  hq : S[q]? = some (Hd.ob us)
  hw : S[w]? = some (.lst (wl.map D.str))
  p4 : 4 ≤ p
  q4 : 4 ≤ q
  w4 : 4 ≤ w
  pq : p ≠ q
  wp : w ≠ p
  wq : w ≠ q
  ge : Gr es
  gu : Gr us
  wl0 : 0 < wl.length
  wl1 : wl.length < 1000
  wd : ∀ x ∈ wl, Wd x
section
variable {ns : List Int} {k p q w : Nat} {wl : List Str} {es : Rows Str} {us : Rows (Str × Str)} {S : Sto}
theorem Wi.go {k' : Nat} {S' : Sto} (h : Wi ns k p q w wl es us S) (G : Go [] S S') (f : FeedAt ns k' S') : Wi ns k' p q w wl es us S' :=
  { h with fd := f, hp := G.keep _ _ (by have := h.p4; omega) (by simp) h.hp, hq := G.keep _ _ (by have := h.q4; omega) (by simp) h.hq, hw := G.keep _ _ (by have := h.w4; omega) (by simp) h.hw }
theorem Wi.more {T : Sto} (h : Wi ns k p q w wl es us S) : Wi ns k p q w wl es us (S ++ T) := h.go Go.new h.fd.new
theorem seq_at {n : Nat} {xs : List D} {S : Sto} (h : S[n]? = some (.lst xs)) : seqAt n S = some xs := by unfold seqAt; rw [h]
theorem Wi.pick (h : Wi ns k p q w wl es us S) (hk : k < 1000000000) (j : Nat) : ∃ x ∈ wl, ∃ S', lv (j + 2) 13 [.ref 1, .ref w] S = some (.str x, S') ∧ Wi ns (k + 1) p q w wl es us S' ∧ Go [] S S' := by
  have h0 := h.wl0
  have h1 := h.wl1
  obtain ⟨d, hd, S', e, f, G⟩ := pick_ok h.fd hk j (d := .ref w) (xs := wl.map D.str) (seq_at h.hw) (by have := h.w4; simp; omega) (by simpa using h0) (by simpa using h1)
  obtain ⟨x, hx, rfl⟩ := List.mem_map.mp hd
  exact ⟨x, hx, S', e, h.go G f, G⟩
theorem Wi.len (h : Wi ns k p q w wl es us S) : 4 < S.length := by
  have h1 := (List.getElem?_eq_some_iff.mp h.hp).1
  have h2 := h.p4
  omega
abbrev xy : ME := mLst (mCons (mC (.str (Str.ofString "x"))) (mCons (mC (.str (Str.ofString "y"))) (mNil)))
theorem wd_x : Wd (Str.ofString "x") := ⟨by decide +kernel, by decide +kernel, by decide +kernel, by decide +kernel, by decide +kernel⟩
theorem wd_y : Wd (Str.ofString "y") := ⟨by decide +kernel, by decide +kernel, by decide +kernel, by decide +kernel, by decide +kernel⟩
/-- a choice: a word, x or y -/
theorem Wi.duo (h : Wi ns k p q w wl es us S) (hk : k + 2 < 1000000000) (j : Nat) {env : PL.Env} (h0 : env[0]? = some (some (.ref 1))) (h1 : env[1]? = some (some (.ref w))) :
    ∃ d : Str × Str, (Wd d.1 ∧ Wd d.2) ∧ ∃ S', mTup (mCons (mCall 2 (lv (j + 2) 13) (mCons (mVar 0) (mCons (mVar 1) (mNil)))) (mCons (mCall 2 (lv (j + 2) 13) (mCons (mVar 0) (mCons xy (mNil)))) (mNil))) env S = some (Em.d d, S') ∧ Wi ns (k + 2) p q w wl es us S' ∧ Go [] S S' := by
  obtain ⟨x, hx, S1, e1, I1, G1⟩ := h.pick (by omega) j
  have L := I1.len
  have e2 : xy env S1 = some (.ref S1.length, S1 ++ [.lst [.str (Str.ofString "x"), .str (Str.ofString "y")]]) := rfl
  have I2 := I1.more (T := [.lst [.str (Str.ofString "x"), .str (Str.ofString "y")]])
  obtain ⟨d, hd, S3, e3, f3, G3⟩ := pick_ok I2.fd (by omega) j (d := .ref S1.length) (xs := [.str (Str.ofString "x"), .str (Str.ofString "y")]) (seq_new (J := [])) (by simp; omega) (by simp) (by simp)
  have hy : ∃ y, Wd y ∧ d = .str y := by
    rcases List.mem_cons.mp hd with e | hd
    · exact ⟨_, wd_x, e⟩
    · rcases List.mem_cons.mp hd with e | hd
      · exact ⟨_, wd_y, e⟩
      · cases hd
  obtain ⟨y, wy, rfl⟩ := hy
  refine ⟨(x, y), ⟨h.wd x hx, wy⟩, S3, ?_, I2.go G3 f3, (G1.trans Go.new).trans G3⟩
  have c1 : mCall 2 (lv (j + 2) 13) (mCons (mVar 0) (mCons (mVar 1) (mNil))) env S = some (.str x, S1) := by
    unfold mCall mCons
    rw [mv h0]
    simp only [Option.bind_some]
    rw [mv h1]
    simp only [Option.bind_some, mNil, List.length_cons, List.length_nil, if_true, e1]
  have c2 : mCall 2 (lv (j + 2) 13) (mCons (mVar 0) (mCons xy (mNil))) env S1 = some (.str y, S3) := by
    unfold mCall mCons
    rw [mv h0]
    simp only [Option.bind_some]
    rw [e2]
    simp only [Option.bind_some, mNil, List.length_cons, List.length_nil, if_true, e3]
  have c3 : mCons (mCall 2 (lv (j + 2) 13) (mCons (mVar 0) (mCons (mVar 1) (mNil)))) (mCons (mCall 2 (lv (j + 2) 13) (mCons (mVar 0) (mCons xy (mNil)))) (mNil)) env S = some ([.str x, .str y], S3) := by
    rw [mCons, c1, Option.bind_some, mCons, c2]
    rfl
  rw [mTup, c3]
  rfl
theorem Wi.addP {es' : Rows Str} {S' : Sto} (h : Wi ns k p q w wl es us S) (h1 : S'[p]? = some (Hd.ob es')) (g : Gr es') (hS : ∃ J, S' = S ++ J ∨ S' = (S ++ J).set p (Hd.ob es')) : Wi ns k p q w wl es' us S' ∧ Go [p, q] S S' := by
  obtain ⟨J, rfl | rfl⟩ := hS
  · have I := h.more (T := J)
    exact ⟨{ I with hp := h1, ge := g }, Go.new⟩
  · have I := h.more (T := J)
    have ks : ∀ i o, i ≠ p → (S ++ J)[i]? = some o → ((S ++ J).set p (Hd.ob es'))[i]? = some o := fun i o hi e => by
      rw [List.getElem?_set_ne (fun z => hi z.symm)]
      exact e
    refine ⟨{ I with fd := I.fd.put h.p4, hp := h1, hq := ks _ _ (fun e => h.pq e.symm) I.hq, hw := ks _ _ h.wp I.hw, ge := g }, ⟨by simp, fun i o h1 h2 e => ?_⟩⟩
    simp at h2
    exact ks _ _ h2.1 (by rw [List.getElem?_append_left (List.getElem?_eq_some_iff.mp e).1]; exact e)
theorem Wi.addQ {us' : Rows (Str × Str)} {S' : Sto} (h : Wi ns k p q w wl es us S) (h1 : S'[q]? = some (Hd.ob us')) (g : Gr us') (hS : ∃ J, S' = S ++ J ∨ S' = (S ++ J).set q (Hd.ob us')) : Wi ns k p q w wl es us' S' ∧ Go [p, q] S S' := by
  obtain ⟨J, rfl | rfl⟩ := hS
  · have I := h.more (T := J)
    exact ⟨{ I with hq := h1, gu := g }, Go.new⟩
  · have I := h.more (T := J)
    have ks : ∀ i o, i ≠ q → (S ++ J)[i]? = some o → ((S ++ J).set q (Hd.ob us'))[i]? = some o := fun i o hi e => by
      rw [List.getElem?_set_ne (fun z => hi z.symm)]
      exact e
    refine ⟨{ I with fd := I.fd.put h.q4, hq := h1, hp := ks _ _ h.pq I.hp, hw := ks _ _ h.wq I.hw, gu := g }, ⟨by simp, fun i o h1 h2 e => ?_⟩⟩
    simp at h2
    exact ks _ _ h2.2 (by rw [List.getElem?_append_left (List.getElem?_eq_some_iff.mp e).1]; exact e)
end
end K53
end

section
set_option Elab.async false
set_option linter.all false
set_option maxRecDepth 100000
set_option maxHeartbeats 4000000
namespace K53
open PySem PySem.Spec PyProof.Rows L2 PL PySem.W TB
abbrev pickW (C : Nat → MF) : ME := mCall 2 (C 13) (mCons (mVar 0) (mCons (mVar 1) (mNil)))
abbrev duoE (C : Nat → MF) : ME := mTup (mCons (pickW C) (mCons (mCall 2 (C 13) (mCons (mVar 0) (mCons xy (mNil)))) (mNil)))
abbrev addE (i m l : Nat) : MS := mIfS (mAndT (mOrTT (asB (mBin (inA not) (mVar m) (mVar i))) (asB (mBin (inP true) (mVar m) (mVar i)))) (mOrTT (asB (mBin (inA not) (mVar l) (mListVals (mVar i)))) (asB (mBin (inP true) (mVar l) (mListVals (mVar i)))))) (mAsg (mVar l) (gSubM (mVar i) (mVar m) setSeq)) (mNext)
abbrev lapE (C : Nat → MF) : MS := mSeq (mPar [6, 7] (mCons (pickW C) (mCons (pickW C) (mNil)))) (mSeq (addE 3 6 7) (mSeq (mAsg (duoE C) (gN 8)) (mSeq (mAsg (duoE C) (gN 9)) (addE 4 8 9))))
section
variable {ns : List Int} {k p q w : Nat} {wl : List Str} {es : Rows Str} {us : Rows (Str × Str)} {S : Sto}
theorem lap_ok (h : Wi ns k p q w wl es us S) (hk : k + 6 < 1000000000) (hes : es.length < 900) (hus : us.length < 900) (j : Nat) (z i : Option D) (a b c d : Option D) :
    ∃ (es' : Rows Str) (us' : Rows (Str × Str)) (S' : Sto) (a' b' c' d' : Option D), lapE (lv (j + 2)) [some (.ref 1), some (.ref w), z, some (.ref p), some (.ref q), i, a, b, c, d] S = some (.nx, [some (.ref 1), some (.ref w), z, some (.ref p), some (.ref q), i, a', b', c', d'], S') ∧
      Wi ns (k + 6) p q w wl es' us' S' ∧ Go [p, q] S S' ∧ es'.length ≤ es.length + 1 ∧ us'.length ≤ us.length + 1 := by
  obtain ⟨x, hx, S1, e1, I1, G1⟩ := h.pick (by omega) j
  obtain ⟨y, hy, S2, e2, I2, G2⟩ := I1.pick (by omega) j
  have P1 : mPar [6, 7] (mCons (pickW (lv (j + 2))) (mCons (pickW (lv (j + 2))) (mNil))) [some (.ref 1), some (.ref w), z, some (.ref p), some (.ref q), i, a, b, c, d] S = some (.nx, [some (.ref 1), some (.ref w), z, some (.ref p), some (.ref q), i, some (.str x), some (.str y), c, d], S2) := by
    simp [mPar, pickW, mCons, mCall, mVar, mNil, e1, e2]
  obtain ⟨es', S3, P2, q1, q2, q3, q4⟩ := add_step (α := Str) (S := S2) (p := p) (es := es) I2.hp I2.ge (by omega) (x := x) (y := y) (h.wd x hx) (h.wd y hy) (env := [some (.ref 1), some (.ref w), z, some (.ref p), some (.ref q), i, some (.str x), some (.str y), c, d]) (i := 3) (m := 6) (l := 7) rfl rfl rfl
  obtain ⟨I3, G3⟩ := I2.addP q1 q2 q4
  obtain ⟨u, ou, S4, e4, I4, G4⟩ := I3.duo (by omega) j (env := [some (.ref 1), some (.ref w), z, some (.ref p), some (.ref q), i, some (.str x), some (.str y), c, d]) rfl rfl
  obtain ⟨v, ov, S5, e5, I5, G5⟩ := I4.duo (by omega) j (env := [some (.ref 1), some (.ref w), z, some (.ref p), some (.ref q), i, some (.str x), some (.str y), some (Em.d u), d]) rfl rfl
  obtain ⟨us', S6, P6, r1, r2, r3, r4⟩ := add_step (α := Str × Str) (S := S5) (p := q) (es := us) I5.hq I5.gu (by omega) (x := u) (y := v) ou ov (env := [some (.ref 1), some (.ref w), z, some (.ref p), some (.ref q), i, some (.str x), some (.str y), some (Em.d u), some (Em.d v)]) (i := 4) (m := 8) (l := 9) rfl rfl rfl
  obtain ⟨I6, G6⟩ := I5.addQ r1 r2 r4
  refine ⟨es', us', S6, some (.str x), some (.str y), some (Em.d u), some (Em.d v), ?_, { I6 with fd := I6.fd.mono (by omega) }, ((((G1.trans G2).more (by simp)).trans G3).trans ((G4.trans G5).more (by simp))).trans G6, q3, r3⟩
  have P4 : mAsg (duoE (lv (j + 2))) (gN 8) [some (.ref 1), some (.ref w), z, some (.ref p), some (.ref q), i, some (.str x), some (.str y), c, d] S3 = some (.nx, [some (.ref 1), some (.ref w), z, some (.ref p), some (.ref q), i, some (.str x), some (.str y), some (Em.d u), d], S4) := by
    unfold mAsg
    rw [show duoE (lv (j + 2)) _ S3 = _ from e4]
    rfl
  have P5 : mAsg (duoE (lv (j + 2))) (gN 9) [some (.ref 1), some (.ref w), z, some (.ref p), some (.ref q), i, some (.str x), some (.str y), some (Em.d u), d] S4 = some (.nx, [some (.ref 1), some (.ref w), z, some (.ref p), some (.ref q), i, some (.str x), some (.str y), some (Em.d u), some (Em.d v)], S5) := by
    unfold mAsg
    rw [show duoE (lv (j + 2)) _ S4 = _ from e5]
    rfl
  unfold lapE
  rw [seq_nx P1, seq_nx P2, seq_nx P4, seq_nx P5]
  exact P6
theorem laps_ok (j mm : Nat) (z : Option D) : ∀ (t i : Nat) (k : Nat) (es : Rows Str) (us : Rows (Str × Str)) (S : Sto) (n a b c d : Option D), t + i = mm → Wi ns k p q w wl es us S → k + 6 * t < 1000000000 → es.length + t < 900 → us.length + t < 900 →
    ∃ (es' : Rows Str) (us' : Rows (Str × Str)) (S' : Sto) (e' : PL.Env), mForL (nxR 0 mm) (gN 5) (lapE (lv (j + 2))) (t + 1) i [some (.ref 1), some (.ref w), z, some (.ref p), some (.ref q), n, a, b, c, d] S = some (.nx, e', S') ∧
      e'[3]? = some (some (.ref p)) ∧ e'[4]? = some (some (.ref q)) ∧ Wi ns (k + 6 * t) p q w wl es' us' S' ∧ Go [p, q] S S' ∧ es'.length ≤ es.length + t ∧ us'.length ≤ us.length + t := by
  intro t
  induction t with
  | zero =>
    intro i k es us S n a b c d hi I hk h1 h2
    refine ⟨es, us, S, [some (.ref 1), some (.ref w), z, some (.ref p), some (.ref q), n, a, b, c, d], ?_, rfl, rfl, by simpa using I, Go.refl, by omega, by omega⟩
    · have : ¬ i < mm := by omega
      unfold mForL
      simp only [nxR, if_neg this, Option.bind_some]
  | succ t ih =>
    intro i k es us S n a b c d hi I hk h1 h2
    have hlt : i < mm := by omega
    obtain ⟨es1, us1, S1, a1, b1, c1, d1, e1, I1, G1, l1, l2⟩ := lap_ok I (by omega) (by omega) (by omega) j z (some (.int (0 + (i : Int)))) a b c d
    obtain ⟨es2, us2, S2, e', e2, v3, v4, I2, G2, l3, l4⟩ := ih (i + 1) (k + 6) es1 us1 S1 (some (.int (0 + (i : Int)))) a1 b1 c1 d1 (by omega) I1 (by omega) (by omega) (by omega)
    refine ⟨es2, us2, S2, e', ?_, v3, v4, { I2 with fd := I2.fd.mono (by omega) }, G1.trans G2, by omega, by omega⟩
    unfold mForL
    simp only [nxR, if_pos hlt, Option.bind_some]
    have g : gN 5 (.int (0 + (i : Int))) [some (.ref 1), some (.ref w), z, some (.ref p), some (.ref q), n, a, b, c, d] S = some ([some (.ref 1), some (.ref w), z, some (.ref p), some (.ref q), some (.int (0 + (i : Int))), a, b, c, d], S) := rfl
    rw [g]
    simp only [Option.bind_some]
    rw [e1]
    simp only [Option.bind_some]
    exact e2
end
theorem sortItems_ok {α : Type} [DecidableEq α] [DatumOrd α] [Em α] [Fit α] [Lin α] {S : Sto} {p : Nat} {es : Rows α} {o : Ob} (hp : S[p]? = some o) (ho : ∃ ents, entsOf o = some ents ∧ itemsD ents = es.map Em.d) (g : OkR es) (hl : es.length < 1000) {env : PL.Env} {i : Nat} (hi : env[i]? = some (some (.ref p))) :
    mBlt gTuple (mCons (mSortItems (mVar i)) mNil) env S = some (eT (es.mergeSort TB.le), S ++ [.lst ((es.mergeSort TB.le).map Em.d)]) := by
  obtain ⟨ents, h1, h2⟩ := ho
  have h3 : sortB (es.map Datum.toD) = true := sortB_rows es Fit.dp hl
  have h4 : PyData.hasDictAll (es.map (Datum.toD (α := α × α))) = false := by
    clear h3 h2 hl hp
    induction es with
    | nil => rfl
    | cons e es ih =>
      have g1 := g e (.head _)
      have q1 := PyData.hasDict_of_canLay _ (Fit.lay e.1 g1.1)
      have q2 := PyData.hasDict_of_canLay _ (Fit.lay e.2 g1.2)
      have q3 : (Datum.toD e).hasDict = false := by
        show (PyData.tuple [Datum.toD e.1, Datum.toD e.2]).hasDict = false
        simp [PyData.hasDict, PyData.hasDictAll, q1, q2]
      simp only [List.map_cons, PyData.hasDictAll, q3, Bool.false_or]
      exact ih fun p hp => g p (.tail _ hp)
  have e1 : mSortItems (mVar i) env S = some (.ref S.length, S ++ [.lst ((es.mergeSort TB.le).map Em.d)]) := by
    unfold mSortItems
    rw [mv hi]
    simp only [Option.bind_some, hp, h1, h2, pys, h3, h4, Bool.not_false, Bool.and_self, if_true, sorted_map]
    rfl
  unfold mBlt mCons
  rw [e1]
  have e2 : gTuple [.ref S.length] (S ++ [Ob.lst ((es.mergeSort TB.le).map Em.d)]) = some (.tup ((es.mergeSort TB.le).map Em.d), S ++ [.lst ((es.mergeSort TB.le).map Em.d)]) := by
    show (seqAt _ _).map _ = _
    rw [seq_new (J := [])]
    rfl
  simp only [Option.bind_some, mNil, e2]
end K53
end

section
set_option Elab.async false
set_option linter.all false
set_option maxRecDepth 100000
set_option maxHeartbeats 4000000
namespace K53
open PySem PySem.Spec PyProof.Rows L2 PL PySem.W TB
theorem r1s (mm : Nat) (hm : mm < 500) (S : Sto) : r1Of [.int (mm : Int)] S = some ((mm + 1, nxR 0 mm), S) := by
  have a1 : -(2 ^ 62) ≤ (mm : Int) := Int.le_trans (by decide : -(2 ^ 62) ≤ (0 : Int)) (Int.natCast_nonneg _)
  have a2 : (mm : Int) < 2 ^ 62 := Int.lt_of_lt_of_le (by omega : (mm : Int) < 500) (by decide : (500 : Int) ≤ 2 ^ 62)
  simp only [r1Of]
  rw [if_pos ⟨a1, a2⟩, Int.toNat_natCast]
theorem okR_sort {α : Type} [DecidableEq α] [DatumOrd α] [Em α] [Fit α] [Lin α] {es : Rows α} (g : OkR es) : OkR (es.mergeSort TB.le) := fun p hp => g p (List.mem_mergeSort.mp hp)
theorem wild_ok {ns : List Int} {k w : Nat} {wl : List Str} {S : Sto} (fd : FeedAt ns k S) (hw : S[w]? = some (.lst (wl.map D.str))) (w4 : 4 ≤ w) (wl0 : 0 < wl.length) (wl1 : wl.length < 1000) (wd : ∀ x ∈ wl, Wd x) (mm : Nat) (hm : mm < 500) (hk : k + 6 * mm < 1000000000) (j : Nat) :
    ∃ (T : Rows Str) (U : Rows (Str × Str)) (S' : Sto), lv (j + 3) 14 [.ref 1, .ref w, .int mm] S = some (tb T U, S') ∧ Half T ∧ Half U ∧ OkR T ∧ OkR U ∧ T.length ≤ mm ∧ U.length ≤ mm ∧ FeedAt ns (k + 6 * mm) S' ∧ Go [] S S' := by
  have hwl := (List.getElem?_eq_some_iff.mp hw).1
  have I0 : Wi ns k S.length (S.length + 1) w wl [] [] (S ++ [.dK [], .dT []]) := {
    fd := fd.new
    hp := by simp; rfl
    hq := by simp; rfl
    hw := pre_get pre_app hw
    p4 := by omega
    q4 := by omega
    w4 := w4
    pq := by omega
    wp := by omega
    wq := by omega
    ge := ⟨List.nodup_nil, List.nodup_nil, fun p h => by cases h⟩
    gu := ⟨List.nodup_nil, List.nodup_nil, fun p h => by cases h⟩
    wl0 := wl0
    wl1 := wl1
    wd := wd }
  obtain ⟨es, us, S1, e', e1, v3, v4, I1, G1, l1, l2⟩ := laps_ok j mm (some (.int (mm : Int))) mm 0 k [] [] _ none none none none none (by omega) I0 (by omega) (by simp; omega) (by simp; omega)
  have hle : es.length < 1000 := by simp at l1; omega
  have hlu : us.length < 1000 := by simp at l2; omega
  have e2 := sortItems_ok (α := Str) (es := es) I1.hp ⟨_, rfl, by simp [kvK, itemsD, kD]; exact fun _ _ _ => rfl⟩ I1.ge.ok hle v3
  have I2 := I1.more (T := [.lst ((es.mergeSort TB.le).map Em.d)])
  have e3 := sortItems_ok (α := Str × Str) (es := us) I2.hq ⟨_, rfl, by simp [kvT, itemsD, kD, pk]; exact fun _ _ _ _ _ => rfl⟩ I2.gu.ok hlu v4
  have I3 := I2.more (T := [.lst ((us.mergeSort TB.le).map Em.d)])
  refine ⟨es.mergeSort TB.le, us.mergeSort TB.le, _, ?_, half_sort I1.ge.a I1.ge.b, half_sort I1.gu.a I1.gu.b, okR_sort I1.ge.ok, okR_sort I1.gu.ok, by simpa using l1, by simpa using l2, I3.fd, ?_⟩
  · show m14 (lv (j + 2)) _ S = _
    unfold m14
    have st : startE 10 [.ref 1, .ref w, .int (mm : Int)] = [some (.ref 1), some (.ref w), some (.int (mm : Int)), none, none, none, none, none, none, none] := rfl
    have P1 : mPar [3, 4] (mCons (mEmpty) (mCons (mEmptyT) (mNil))) (startE 10 [.ref 1, .ref w, .int (mm : Int)]) S = some (.nx, [some (.ref 1), some (.ref w), some (.int (mm : Int)), some (.ref S.length), some (.ref (S.length + 1)), none, none, none, none, none], S ++ [.dK [], .dT []]) := by
      rw [st]
      simp [mPar, mCons, mEmpty, mEmptyT, mNil]
    have P2 : mFor (mR1 (mCons (mVar 2) (mNil))) (gN 5) (lapE (lv (j + 2))) [some (.ref 1), some (.ref w), some (.int (mm : Int)), some (.ref S.length), some (.ref (S.length + 1)), none, none, none, none, none] (S ++ [.dK [], .dT []]) = some (.nx, e', S1) := by
      unfold mFor
      have q : mR1 (mCons (mVar 2) (mNil)) [some (.ref 1), some (.ref w), some (.int (mm : Int)), some (.ref S.length), some (.ref (S.length + 1)), none, none, none, none, none] (S ++ [.dK [], .dT []]) = some ((mm + 1, nxR 0 mm), S ++ [.dK [], .dT []]) := by
        rw [mR1, show mCons (mVar 2) mNil [some (.ref 1), some (.ref w), some (.int (mm : Int)), some (.ref S.length), some (.ref (S.length + 1)), none, none, none, none, none] (S ++ [.dK [], .dT []]) = some ([.int (mm : Int)], S ++ [.dK [], .dT []]) from rfl, Option.bind_some]
        dsimp only
        rw [r1s mm hm]
      rw [q]
      simp only [Option.bind_some]
      exact e1
    have P3 : mRet (mTup (mCons (mBlt gTuple (mCons (mSortItems (mVar 3)) (mNil))) (mCons (mBlt gTuple (mCons (mSortItems (mVar 4)) (mNil))) (mNil)))) e' S1 = some (.rt (tb (es.mergeSort TB.le) (us.mergeSort TB.le)), e', S1 ++ [.lst ((es.mergeSort TB.le).map Em.d)] ++ [.lst ((us.mergeSort TB.le).map Em.d)]) := by
      have c3 : mCons (mBlt gTuple (mCons (mSortItems (mVar 3)) (mNil))) (mCons (mBlt gTuple (mCons (mSortItems (mVar 4)) (mNil))) (mNil)) e' S1 = some ([eT (es.mergeSort TB.le), eT (us.mergeSort TB.le)], S1 ++ [.lst ((es.mergeSort TB.le).map Em.d)] ++ [.lst ((us.mergeSort TB.le).map Em.d)]) := by
        rw [mCons, e2, Option.bind_some, mCons, e3]
        rfl
      rw [mRet, mTup, c3]
      rfl
    exact body_rt ((seq_nx P1).trans ((seq_nx P2).trans P3))
  · have G2 := ((Go.new (X := []) (S := S) (T := [.dK [], .dT []])).more (Y := [S.length, S.length + 1]) (by simp)).trans ((G1.trans (Go.new (T := [.lst ((es.mergeSort TB.le).map Em.d)]))).trans (Go.new (T := [.lst ((us.mergeSort TB.le).map Em.d)])))
    exact ⟨G2.len, fun i o h1 h2 h => G2.keep i o h1 (by
      have := (List.getElem?_eq_some_iff.mp h).1
      simp
      omega) h⟩
end K53
end

section
set_option Elab.async false
set_option linter.all false
set_option maxRecDepth 100000
set_option maxHeartbeats 4000000
namespace K53
open PySem PySem.Spec PyProof.Rows L2 PL
theorem len_app (a b : Str) : (a ++ b).length = a.length + b.length := by
  show (a.cps ++ b.cps).size = a.cps.size + b.cps.size
  simp
/-- data of at most W signs, nested at most m deep -/
structure Ok (W m : Nat) (d : D) (p : PyData) : Prop where
  py : pyD d = some p
  sh : p.showable = true
  nd : p.hasDict = false
  dp : p.depth ≤ m
  ln : p.shown.length ≤ W
def wts (ts : List Str) : Nat := (ts.map fun t => t.length + 2).sum
structure OkL (W m : Nat) (ds : List D) (ps : List PyData) : Prop where
  py : pyDs ds = some ps
  sh : PyData.showableAll ps = true
  nd : PyData.hasDictAll ps = false
  dp : PyData.depthAll ps ≤ m
  ln : wts (PyData.shownAll ps) ≤ W
theorem OkL.nil {m : Nat} : OkL 0 m [] [] := ⟨rfl, rfl, rfl, Nat.zero_le _, Nat.le_refl _⟩
theorem OkL.cons {V W m : Nat} {d : D} {ds : List D} {p : PyData} {ps : List PyData} (h : Ok V m d p) (t : OkL W m ds ps) : OkL (V + 2 + W) m (d :: ds) (p :: ps) := by
  refine ⟨by simp [pyDs, h.py, t.py], by simp [PyData.showableAll, h.sh, t.sh], by simp [PyData.hasDictAll, h.nd, t.nd], ?_, ?_⟩
  · rw [PyData.depthAll.eq_2]
    exact Nat.max_le.mpr ⟨h.dp, t.dp⟩
  · have h1 := h.ln
    have h2 := t.ln
    have e : wts (PyData.shownAll (p :: ps)) = p.shown.length + 2 + wts (PyData.shownAll ps) := by
      rw [PyData.shownAll.eq_2]
      simp [wts]
    omega
theorem OkL.mono {V W m n : Nat} {ds : List D} {ps : List PyData} (h : OkL V m ds ps) (a : V ≤ W) (b : m ≤ n) : OkL W n ds ps := ⟨h.py, h.sh, h.nd, Nat.le_trans h.dp b, Nat.le_trans h.ln a⟩
theorem Ok.mono {V W m n : Nat} {d : D} {p : PyData} (h : Ok V m d p) (a : V ≤ W) (b : m ≤ n) : Ok W n d p := ⟨h.py, h.sh, h.nd, Nat.le_trans h.dp b, Nat.le_trans h.ln a⟩
theorem join_len : ∀ ts : List Str, ((Str.ofString ", ").join ts).length ≤ wts ts
  | [] => by rw [Str.join.eq_1]; decide
  | [x] => by rw [Str.join.eq_2]; simp [wts]
  | x :: y :: r => by
    have ih := join_len (y :: r)
    have hc : (Str.ofString ", ").length = 2 := by decide
    have e : wts (x :: y :: r) = x.length + 2 + wts (y :: r) := by simp [wts]
    rw [Str.join.eq_3 _ _ _ (by simp), len_app, len_app]
    omega
theorem Ok.tup {W m : Nat} {ds : List D} {ps : List PyData} (h : OkL W m ds ps) : Ok (W + 3) (m + 1) (.tup ds) (.tuple ps) := by
  refine ⟨by simp [pyD, h.py], by rw [PyData.showable.eq_6]; exact h.sh, by rw [PyData.hasDict.eq_6]; exact h.nd, by rw [PyData.depth.eq_2]; have := h.dp; omega, ?_⟩
  rw [PyData.shown.eq_6, tupleText.eq_1, len_app, len_app]
  have h1 := join_len (PyData.shownAll ps)
  have h2 := h.ln
  have h3 : (Str.ofString "(").length = 1 := by decide
  have h4 : (Str.ofString (if ((PyData.shownAll ps).length == 1) = true then ",)" else ")")).length ≤ 2 := by
    split <;> decide
  omega
theorem Ok.repr {W m : Nat} {ds : List D} {p : PyData} (h : Ok W m (.tup ds) p) (hW : W ≤ sizeLine) (hm : m ≤ 40) (S : Sto) : gRepr [.tup ds] S = some (.str p.shown, S) := by
  have hr : reprOk p = true := by
    unfold reprOk
    have h1 := h.dp
    have h2 := h.ln
    simp [h.sh, h.nd]
    exact ⟨by omega, by omega⟩
  simp [gRepr, h.py, hr]
/-- small ints, texts -/
def okB (W : Nat) (p : PyData) : Bool := p.showable && !p.hasDict && decide (p.depth ≤ 0) && decide (p.shown.length ≤ W)
theorem Ok.of {W : Nat} {d : D} {p : PyData} (h : pyD d = some p) (b : okB W p = true) : Ok W 0 d p := by
  unfold okB at b
  simp only [Bool.and_eq_true, Bool.not_eq_true', decide_eq_true_eq] at b
  exact ⟨h, b.1.1.1, b.1.1.2, b.1.2, b.2⟩
theorem small : ∀ n : Fin 10, okB 8 (.int (n.val : Int)) = true := by decide +kernel
theorem Ok.dig {r : Int} (h0 : 0 ≤ r) (h1 : r < 10) : Ok 8 0 (.int r) (.int r) := by
  obtain ⟨n, rfl⟩ : ∃ n : Nat, r = (n : Int) := ⟨r.toNat, by omega⟩
  exact Ok.of rfl (small ⟨n, by omega⟩)

open PySem.W TB
theorem Wd.rep {x : Str} (h : Wd x) : Ok 20 0 (.str x) (.str x) := ⟨rfl, h.sh, by simp [PyData.hasDict], by simp [PyData.depth], h.rp⟩
/-- what may be written as text -/
class Rp (α : Type) [DecidableEq α] [DatumOrd α] [Em α] [Fit α] where
  W : Nat
  m : Nat
  ok : ∀ a : α, Fit.ok a → Ok W m (Em.d a) (Datum.toD a)
  sm : W ≤ 100 ∧ m ≤ 5
instance : Rp Str where
  W := 20
  m := 0
  ok a h := Wd.rep h
  sm := by decide
theorem Ok.two' {V W m : Nat} {a b : D} {p q : PyData} (h : Ok V m a p) (g : Ok W m b q) : Ok (V + W + 7) (m + 1) (.tup [a, b]) (.tuple [p, q]) := (Ok.tup (OkL.cons h (OkL.cons g OkL.nil))).mono (by omega) (Nat.le_refl _)
instance : Rp (Str × Str) where
  W := 47
  m := 1
  ok a h := Ok.two' (Wd.rep h.1) (Wd.rep h.2)
  sm := by decide
theorem rows_rep {α : Type} [DecidableEq α] [DatumOrd α] [Em α] [Fit α] [Rp α] {T : Rows α} (g : OkR T) : OkL (T.length * 210) 6 (T.map Em.d) (T.map Datum.toD) := by
  induction T with
  | nil => exact OkL.nil.mono (Nat.zero_le _) (Nat.le_refl _)
  | cons p T ih =>
    have g1 := g p (.head _)
    have s := Rp.sm (α := α)
    have e := Ok.two' (Rp.ok p.1 g1.1) (Rp.ok p.2 g1.2)
    have e' : Ok 207 6 (Em.d p) (Datum.toD p) := e.mono (by omega) (by omega)
    exact (OkL.cons e' (ih fun q hq => g q (.tail _ hq))).mono (by simp only [List.length_cons]; omega) (Nat.le_refl _)
theorem tb_rep {T : Rows Str} {U : Rows (Str × Str)} (g : OkR T) (h : OkR U) (hT : T.length < 60) (hU : U.length < 60) : ∃ r, ∀ S, gOr gRepr gReprS [tb T U] S = some (.str r, S) := by
  have o := Ok.two' (Ok.tup (rows_rep g)) (Ok.tup (rows_rep h))
  refine ⟨(PyData.tuple [.tuple (T.map Datum.toD), .tuple (U.map Datum.toD)]).shown, fun S => ?_⟩
  have q := Ok.repr (o.mono (W := 30000) (n := 8) (by omega) (by omega)) (by decide) (by decide) S
  show ((gRepr [tb T U] S).orElse _) = _
  rw [show gRepr [tb T U] S = _ from q]
  rfl
/-- a thing written as text -/
theorem th_rep {α : Type} [DecidableEq α] [DatumOrd α] [Em α] [Fit α] [Rp α] [Hd α] (x : α) (h : Fit.ok x) : ∃ r, ∀ S, gOr gRepr gReprS [Em.d x] S = some (.str r, S) := by
  have o := Rp.ok x h
  have s := Rp.sm (α := α)
  rcases Hd.kind x with ⟨y, hy, _⟩ | ⟨ys, hy⟩
  · rw [hy] at o ⊢
    have e : Datum.toD x = .str y := Option.some.inj (o.py.symm.trans rfl)
    have l := o.ln
    rw [e] at l
    have hz : (reprText y).length ≤ sizeLine := by
      have := s1000
      have l' : (PyData.str y).shown = reprText y := by simp [PyData.shown]
      rw [l'] at l
      omega
    refine ⟨reprText y, fun S => ?_⟩
    have e2 : gReprS [.str y] S = if (reprText y).length ≤ sizeLine then some (.str (reprText y), S) else none := rfl
    show (gReprS [.str y] S) = _
    rw [e2, if_pos hz]
  · rw [hy] at o ⊢
    refine ⟨(Datum.toD x).shown, fun S => ?_⟩
    have q := Ok.repr (o.mono (W := 1000) (n := 8) (by omega) (by omega)) (by decide) (by decide) S
    show ((gRepr [.tup ys] S).orElse _) = _
    rw [q]
    rfl
end K53
end

section
set_option Elab.async false
set_option linter.all false
set_option maxRecDepth 100000
set_option maxHeartbeats 4000000
namespace K53
open PySem PySem.Spec PyProof.Rows L2 PL PySem.W TB
theorem val_get {κ α : Type} [DecidableEq κ] [DecidableEq α] (f : α → κ) (hf : ∀ a b, f a = f b → a = b) (g : α → D) : ∀ (es : Rows α) (x y : α), (firsts es).Nodup → (x, y) ∈ es → valD (es.map fun e => (f e.1, g e.2)) (f x) = some (g y)
  | [], x, y, _, h => by cases h
  | e :: es, x, y, nd, h => by
    have nd' : e.1 ∉ firsts es ∧ (firsts es).Nodup := List.nodup_cons.mp nd
    rcases List.mem_cons.mp h with q | q
    · subst q
      simp [valD]
    · have hne : f e.1 ≠ f x := fun z => nd'.1 (by
        rw [hf _ _ z]
        exact List.mem_map.mpr ⟨_, q, rfl⟩)
      have ih := val_get f hf g es x y nd'.2 q
      have r : valD ((e :: es).map fun e => (f e.1, g e.2)) (f x) = valD (es.map fun e => (f e.1, g e.2)) (f x) := by simp [valD, hne]
      rw [r, ih]
class Hd2 (α : Type) [DecidableEq α] [DatumOrd α] [Em α] [Fit α] [Hd α] : Prop where
  isin : ∀ {S : Sto} {p : Nat} {es : Rows α}, S[p]? = some (Hd.ob es) → ∀ x, inA id (Em.d x) (.ref p) S = some (.bl (decide (x ∈ firsts es)), S)
  get : ∀ {S : Sto} {p : Nat} {es : Rows α}, S[p]? = some (Hd.ob es) → (firsts es).Nodup → ∀ x y, (x, y) ∈ es → ixA (.ref p) (Em.d x) S = some (Em.d y, S)
  sel : ∀ {S : Sto} {b : Nat} {es : Rows α} {env : PL.Env}, env[1]? = some (some (.ref b)) → S[b]? = some (Hd.ob es) → mSel (selT 1) mEmptyT mEmpty env S = some (.ref S.length, S ++ [Hd.ob ([] : Rows α)])
instance : Hd2 Str where
  isin {S p es} h x := by
    have h' : S[p]? = some (.dK (kvK es)) := h
    have e : seqD S (.ref p) = none := by
      show seqAt p S = none
      unfold seqAt
      rw [h']
    have q : inSeq id (.str x) (.ref p) S = none := by
      unfold inSeq
      rw [e]
      rfl
    show ((inSeq id (.str x) (.ref p) S).orElse fun _ => (ssB _ (.str x) (.ref p) S).orElse fun _ => inD id (.str x) (.ref p) S) = _
    rw [q]
    show (dictAt p (.str x) S).map (fun o => (D.bl (id o.isSome), S)) = _
    have d : dictAt p (.str x) S = some (valD (kvK es) (.inr x)) := by
      unfold dictAt
      rw [h']
      rfl
    rw [d]
    have v := val_some (κ := Key) (Sum.inr : Str → Key) inr_inj D.str es x
    simp only [Option.map_some, id]
    rw [show (valD (kvK es) (Sum.inr x)).isSome = _ from v]
  get {S p es} h nd x y m := by
    have h' : S[p]? = some (.dK (kvK es)) := h
    have e : ixA (.ref p) (.str x) S = (dictAt p (.str x) S).bind fun o => o.map fun d => (d, S) := rfl
    have d : dictAt p (.str x) S = some (valD (kvK es) (.inr x)) := by
      unfold dictAt
      rw [h']
      rfl
    have v := val_get (κ := Key) (Sum.inr : Str → Key) inr_inj D.str es x y nd m
    show ixA (.ref p) (.str x) S = _
    rw [e, d, show valD (kvK es) (Sum.inr x) = _ from v]
    rfl
  sel {S b es env} h1 h2 := by
    have h' : S[b]? = some (.dK (kvK es)) := h2
    have s : selT 1 env S = false := by
      unfold selT
      rw [h1]
      simp only [h']
    unfold mSel
    rw [s]
    rfl
instance : Hd2 (Str × Str) where
  isin {S p es} h x := by
    have h' : S[p]? = some (.dT (kvT es)) := h
    have q : inSeq id (Em.d x) (.ref p) S = none := rfl
    show ((inSeq id (Em.d x) (.ref p) S).orElse fun _ => (ssB _ (Em.d x) (.ref p) S).orElse fun _ => inD id (Em.d x) (.ref p) S) = _
    rw [q]
    show (dictAt p (Em.d x) S).map (fun o => (D.bl (id o.isSome), S)) = _
    have d : dictAt p (Em.d x) S = some (valD (kvT es) (pk x)) := by
      show dictAt p (.tup [.str x.1, .str x.2]) S = _
      unfold dictAt
      rw [h']
      rfl
    rw [d]
    have v := val_some (κ := List Key) pk (fun a b => pk_inj) (Em.d (α := Str × Str)) es x
    simp only [Option.map_some, id]
    rw [show (valD (kvT es) (pk x)).isSome = _ from v]
  get {S p es} h nd x y m := by
    have h' : S[p]? = some (.dT (kvT es)) := h
    have e : ixA (.ref p) (Em.d x) S = (dictAt p (Em.d x) S).bind fun o => o.map fun d => (d, S) := rfl
    have d : dictAt p (Em.d x) S = some (valD (kvT es) (pk x)) := by
      show dictAt p (.tup [.str x.1, .str x.2]) S = _
      unfold dictAt
      rw [h']
      rfl
    have v := val_get (κ := List Key) pk (fun a b => pk_inj) (Em.d (α := Str × Str)) es x y nd m
    rw [e, d, show valD (kvT es) (pk x) = _ from v]
    rfl
  sel {S b es env} h1 h2 := by
    have h' : S[b]? = some (.dT (kvT es)) := h2
    have s : selT 1 env S = true := by
      unfold selT
      rw [h1]
      simp only [h']
    unfold mSel
    rw [s]
    rfl
section
variable {α : Type} [DecidableEq α] [DatumOrd α] [Em α] [Fit α] [Hd α] [Hd2 α] [Rp α]
theorem isNone (c : α) (S : Sto) : dIsO (Em.d c) .non S = some (.bl false, S) := by
  rcases Hd.kind c with ⟨y, hy, _⟩ | ⟨ys, hy⟩ <;> rw [hy] <;> rfl
abbrev rpE : List D → Sto → R := gOr gRepr gReprS
abbrev otoE : MS := mSeq (mIfS (asB (mBin dIsO (mVar 4) (mC .non))) (mCt) (mNext))
    (mSeq (mIfS (mOrT (mOrTT (asB (mBin (inA id) (mVar 4) (mVar 2))) (asB (mBin (inP false) (mVar 4) (mVar 2)))) (asB (mBin dNe (mBlt rpE (mCons (mBin ixA (mVar 1) (mVar 4)) (mNil))) (mBlt rpE (mCons (mVar 3) (mNil)))))) (mRet (mC (.bl false))) (mNext))
    (mAsg (mVar 3) (gSubM (mVar 2) (mVar 4) setSeq)))
abbrev clD (f : α → Option α) (x : α) : D := .tup [Em.d x, oD (f x)]
theorem oto_loop {xs : List α} {f : α → Option α} (nd : xs.Nodup) (inj : ∀ x ∈ xs, ∀ y ∈ xs, ∀ c, f x = some c → f y = some c → x = y) (okx : ∀ x ∈ xs, Fit.ok x) {bs : Rows α} (nb : (firsts bs).Nodup) (hb : ∀ x ∈ xs, ∀ c, f x = some c → (c, x) ∈ bs)
    {c b : Nat} {S : Sto} (hc : S[c]? = some (.lst (xs.map (clD f)))) (hbS : S[b]? = some (Hd.ob bs)) (hl : xs.length < 900) : ∀ (t i : Nat) (es : Rows α) (a3 a4 : Option D), xs.length = i + t → (∀ z ∈ firsts es, ∃ x ∈ xs.take i, f x = some z) → es.length ≤ i →
    ∃ (es' : Rows α) (a3' a4' : Option D), mForL (nxL c) (gT 2 (gsC (gN 3) (gsC (gN 4) (gsN)))) otoE (t + 1) i [some (.ref c), some (.ref b), some (.ref S.length), a3, a4] (S ++ [Hd.ob es]) = some (.nx, [some (.ref c), some (.ref b), some (.ref S.length), a3', a4'], S ++ [Hd.ob es']) := by
  intro t
  induction t with
  | zero =>
    intro i es a3 a4 hi _ _
    refine ⟨es, a3, a4, ?_⟩
    have hn : nxL c i (S ++ [Hd.ob es]) = some none := by
      rw [nL (seq_at hc) i _ pre_app, List.getElem?_eq_none_iff.mpr (by simp; omega)]
    unfold mForL
    rw [hn]
    rfl
  | succ t ih =>
    intro i es a3 a4 hi h1 h2
    have hx' : i < xs.length := by omega
    have hn : nxL c i (S ++ [Hd.ob es]) = some (some (clD f xs[i])) := by
      rw [nL (seq_at hc) i _ pre_app, List.getElem?_map, List.getElem?_eq_getElem hx']
      rfl
    have hm : xs[i] ∈ xs := List.getElem_mem hx'
    have tk : xs.take (i + 1) = xs.take i ++ [xs[i]] := by rw [List.take_add_one, List.getElem?_eq_getElem hx']; rfl
    have g1 : gT 2 (gsC (gN 3) (gsC (gN 4) (gsN))) (clD f xs[i]) [some (.ref c), some (.ref b), some (.ref S.length), a3, a4] (S ++ [Hd.ob es]) = some ([some (.ref c), some (.ref b), some (.ref S.length), some (Em.d xs[i]), some (oD (f xs[i]))], S ++ [Hd.ob es]) := rfl
    cases hf : f xs[i] with
    | none =>
      obtain ⟨es', a3', a4', e⟩ := ih (i + 1) es (some (Em.d xs[i])) (some .non) (by omega) (fun z hz => by
        obtain ⟨x, q1, q2⟩ := h1 z hz
        exact ⟨x, by rw [tk]; exact List.mem_append_left _ q1, q2⟩) (by omega)
      refine ⟨es', a3', a4', ?_⟩
      rw [hf] at g1
      unfold mForL
      rw [hn]
      simp only [Option.bind_some]
      rw [g1]
      simp only [Option.bind_some]
      have s1 : otoE [some (.ref c), some (.ref b), some (.ref S.length), some (Em.d xs[i]), some (oD (none : Option α))] (S ++ [Hd.ob es]) = some (.ct, [some (.ref c), some (.ref b), some (.ref S.length), some (Em.d xs[i]), some (oD (none : Option α))], S ++ [Hd.ob es]) := by
        unfold otoE
        unfold mSeq
        rw [if_yes (S' := S ++ [Hd.ob es]) rfl]
        rfl
      rw [s1]
      simp only [Option.bind_some]
      exact e
    | some z =>
      have hz : z ∉ firsts es := fun hz => by
        obtain ⟨x, q1, q2⟩ := h1 z hz
        have := inj _ hm x (List.mem_of_mem_take q1) z hf q2
        subst this
        obtain ⟨k, hk, he⟩ := List.mem_take_iff_getElem.mp q1
        have hk' : k < i := by omega
        have hk2 : k < xs.length := by omega
        have := (List.getElem_inj nd (i := k) (j := i) (h₀ := hk2) (h₁ := hx')).mp he
        omega
      obtain ⟨es', a3', a4', e⟩ := ih (i + 1) (es ++ [(z, xs[i])]) (some (Em.d xs[i])) (some (Em.d z)) (by omega) (fun u hu => by
        have hu' : u ∈ firsts es ∨ u = z := by simpa [firsts] using hu
        rcases hu' with hu' | rfl
        · obtain ⟨x, q1, q2⟩ := h1 u hu'
          exact ⟨x, by rw [tk]; exact List.mem_append_left _ q1, q2⟩
        · exact ⟨xs[i], by rw [tk]; exact List.mem_append_right _ (.head _), hf⟩) (by simp; omega)
      refine ⟨es', a3', a4', ?_⟩
      rw [hf] at g1
      have hd : (S ++ [Hd.ob es])[S.length]? = some (Hd.ob es) := at_new (J := [])
      have hbS' : (S ++ [Hd.ob es])[b]? = some (Hd.ob bs) := pre_get pre_app hbS
      obtain ⟨r, hr⟩ := th_rep xs[i] (okx _ hm)
      have c1 : mIfS (asB (mBin dIsO (mVar 4) (mC .non))) (mCt) (mNext) [some (.ref c), some (.ref b), some (.ref S.length), some (Em.d xs[i]), some (Em.d z)] (S ++ [Hd.ob es]) = some (.nx, [some (.ref c), some (.ref b), some (.ref S.length), some (Em.d xs[i]), some (Em.d z)], S ++ [Hd.ob es]) := by
        rw [if_no (S' := S ++ [Hd.ob es]) (by
          unfold asB
          rw [show mBin dIsO (mVar 4) (mC .non) [some (.ref c), some (.ref b), some (.ref S.length), some (Em.d xs[i]), some (Em.d z)] (S ++ [Hd.ob es]) = _ from isNone z _]
          rfl)]
        rfl
      have c2 : mOrTT (asB (mBin (inA id) (mVar 4) (mVar 2))) (asB (mBin (inP false) (mVar 4) (mVar 2))) [some (.ref c), some (.ref b), some (.ref S.length), some (Em.d xs[i]), some (Em.d z)] (S ++ [Hd.ob es]) = some (false, S ++ [Hd.ob es]) := by
        refine mOrTT_l ?_
        unfold asB
        rw [show mBin (inA id) (mVar 4) (mVar 2) [some (.ref c), some (.ref b), some (.ref S.length), some (Em.d xs[i]), some (Em.d z)] (S ++ [Hd.ob es]) = _ from Hd2.isin hd z]
        simp [hz]
      have c3 : asB (mBin dNe (mBlt rpE (mCons (mBin ixA (mVar 1) (mVar 4)) (mNil))) (mBlt rpE (mCons (mVar 3) (mNil)))) [some (.ref c), some (.ref b), some (.ref S.length), some (Em.d xs[i]), some (Em.d z)] (S ++ [Hd.ob es]) = some (false, S ++ [Hd.ob es]) := by
        have q1 : mBin ixA (mVar 1) (mVar 4) [some (.ref c), some (.ref b), some (.ref S.length), some (Em.d xs[i]), some (Em.d z)] (S ++ [Hd.ob es]) = some (Em.d xs[i], S ++ [Hd.ob es]) := Hd2.get hbS' nb z _ (hb _ hm z hf)
        have q2 : mBlt rpE (mCons (mBin ixA (mVar 1) (mVar 4)) (mNil)) [some (.ref c), some (.ref b), some (.ref S.length), some (Em.d xs[i]), some (Em.d z)] (S ++ [Hd.ob es]) = some (.str r, S ++ [Hd.ob es]) := by
          rw [mBlt, mCons, q1]
          exact hr _
        have q3 : mBlt rpE (mCons (mVar 3) (mNil)) [some (.ref c), some (.ref b), some (.ref S.length), some (Em.d xs[i]), some (Em.d z)] (S ++ [Hd.ob es]) = some (.str r, S ++ [Hd.ob es]) := hr _
        have q4 : dNe (.str r) (.str r) (S ++ [Hd.ob es]) = some (.bl false, S ++ [Hd.ob es]) := by
          show some (D.bl (!decide (r = r)), S ++ [Hd.ob es]) = _
          simp
        rw [asB, mBin, q2, Option.bind_some]
        dsimp only
        rw [q3, Option.bind_some]
        dsimp only
        rw [q4]
        rfl
      have c4 : mAsg (mVar 3) (gSubM (mVar 2) (mVar 4) setSeq) [some (.ref c), some (.ref b), some (.ref S.length), some (Em.d xs[i]), some (Em.d z)] (S ++ [Hd.ob es]) = some (.nx, [some (.ref c), some (.ref b), some (.ref S.length), some (Em.d xs[i]), some (Em.d z)], S ++ [Hd.ob (es ++ [(z, xs[i])])]) := by
        have q := Hd.set hd (by omega) z xs[i] hz
        have q2 : (S ++ [Hd.ob es]).set S.length (Hd.ob (es ++ [(z, xs[i])])) = S ++ [Hd.ob (es ++ [(z, xs[i])])] := set_new (J := [])
        rw [q2] at q
        have v3 : mVar 3 [some (.ref c), some (.ref b), some (.ref S.length), some (Em.d xs[i]), some (Em.d z)] (S ++ [Hd.ob es]) = some (Em.d xs[i], S ++ [Hd.ob es]) := rfl
        have v2 : mVar 2 [some (.ref c), some (.ref b), some (.ref S.length), some (Em.d xs[i]), some (Em.d z)] (S ++ [Hd.ob es]) = some (.ref S.length, S ++ [Hd.ob es]) := rfl
        have v4 : mVar 4 [some (.ref c), some (.ref b), some (.ref S.length), some (Em.d xs[i]), some (Em.d z)] (S ++ [Hd.ob es]) = some (Em.d z, S ++ [Hd.ob es]) := rfl
        rw [mAsg, v3, Option.bind_some]
        dsimp only
        rw [gSubM, v2, Option.bind_some]
        dsimp only
        rw [v4, Option.bind_some]
        dsimp only
        rw [q]
        rfl
      have s1 : otoE [some (.ref c), some (.ref b), some (.ref S.length), some (Em.d xs[i]), some (Em.d z)] (S ++ [Hd.ob es]) = some (.nx, [some (.ref c), some (.ref b), some (.ref S.length), some (Em.d xs[i]), some (Em.d z)], S ++ [Hd.ob (es ++ [(z, xs[i])])]) := by
        unfold otoE
        rw [seq_nx c1, seq_nx (by
          rw [if_no (S' := S ++ [Hd.ob es]) (by
            rw [mOrT, c2, Option.bind_some]
            exact c3)]
          rfl)]
        exact c4
      unfold mForL
      rw [hn]
      simp only [Option.bind_some]
      rw [g1]
      simp only [Option.bind_some]
      rw [show otoE [some (.ref c), some (.ref b), some (.ref S.length), some (Em.d xs[i]), some (oD (some z))] (S ++ [Hd.ob es]) = _ from s1]
      simp only [Option.bind_some]
      exact e
theorem oto_ok {xs : List α} {f : α → Option α} (nd : xs.Nodup) (inj : ∀ x ∈ xs, ∀ y ∈ xs, ∀ c, f x = some c → f y = some c → x = y) (okx : ∀ x ∈ xs, Fit.ok x) {bs : Rows α} (nb : (firsts bs).Nodup) (hb : ∀ x ∈ xs, ∀ c, f x = some c → (c, x) ∈ bs)
    {c b : Nat} {S : Sto} (hc : S[c]? = some (.lst (xs.map (clD f)))) (hbS : S[b]? = some (Hd.ob bs)) (hl : xs.length < 900) (C : Nat → MF) : ∃ J, m15 C [.ref c, .ref b] S = some (.bl true, S ++ J) := by
  obtain ⟨es', a3, a4, e⟩ := oto_loop nd inj okx nb hb hc hbS hl xs.length 0 [] none none (by omega) (fun z hz => by cases hz) (Nat.le_refl _)
  refine ⟨[Hd.ob es'], ?_⟩
  have st : startE 5 [.ref c, .ref b] = [some (.ref c), some (.ref b), none, none, none] := rfl
  unfold m15
  have P1 : mAsg (mSel (selT 1) (mEmptyT) (mEmpty)) (gN 2) (startE 5 [.ref c, .ref b]) S = some (.nx, [some (.ref c), some (.ref b), some (.ref S.length), none, none], S ++ [Hd.ob ([] : Rows α)]) := by
    rw [mAsg, st, Hd2.sel rfl hbS]
    rfl
  have P2 : mFor (mItr (mVar 0)) (gT 2 (gsC (gN 3) (gsC (gN 4) (gsN)))) otoE [some (.ref c), some (.ref b), some (.ref S.length), none, none] (S ++ [Hd.ob ([] : Rows α)]) = some (.nx, [some (.ref c), some (.ref b), some (.ref S.length), a3, a4], S ++ [Hd.ob es']) := by
    unfold mFor
    rw [itL (n := c) rfl (pre_seq pre_app (seq_at hc))]
    simp only [Option.bind_some, List.length_map]
    exact e
  exact body_rt ((seq_nx P1).trans ((seq_nx P2).trans rfl))
end
end K53
end

section
set_option Elab.async false
set_option linter.all false
set_option maxRecDepth 100000
set_option maxHeartbeats 4000000
namespace K53
open PySem PySem.Spec PyProof.Rows L2 PL PySem.W TB
theorem merge_new {κ α : Type} [DecidableEq κ] [DecidableEq α] (f : α → κ) (hf : ∀ a b, f a = f b → a = b) (g : α → D) : ∀ (bs es : Rows α), (firsts (es ++ bs)).Nodup → (bs.map fun e => (f e.1, g e.2)).foldl (fun acc kv => putD acc kv.1 kv.2) (es.map fun e => (f e.1, g e.2)) = (es ++ bs).map fun e => (f e.1, g e.2)
  | [], es, _ => by simp
  | b :: bs, es, nd => by
    have hb : b.1 ∉ firsts es := fun h => by
      have nd' : (firsts es ++ firsts (b :: bs)).Nodup := by simpa [firsts] using nd
      exact (List.nodup_append.mp nd').2.2 _ h _ (List.mem_cons_self (a := b.1) (l := firsts bs)) rfl
    have q := put_new f hf g es b.1 b.2 hb
    have e : es ++ b :: bs = (es ++ [b]) ++ bs := by simp
    rw [List.map_cons, List.foldl_cons]
    show (bs.map fun e => (f e.1, g e.2)).foldl _ (putD (es.map fun e => (f e.1, g e.2)) (f b.1) (g b.2)) = _
    rw [q, e]
    exact merge_new f hf g bs (es ++ [b]) (by rw [← e]; exact nd)
class Hd3 (α : Type) [DecidableEq α] [DatumOrd α] [Em α] [Fit α] [Hd α] : Prop where
  made : ∀ {S : Sto} {n : Nat} {bs : Rows α}, seqAt n S = some (bs.map Em.d) → (firsts bs).Nodup → bs.length < 900 → bs ≠ [] → gOr gDict gDictT [.ref n] S = some (.ref S.length, S ++ [Hd.ob bs])
theorem pairsD_map (bs : Rows Str) : pairsD (bs.map Em.d) = some (kvK bs) := by
  induction bs with
  | nil => rfl
  | cons b bs ih =>
    show pairsD (.tup [.str b.1, .str b.2] :: bs.map Em.d) = _
    unfold pairsD
    rw [ih]
    rfl
theorem pairsT_map (bs : Rows (Str × Str)) : pairsT (bs.map Em.d) = some (kvT bs) := by
  induction bs with
  | nil => rfl
  | cons b bs ih =>
    show pairsT (.tup [.tup [.str b.1.1, .str b.1.2], Em.d b.2] :: bs.map Em.d) = _
    unfold pairsT
    rw [ih]
    rfl
instance : Hd3 Str where
  made {S n bs} h nd hl hne := by
    have m := merge_new (κ := Key) (Sum.inr : Str → Key) inr_inj D.str bs [] (by simpa using nd)
    have e : gDict [.ref n] S = some (.ref S.length, S ++ [.dK (kvK bs)]) := by
      show (seqAt n S).bind _ = _
      rw [h, Option.bind_some, pairsD_map, Option.bind_some]
      rw [show mergeD [] (kvK bs) = kvK bs from m]
    show ((gDict [.ref n] S).orElse _) = _
    rw [e]
    rfl
instance : Hd3 (Str × Str) where
  made {S n bs} h nd hl hne := by
    have m := merge_new (κ := List Key) pk (fun a b => pk_inj) (Em.d (α := Str × Str)) bs [] (by simpa using nd)
    have e0 : gDict [.ref n] S = none := by
      show (seqAt n S).bind _ = _
      rw [h, Option.bind_some]
      cases bs with
      | nil => exact absurd rfl hne
      | cons b bs => rfl
    have e : gDictT [.ref n] S = some (.ref S.length, S ++ [.dT (kvT bs)]) := by
      have hz : (bs.map (Em.d (α := (Str × Str) × (Str × Str)))).length ≤ 10000 := by rw [List.length_map]; omega
      show (seqAt n S).bind _ = _
      rw [h, Option.bind_some, pairsT_map, Option.bind_some, if_pos hz]
      rw [show mergeT [] (kvT bs) = kvT bs from m]
    show ((gDict [.ref n] S).orElse fun _ => gDictT [.ref n] S) = _
    rw [e0]
    exact e
end K53
end

section
set_option Elab.async false
set_option linter.all false
set_option maxRecDepth 100000
set_option maxHeartbeats 4000000
namespace K53
open PySem PySem.Spec PyProof.Rows L2 PL PySem.W TB
def signs : List Str := [Str.ofString "x", Str.ofString "y", Str.ofString "w"]
def duosOf (xs : List Str) : List (Str × Str) := xs.flatMap fun s => signs.map fun g => (s, g)
abbrev signE : ME := mLc (mItr (mTup (mCons (mC (.str (Str.ofString "x"))) (mCons (mC (.str (Str.ofString "y"))) (mCons (mC (.str (Str.ofString "w"))) (mNil)))))) (gN 5) (mYes) (mTup (mCons (mVar 4) (mCons (mVar 5) (mNil)))) [5]
abbrev extE : MS := mDrop (mMt "list" gExtend (mVar 3) (mCons signE (mNil)))
theorem signs_ok (g sp v2 v3 : Option D) (s : Str) (a5 a6 a7 a8 a9 : Option D) (S : Sto) : ∃ J, signE [g, sp, v2, v3, some (.str s), a5, a6, a7, a8, a9] S = some (.ref S.length, S ++ Ob.lst ((signs.map fun z => (s, z)).map Em.d) :: J) := by
  obtain ⟨J, h⟩ := lcE (it := mItr (mTup (mCons (mC (.str (Str.ofString "x"))) (mCons (mC (.str (Str.ofString "y"))) (mCons (mC (.str (Str.ofString "w"))) (mNil)))))) (xs := signs.map D.str) (nx := nxT (signs.map D.str)) (g := gN 5) (t := mYes) (e := mTup (mCons (mVar 4) (mCons (mVar 5) (mNil)))) (env := [g, sp, v2, v3, some (.str s), a5, a6, a7, a8, a9]) (vs := [5]) (S := S) (S1 := S)
    (fun x => some (.tup [.str s, x])) rfl nT (by decide) (fun x hx T hT => by
      refine ⟨_, [], rfl, rfl, ?_⟩
      simp [mTup, mCons, mVar, mNil, wipeE, sl2])
  refine ⟨J, ?_⟩
  have e : (signs.map D.str).filterMap (fun x => some (D.tup [.str s, x])) = (signs.map fun z => (s, z)).map Em.d := rfl
  rw [e] at h
  exact h
theorem ext_loop {xs : List Str} {sp : Nat} {A : Sto} (hs : A[sp]? = some (.lst (xs.map D.str))) (hl : xs.length < 100) (g v2 a5 a6 a7 a8 a9 : Option D) : ∀ (t i : Nat) (acc : List (Str × Str)) (J : Sto) (a4 : Option D), xs.length = i + t → acc.length + 3 * t < 1000 →
    ∃ (J' : Sto) (a4' : Option D), mForL (nxL sp) (gN 4) extE (t + 1) i [g, some (.ref sp), v2, some (.ref A.length), a4, a5, a6, a7, a8, a9] (A ++ Ob.lst (acc.map Em.d) :: J) = some (.nx, [g, some (.ref sp), v2, some (.ref A.length), a4', a5, a6, a7, a8, a9], A ++ Ob.lst ((acc ++ duosOf (xs.drop i)).map Em.d) :: J') := by
  intro t
  induction t with
  | zero =>
    intro i acc J a4 hi _
    refine ⟨J, a4, ?_⟩
    have hn : nxL sp i (A ++ Ob.lst (acc.map Em.d) :: J) = some none := by
      rw [nL (seq_at hs) i _ pre_app, List.getElem?_eq_none_iff.mpr (by simp; omega)]
    have h1 : xs.drop i = [] := List.drop_eq_nil_of_le (by omega)
    unfold mForL
    rw [hn, h1]
    simp [duosOf]
  | succ t ih =>
    intro i acc J a4 hi hz
    have hx' : i < xs.length := by omega
    have hn : nxL sp i (A ++ Ob.lst (acc.map Em.d) :: J) = some (some (.str xs[i])) := by
      rw [nL (seq_at hs) i _ pre_app, List.getElem?_map, List.getElem?_eq_getElem hx']
      rfl
    have h1 : xs.drop i = xs[i] :: xs.drop (i + 1) := List.drop_eq_getElem_cons hx'
    obtain ⟨J1, e1⟩ := signs_ok g (some (.ref sp)) v2 (some (.ref A.length)) xs[i] a5 a6 a7 a8 a9 (A ++ Ob.lst (acc.map Em.d) :: J)
    have k1 : ((A ++ Ob.lst (acc.map Em.d) :: J) ++ Ob.lst ((signs.map fun z => (xs[i], z)).map Em.d) :: J1)[A.length]? = some (.lst (acc.map Em.d)) := by simp
    have k2 : ((A ++ Ob.lst (acc.map Em.d) :: J) ++ Ob.lst ((signs.map fun z => (xs[i], z)).map Em.d) :: J1)[(A ++ Ob.lst (acc.map Em.d) :: J).length]? = some (.lst ((signs.map fun z => (xs[i], z)).map Em.d)) := at_new
    have k3 : ((A ++ Ob.lst (acc.map Em.d) :: J) ++ Ob.lst ((signs.map fun z => (xs[i], z)).map Em.d) :: J1).set A.length (.lst (acc.map Em.d ++ (signs.map fun z => (xs[i], z)).map Em.d)) = A ++ Ob.lst ((acc ++ signs.map fun z => (xs[i], z)).map Em.d) :: (J ++ Ob.lst ((signs.map fun z => (xs[i], z)).map Em.d) :: J1) := by simp
    obtain ⟨J', a4', e2⟩ := ih (i + 1) (acc ++ signs.map fun z => (xs[i], z)) (J ++ Ob.lst ((signs.map fun z => (xs[i], z)).map Em.d) :: J1) (some (.str xs[i])) (by omega) (by simp [signs]; omega)
    refine ⟨J', a4', ?_⟩
    have b1 : extE [g, some (.ref sp), v2, some (.ref A.length), some (.str xs[i]), a5, a6, a7, a8, a9] (A ++ Ob.lst (acc.map Em.d) :: J) = some (.nx, [g, some (.ref sp), v2, some (.ref A.length), some (.str xs[i]), a5, a6, a7, a8, a9], A ++ Ob.lst ((acc ++ signs.map fun z => (xs[i], z)).map Em.d) :: (J ++ Ob.lst ((signs.map fun z => (xs[i], z)).map Em.d) :: J1)) := by
      have v : mVar 3 [g, some (.ref sp), v2, some (.ref A.length), some (.str xs[i]), a5, a6, a7, a8, a9] (A ++ Ob.lst (acc.map Em.d) :: J) = some (.ref A.length, A ++ Ob.lst (acc.map Em.d) :: J) := rfl
      have d1 : dIs "list" (.ref A.length) (A ++ Ob.lst (acc.map Em.d) :: J) = true := by simp [dIs]
      have z1 : (acc.map (Em.d (α := Str × Str))).length + ((signs.map fun z => (xs[i], z)).map (Em.d (α := Str × Str))).length ≤ sizeLine := by
        have := s1000
        simp [signs]
        omega
      have x1 : gExtend (.ref A.length) [.ref (A ++ Ob.lst (acc.map Em.d) :: J).length] ((A ++ Ob.lst (acc.map Em.d) :: J) ++ Ob.lst ((signs.map fun z => (xs[i], z)).map Em.d) :: J1) = some (.non, A ++ Ob.lst ((acc ++ signs.map fun z => (xs[i], z)).map Em.d) :: (J ++ Ob.lst ((signs.map fun z => (xs[i], z)).map Em.d) :: J1)) := by
        simp only [gExtend, k1, k2, z1, if_true, k3]
      have c1 : mCons signE (mNil) [g, some (.ref sp), v2, some (.ref A.length), some (.str xs[i]), a5, a6, a7, a8, a9] (A ++ Ob.lst (acc.map Em.d) :: J) = some ([.ref (A ++ Ob.lst (acc.map Em.d) :: J).length], (A ++ Ob.lst (acc.map Em.d) :: J) ++ Ob.lst ((signs.map fun z => (xs[i], z)).map Em.d) :: J1) := by
        rw [mCons, e1]
        rfl
      rw [extE, mDrop, mMt, v, Option.bind_some]
      dsimp only
      rw [if_pos d1, c1, Option.bind_some]
      dsimp only
      rw [x1]
      rfl
    have g1 : gN 4 (.str xs[i]) [g, some (.ref sp), v2, some (.ref A.length), a4, a5, a6, a7, a8, a9] (A ++ Ob.lst (acc.map Em.d) :: J) = some ([g, some (.ref sp), v2, some (.ref A.length), some (.str xs[i]), a5, a6, a7, a8, a9], A ++ Ob.lst (acc.map Em.d) :: J) := rfl
    unfold mForL
    rw [hn]
    simp only [Option.bind_some]
    rw [g1]
    simp only [Option.bind_some]
    rw [b1]
    simp only [Option.bind_some]
    have h2 : duosOf (xs[i] :: xs.drop (i + 1)) = (signs.map fun z => (xs[i], z)) ++ duosOf (xs.drop (i + 1)) := by rw [duosOf, List.flatMap_cons]; rfl
    rw [e2, h1, h2, List.append_assoc]
end K53
end

section
set_option Elab.async false
set_option linter.all false
set_option maxRecDepth 100000
set_option maxHeartbeats 4000000
namespace K53
open PySem PySem.Spec PyProof.Rows L2 PL PySem.W TB
section
variable {α : Type} [DecidableEq α] [DatumOrd α] [Em α] [Fit α] [Hd α]
/-- each thing with its call -/
theorem calls_list {xs : List α} {f : α → Option α} {i n z : Nat} {cl : ME} {env : PL.Env} {S : Sto} (hi : env[i]? = some (some (.ref n))) (hn : S[n]? = some (.lst (xs.map Em.d))) (hl : xs.length < 900) (hz : z < env.length)
    (hc : ∀ x ∈ xs, ∀ T, S <+: T → ∃ J, cl ((wipeE env [z]).set z (some (Em.d x))) T = some (oD (f x), T ++ J)) :
    ∃ J, mLc (mItr (mVar i)) (gN z) (mYes) (mTup (mCons (mVar z) (mCons cl (mNil)))) [z] env S = some (.ref S.length, S ++ Ob.lst (xs.map (clD f)) :: J) := by
  have dinj : ∀ a b : α, Em.d a = Em.d b → a = b := fun a b h => by
    have p1 := Em.py a
    have p2 := Em.py b
    rw [h] at p1
    have p3 : Datum.toD a = Datum.toD b := Option.some.inj (p1.symm.trans p2)
    have p4 := Datum.eqv a b
    rw [p3, Datum.eqv] at p4
    simpa using p4.symm
  classical
  let out : D → Option D := fun y => if h : ∃ x : α, y = Em.d x then some (clD f h.choose) else none
  have ho : ∀ x : α, out (Em.d x) = some (clD f x) := fun x => by
    have h : ∃ x' : α, Em.d x = Em.d x' := ⟨x, rfl⟩
    have e := dinj _ _ h.choose_spec
    simp only [out, dif_pos h]
    rw [← e]
  obtain ⟨J, h⟩ := lcE (g := gN z) (t := mYes) (e := mTup (mCons (mVar z) (mCons cl (mNil)))) (vs := [z]) out (itL hi (seq_at hn)) (nL (seq_at hn)) (by simpa using (by omega : xs.length < 1000)) (fun y hy T hT => by
    obtain ⟨x, hx, rfl⟩ := List.mem_map.mp hy
    obtain ⟨J, e⟩ := hc x hx T hT
    rw [ho x]
    refine ⟨(wipeE env [z]).set z (some (Em.d x)), J, rfl, rfl, ?_⟩
    have v : mVar z ((wipeE env [z]).set z (some (Em.d x))) T = some (Em.d x, T) := mv (by
      rw [List.getElem?_set_self]
      rw [wipeE_len]
      exact hz) T
    rw [mTup, mCons, v, Option.bind_some]
    dsimp only
    rw [mCons, e]
    rfl)
  refine ⟨J, ?_⟩
  have e : (xs.map Em.d).filterMap out = xs.map (clD f) := by
    clear hn hl hc h
    induction xs with
    | nil => rfl
    | cons x xs ih => rw [List.map_cons, List.filterMap_cons_some (ho x), ih, List.map_cons]
  rw [e] at h
  exact h
theorem emD_inj {a b : α} (h : (Em.d a : D) = Em.d b) : a = b := by
  have p1 := Em.py a
  have p2 := Em.py b
  rw [h] at p1
  have p3 : Datum.toD a = Datum.toD b := Option.some.inj (p1.symm.trans p2)
  have p4 := Datum.eqv a b
  rw [p3, Datum.eqv] at p4
  simpa using p4.symm
/-- the rows of the backs: a call, its thing -/
def bks (f : α → Option α) (xs : List α) : Rows α := xs.filterMap fun x => (f x).map fun c => (c, x)
theorem backs_list {xs : List α} {f : α → Option α} {i n z : Nat} {cl : ME} {env : PL.Env} {S : Sto} (hi : env[i]? = some (some (.ref n))) (hn : S[n]? = some (.lst (xs.map (clD f)))) (hl : xs.length < 900) (hz : 8 < env.length) (h8 : z ≠ 8)
    (hc : ∀ x ∈ xs, ∀ c, f x = some c → ∀ T, S <+: T → ∃ J, cl (((wipeE env [z, 8]).set z (some (Em.d x))).set 8 (some (Em.d c))) T = some (Em.d x, T ++ J)) :
    ∃ J, mLc (mItr (mVar i)) (gT 2 (gsC (gN z) (gsC (gN 8) (gsN)))) (asB (mBin dIsNotO (mVar 8) (mC .non))) (mTup (mCons (mVar 8) (mCons cl (mNil)))) [z, 8] env S = some (.ref S.length, S ++ Ob.lst ((bks f xs).map Em.d) :: J) := by
  classical
  let out : D → Option D := fun y => if h : ∃ x : α, y = clD f x then (f h.choose).map (fun c => .tup [Em.d c, Em.d h.choose]) else none
  have ho : ∀ x : α, out (clD f x) = (f x).map (fun c => D.tup [Em.d c, Em.d x]) := fun x => by
    have h : ∃ x' : α, clD f x = clD f x' := ⟨x, rfl⟩
    have e : x = h.choose := by
      exact emD_inj (List.cons.inj (D.tup.inj h.choose_spec)).1
    simp only [out, dif_pos h]
    rw [← e]
  obtain ⟨J, h⟩ := lcE (g := gT 2 (gsC (gN z) (gsC (gN 8) (gsN)))) (t := asB (mBin dIsNotO (mVar 8) (mC .non))) (e := mTup (mCons (mVar 8) (mCons cl (mNil)))) (vs := [z, 8]) out (itL hi (seq_at hn)) (nL (seq_at hn)) (by simpa using (by omega : xs.length < 1000)) (fun y hy T hT => by
    obtain ⟨x, hx, rfl⟩ := List.mem_map.mp hy
    rw [ho x]
    have v : ∀ d T', mVar 8 (((wipeE env [z, 8]).set z (some (Em.d x))).set 8 (some d)) T' = some (d, T') := fun d T' => mv (by
      rw [List.getElem?_set_self]
      rw [List.length_set, wipeE_len]
      exact hz) T'
    cases hf : f x with
    | none =>
      have g1 : gT 2 (gsC (gN z) (gsC (gN 8) (gsN))) (clD f x) (wipeE env [z, 8]) T = some (((wipeE env [z, 8]).set z (some (Em.d x))).set 8 (some .non), T) := by
        show gT 2 (gsC (gN z) (gsC (gN 8) (gsN))) (.tup [Em.d x, oD (f x)]) _ T = _
        rw [hf]
        rfl
      refine ⟨_, g1, ?_⟩
      rw [asB, mBin, v, Option.bind_some]
      rfl
    | some c =>
      have g1 : gT 2 (gsC (gN z) (gsC (gN 8) (gsN))) (clD f x) (wipeE env [z, 8]) T = some (((wipeE env [z, 8]).set z (some (Em.d x))).set 8 (some (Em.d c)), T) := by
        show gT 2 (gsC (gN z) (gsC (gN 8) (gsN))) (.tup [Em.d x, oD (f x)]) _ T = _
        rw [hf]
        rfl
      obtain ⟨J, e⟩ := hc x hx c hf T hT
      refine ⟨_, J, g1, ?_, ?_⟩
      · have q : dIsNotO (Em.d c) .non T = some (.bl true, T) := by
          rcases Hd.kind c with ⟨y, hy, _⟩ | ⟨ys, hy⟩ <;> rw [hy] <;> rfl
        rw [asB, mBin, v, Option.bind_some]
        show (dIsNotO (Em.d c) .non T).bind _ = _
        rw [q]
        rfl
      · rw [mTup, mCons, v, Option.bind_some]
        dsimp only
        rw [mCons, e]
        rfl)
  refine ⟨J, ?_⟩
  have e : (xs.map (clD f)).filterMap out = (bks f xs).map Em.d := by
    clear hn hl hc h
    induction xs with
    | nil => rfl
    | cons x xs ih =>
      cases hf : f x with
      | none =>
        have q : out (clD f x) = none := by rw [ho, hf]; rfl
        have r : bks f (x :: xs) = bks f xs := by simp [bks, hf]
        rw [List.map_cons, List.filterMap_cons_none q, ih, r]
      | some c =>
        have q : out (clD f x) = some (.tup [Em.d c, Em.d x]) := by rw [ho, hf]; rfl
        have r : bks f (x :: xs) = (c, x) :: bks f xs := by simp [bks, hf]
        rw [List.map_cons, List.filterMap_cons_some q, ih, r]
        rfl
  rw [e] at h
  exact h
end
end K53
end

section
set_option Elab.async false
set_option linter.all false
set_option maxRecDepth 100000
set_option maxHeartbeats 4000000
namespace K53
open PySem PySem.Spec PyProof.Rows L2 PL PySem.W TB
section
variable {α : Type} [DecidableEq α] [DatumOrd α] [Em α] [Fit α] [Hd α] [Hd2 α] [Rp α] [Hd3 α]
theorem bks_mem {f : α → Option α} {xs : List α} {x c : α} (h : x ∈ xs) (e : f x = some c) : (c, x) ∈ bks f xs :=
  List.mem_filterMap.mpr ⟨x, h, by rw [e]; rfl⟩
theorem bks_of {f : α → Option α} {xs : List α} {p : α × α} (h : p ∈ bks f xs) : p.2 ∈ xs ∧ f p.2 = some p.1 := by
  obtain ⟨x, hx, e⟩ := List.mem_filterMap.mp h
  cases hf : f x with
  | none => rw [hf] at e; cases e
  | some c =>
    rw [hf] at e
    cases e
    exact ⟨hx, hf⟩
theorem bks_len (f : α → Option α) (xs : List α) : (bks f xs).length ≤ xs.length := List.length_filterMap_le _ _
theorem bks_nd {f : α → Option α} : ∀ {xs : List α}, xs.Nodup → (∀ x ∈ xs, ∀ y ∈ xs, ∀ c, f x = some c → f y = some c → x = y) → (firsts (bks f xs)).Nodup
  | [], _, _ => List.nodup_nil
  | x :: xs, nd, inj => by
    have nd' := List.nodup_cons.mp nd
    have ih := bks_nd nd'.2 fun a ha b hb => inj a (.tail _ ha) b (.tail _ hb)
    cases hf : f x with
    | none =>
      have r : bks f (x :: xs) = bks f xs := by simp [bks, hf]
      rw [r]
      exact ih
    | some c =>
      have r : bks f (x :: xs) = (c, x) :: bks f xs := by simp [bks, hf]
      rw [r]
      refine List.nodup_cons.mpr ⟨fun h => ?_, ih⟩
      obtain ⟨p, hp, e⟩ := List.mem_map.mp h
      obtain ⟨h1, h2⟩ := bks_of hp
      rw [show p.1 = c from e] at h2
      have := inj x (.head _) p.2 (.tail _ h1) c hf h2
      exact nd'.1 (this ▸ h1)
/-- where nothing has a call -/
theorem oto_void {xs : List α} {f : α → Option α} (hv : ∀ x ∈ xs, f x = none) {c b : Nat} {S : Sto} (hc : S[c]? = some (.lst (xs.map (clD f)))) (hbS : S[b]? = some (.dK [])) (C : Nat → MF) : m15 C [.ref c, .ref b] S = some (.bl true, S ++ [.dK []]) := by
  have lp : ∀ (t i : Nat) (a3 a4 : Option D), xs.length = i + t → ∃ a3' a4', mForL (nxL c) (gT 2 (gsC (gN 3) (gsC (gN 4) (gsN)))) otoE (t + 1) i [some (.ref c), some (.ref b), some (.ref S.length), a3, a4] (S ++ [.dK []]) = some (.nx, [some (.ref c), some (.ref b), some (.ref S.length), a3', a4'], S ++ [.dK []]) := by
    intro t
    induction t with
    | zero =>
      intro i a3 a4 hi
      refine ⟨a3, a4, ?_⟩
      have hn : nxL c i (S ++ [.dK []]) = some none := by
        rw [nL (seq_at hc) i _ pre_app, List.getElem?_eq_none_iff.mpr (by simp; omega)]
      unfold mForL
      rw [hn]
      rfl
    | succ t ih =>
      intro i a3 a4 hi
      have hx' : i < xs.length := by omega
      have hn : nxL c i (S ++ [.dK []]) = some (some (clD f xs[i])) := by
        rw [nL (seq_at hc) i _ pre_app, List.getElem?_map, List.getElem?_eq_getElem hx']
        rfl
      have hf : f xs[i] = none := hv _ (List.getElem_mem hx')
      have g1 : gT 2 (gsC (gN 3) (gsC (gN 4) (gsN))) (clD f xs[i]) [some (.ref c), some (.ref b), some (.ref S.length), a3, a4] (S ++ [.dK []]) = some ([some (.ref c), some (.ref b), some (.ref S.length), some (Em.d xs[i]), some (oD (f xs[i]))], S ++ [.dK []]) := rfl
      rw [hf] at g1
      obtain ⟨a3', a4', e⟩ := ih (i + 1) (some (Em.d xs[i])) (some .non) (by omega)
      refine ⟨a3', a4', ?_⟩
      unfold mForL
      rw [hn]
      simp only [Option.bind_some]
      rw [g1]
      simp only [Option.bind_some]
      have s1 : otoE [some (.ref c), some (.ref b), some (.ref S.length), some (Em.d xs[i]), some (oD (none : Option α))] (S ++ [.dK []]) = some (.ct, [some (.ref c), some (.ref b), some (.ref S.length), some (Em.d xs[i]), some (oD (none : Option α))], S ++ [.dK []]) := by
        unfold otoE
        unfold mSeq
        rw [if_yes (S' := S ++ [.dK []]) rfl]
        rfl
      rw [s1]
      simp only [Option.bind_some]
      exact e
  obtain ⟨a3, a4, e⟩ := lp xs.length 0 none none (by omega)
  have st : startE 5 [.ref c, .ref b] = [some (.ref c), some (.ref b), none, none, none] := rfl
  unfold m15
  have P1 : mAsg (mSel (selT 1) (mEmptyT) (mEmpty)) (gN 2) (startE 5 [.ref c, .ref b]) S = some (.nx, [some (.ref c), some (.ref b), some (.ref S.length), none, none], S ++ [.dK []]) := by
    have s : selT 1 [some (.ref c), some (.ref b), none, none, none] S = false := by
      unfold selT
      rw [show ([some (.ref c), some (.ref b), none, none, none] : PL.Env)[1]? = some (some (.ref b)) from rfl]
      simp only [hbS]
    rw [mAsg, st]
    unfold mSel
    rw [s]
    rfl
  have P2 : mFor (mItr (mVar 0)) (gT 2 (gsC (gN 3) (gsC (gN 4) (gsN)))) otoE [some (.ref c), some (.ref b), some (.ref S.length), none, none] (S ++ [.dK []]) = some (.nx, [some (.ref c), some (.ref b), some (.ref S.length), a3, a4], S ++ [.dK []]) := by
    unfold mFor
    rw [itL (n := c) rfl (pre_seq pre_app (seq_at hc))]
    simp only [Option.bind_some, List.length_map]
    exact e
  exact body_rt ((seq_nx P1).trans ((seq_nx P2).trans rfl))
/-- the dict of backs, and that the calls are one to one by it -/
theorem dict_oto {xs : List α} {f : α → Option α} (nd : xs.Nodup) (inj : ∀ x ∈ xs, ∀ y ∈ xs, ∀ c, f x = some c → f y = some c → x = y) (okx : ∀ x ∈ xs, Fit.ok x) {c : Nat} {S : Sto} (hc : S[c]? = some (.lst (xs.map (clD f)))) (hl : xs.length < 900)
    {e : ME} {env : PL.Env} {J : Sto} (he : e env S = some (.ref S.length, S ++ Ob.lst ((bks f xs).map Em.d) :: J)) (C : Nat → MF) :
    ∃ b J2 J3, mBlt (gOr gDict gDictT) (mCons e mNil) env S = some (.ref b, S ++ J2) ∧ m15 C [.ref c, .ref b] (S ++ J2) = some (.bl true, S ++ J2 ++ J3) := by
  have hl2 := bks_len f xs
  by_cases h0 : bks f xs = []
  · rw [h0] at he
    have g : gOr gDict gDictT [.ref S.length] (S ++ Ob.lst [] :: J) = some (.ref (S ++ Ob.lst [] :: J).length, (S ++ Ob.lst [] :: J) ++ [.dK []]) := by
      have e1 : gDict [.ref S.length] (S ++ Ob.lst [] :: J) = some (.ref (S ++ Ob.lst [] :: J).length, (S ++ Ob.lst [] :: J) ++ [.dK []]) := by
        show (seqAt _ _).bind _ = _
        rw [seq_new]
        rfl
      show ((gDict [.ref S.length] (S ++ Ob.lst [] :: J)).orElse _) = _
      rw [e1]
      rfl
    refine ⟨(S ++ Ob.lst [] :: J).length, Ob.lst [] :: J ++ [.dK []], [.dK []], ?_, ?_⟩
    · rw [mBlt, mCons, he, Option.bind_some]
      show gOr gDict gDictT [.ref S.length] _ = _
      rw [show (([] : List (α × α)).map Em.d : List D) = [] from rfl, g]
      simp
    · have q := oto_void (b := (S ++ Ob.lst [] :: J).length) (S := S ++ (Ob.lst [] :: J ++ [.dK []])) (xs := xs) (f := f) (c := c) (fun x hx => by
        cases hf : f x with
        | none => rfl
        | some z =>
          have := bks_mem hx hf
          rw [h0] at this
          cases this) (pre_get pre_app hc) (by
        have : S ++ (Ob.lst [] :: J ++ [.dK []]) = (S ++ Ob.lst [] :: J) ++ [.dK []] := by simp
        rw [this]
        exact at_new (J := [])) C
      exact q
  · have g := Hd3.made (α := α) (S := S ++ Ob.lst ((bks f xs).map Em.d) :: J) (n := S.length) (bs := bks f xs) seq_new (bks_nd nd inj) (by omega) h0
    have e0 : S ++ (Ob.lst ((bks f xs).map Em.d) :: J ++ [Hd.ob (bks f xs)]) = (S ++ Ob.lst ((bks f xs).map Em.d) :: J) ++ [Hd.ob (bks f xs)] := by simp
    obtain ⟨J3, q⟩ := oto_ok (b := (S ++ Ob.lst ((bks f xs).map Em.d) :: J).length) (S := S ++ (Ob.lst ((bks f xs).map Em.d) :: J ++ [Hd.ob (bks f xs)])) nd inj okx (bks_nd nd inj) (fun x hx z hz => bks_mem hx hz) (pre_get pre_app hc) (by
      rw [e0]
      exact at_new (J := [])) hl C
    refine ⟨(S ++ Ob.lst ((bks f xs).map Em.d) :: J).length, Ob.lst ((bks f xs).map Em.d) :: J ++ [Hd.ob (bks f xs)], J3, ?_, q⟩
    rw [mBlt, mCons, he, Option.bind_some]
    show gOr gDict gDictT [.ref S.length] _ = _
    rw [g, e0]
end
end K53
end

section
set_option Elab.async false
set_option linter.all false
set_option maxRecDepth 100000
set_option maxHeartbeats 4000000
namespace K53
open PySem PySem.Spec PyProof.Rows L2 PL PySem.W TB
theorem wd_w : Wd (Str.ofString "w") := ⟨by decide +kernel, by decide +kernel, by decide +kernel, by decide +kernel, by decide +kernel⟩
theorem signs_wd : ∀ z ∈ signs, Wd z := fun z hz => by
  have h : z = Str.ofString "x" ∨ z = Str.ofString "y" ∨ z = Str.ofString "w" := by simpa [signs] using hz
  rcases h with rfl | rfl | rfl
  · exact wd_x
  · exact wd_y
  · exact wd_w
theorem signs_nd : signs.Nodup := by decide +kernel
theorem duos_wd {xs : List Str} (h : ∀ x ∈ xs, Wd x) : ∀ d ∈ duosOf xs, Wd d.1 ∧ Wd d.2 := fun d hd => by
  obtain ⟨s, hs, h2⟩ := List.mem_flatMap.mp hd
  obtain ⟨z, hz, rfl⟩ := List.mem_map.mp h2
  exact ⟨h s hs, signs_wd z hz⟩
theorem duos_nd {xs : List Str} (h : xs.Nodup) : (duosOf xs).Nodup := by
  induction xs with
  | nil => exact List.nodup_nil
  | cons x xs ih =>
    have nd := List.nodup_cons.mp h
    have e : duosOf (x :: xs) = (signs.map fun z => (x, z)) ++ duosOf xs := by rw [duosOf, List.flatMap_cons]; rfl
    rw [e]
    refine List.nodup_append.mpr ⟨nodup_map (fun a b q => (Prod.mk.inj q).2) signs_nd, ih nd.2, fun a ha b hb q => ?_⟩
    subst q
    obtain ⟨z, _, rfl⟩ := List.mem_map.mp ha
    obtain ⟨s, hs, h2⟩ := List.mem_flatMap.mp hb
    obtain ⟨z2, _, q⟩ := List.mem_map.mp h2
    exact nd.1 ((Prod.mk.inj q).1 ▸ hs)
theorem duos_len (xs : List Str) : (duosOf xs).length = 3 * xs.length := by
  induction xs with
  | nil => rfl
  | cons x xs ih =>
    have e : duosOf (x :: xs) = (signs.map fun z => (x, z)) ++ duosOf xs := by rw [duosOf, List.flatMap_cons]; rfl
    rw [e, List.length_append, ih]
    simp [signs]
    omega
abbrev callsE (i z m : Nat) (C : Nat → MF) : ME := mLc (mItr (mVar i)) (gN z) (mYes) (mTup (mCons (mVar z) (mCons (mCall 2 (C m) (mCons (mVar 0) (mCons (mVar z) (mNil)))) (mNil)))) [z]
abbrev backsE (z m : Nat) (C : Nat → MF) : ME := mLc (mItr (mVar 6)) (gT 2 (gsC (gN z) (gsC (gN 8) (gsN)))) (asB (mBin dIsNotO (mVar 8) (mC .non))) (mTup (mCons (mVar 8) (mCons (mCall 2 (C m) (mCons (mVar 2) (mCons (mVar 8) (mNil)))) (mNil)))) [z, 8]
theorem call2 {i k : Nat} {m : MF} {env : PL.Env} {x y r : D} {S S' : Sto} (h1 : env[i]? = some (some x)) (h2 : env[k]? = some (some y)) (h : m [x, y] S = some (r, S')) : mCall 2 m (mCons (mVar i) (mCons (mVar k) mNil)) env S = some (r, S') := by
  rw [mCall, mCons, mv h1, Option.bind_some]
  dsimp only
  rw [mCons, mv h2, Option.bind_some]
  exact h
theorem asg_ok {e : ME} {i : Nat} {env : PL.Env} {S S' : Sto} {d : D} (h : e env S = some (d, S')) : mAsg e (gN i) env S = some (.nx, env.set i (some d), S') := by
  rw [mAsg, h]
  rfl
section
variable {α : Type} [DecidableEq α] [DatumOrd α] [Em α] [Fit α] [Hd α] [Hd2 α] [Rp α] [Hd3 α]
/-- the things of a list with their calls, the dict of backs: one to one -/
theorem half_ok {xs : List α} {f : α → Option α} (nd : xs.Nodup) (inj : ∀ x ∈ xs, ∀ y ∈ xs, ∀ c, f x = some c → f y = some c → x = y) (okx : ∀ x ∈ xs, Fit.ok x) (hl : xs.length < 900) {i n z m : Nat} {g g' : D} {C : Nat → MF}
    {env : PL.Env} {S : Sto} (hi : env[i]? = some (some (.ref n))) (hn : S[n]? = some (.lst (xs.map Em.d))) (he : env.length = 10) (h0 : env[0]? = some (some g)) (h2 : env[2]? = some (some g')) (hz : z = 4 ∨ z = 9)
    (hc : ∀ x ∈ xs, ∀ T, ∃ J, C m [g, Em.d x] T = some (oD (f x), T ++ J)) (hb : ∀ x ∈ xs, ∀ c, f x = some c → ∀ T, ∃ J, C m [g', Em.d c] T = some (Em.d x, T ++ J)) (C' : Nat → MF) (h15 : C 15 = m15 C') :
    ∃ c b J J2 J3, mAsg (callsE i z m C) (gN 6) env S = some (.nx, env.set 6 (some (.ref c)), S ++ J) ∧
      mAsg (mBlt (gOr gDict gDictT) (mCons (backsE z m C) (mNil))) (gN 7) (env.set 6 (some (.ref c))) (S ++ J) = some (.nx, (env.set 6 (some (.ref c))).set 7 (some (.ref b)), S ++ J ++ J2) ∧
      mCall 2 (C 15) (mCons (mVar 6) (mCons (mVar 7) (mNil))) ((env.set 6 (some (.ref c))).set 7 (some (.ref b))) (S ++ J ++ J2) = some (.bl true, S ++ J ++ J2 ++ J3) := by
  have zl : z < env.length := by omega
  obtain ⟨J, e1⟩ := calls_list (f := f) (z := z) (cl := mCall 2 (C m) (mCons (mVar 0) (mCons (mVar z) (mNil)))) hi hn hl zl (fun x hx T _ => by
    obtain ⟨J, e⟩ := hc x hx T
    refine ⟨J, call2 ?_ ?_ e⟩
    · rw [List.getElem?_set_ne (by omega), wipeE]
      rw [List.getElem?_set_ne (by omega)]
      exact h0
    · rw [List.getElem?_set_self]
      rw [wipeE_len]
      exact zl)
  have hc6 : (S ++ Ob.lst (xs.map (clD f)) :: J)[S.length]? = some (.lst (xs.map (clD f))) := at_new
  obtain ⟨J1, e2⟩ := backs_list (f := f) (i := 6) (n := S.length) (z := z) (cl := mCall 2 (C m) (mCons (mVar 2) (mCons (mVar 8) (mNil)))) (env := env.set 6 (some (.ref S.length))) (S := S ++ Ob.lst (xs.map (clD f)) :: J) (by
    rw [List.getElem?_set_self]
    omega) hc6 hl (by rw [List.length_set]; omega) (by omega) (fun x hx c hcx T _ => by
    obtain ⟨J, e⟩ := hb x hx c hcx T
    refine ⟨J, call2 ?_ ?_ e⟩
    · rw [List.getElem?_set_ne (by omega), List.getElem?_set_ne (by omega), wipeE, List.getElem?_set_ne (by omega), wipeE, List.getElem?_set_ne (by omega)]
      rw [wipeE, List.getElem?_set_ne (by omega)]
      exact h2
    · rw [List.getElem?_set_self]
      rw [List.length_set, wipeE_len, List.length_set]
      omega)
  obtain ⟨b, J2, J3, e3, e4⟩ := dict_oto nd inj okx hc6 hl e2 C'
  refine ⟨S.length, b, Ob.lst (xs.map (clD f)) :: J, J2, J3, asg_ok e1, asg_ok e3, call2 (x := .ref S.length) (y := .ref b) ?_ ?_ ?_⟩
  · rw [List.getElem?_set_ne (by omega), List.getElem?_set_self]
    omega
  · rw [List.getElem?_set_self]
    rw [List.length_set]
    omega
  · rw [h15]
    exact e4
end
theorem both_ok {T : Rows Str} {U : Rows (Str × Str)} (h : Half T) (g : Half U) (hT : OkR T) (hU : OkR U) (hl : T.length < 60) (hl2 : U.length < 60) {xs : List Str} (nd : xs.Nodup) (ow : ∀ x ∈ xs, Wd x) (hx : xs.length < 20)
    (okT : OkR (turned T)) (okU : OkR (turned U)) (lT : (turned T).length < 60) (lU : (turned U).length < 60)
    (ocs : ∀ x ∈ xs, ∀ c, sc T x = some c → Wd c) (och : ∀ x ∈ duosOf xs, ∀ c, ch T U x = some c → Wd c.1 ∧ Wd c.2)
    {sp : Nat} {S : Sto} (hs : S[sp]? = some (.lst (xs.map D.str))) (j : Nat) : ∃ J, lv (j + 4) 16 [tb T U, .ref sp] S = some (.bl true, S ++ J) := by
  obtain ⟨J1, e1⟩ := tt_ok T U (by omega) (by omega) (j + 1) S
  have e1' : lv (j + 3) 8 [tb T U] S = _ := e1
  have P1 : mAsg (mTup (mCons (mCall 1 (lv (j + 3) 8) (mCons (mVar 0) (mNil))) (mCons (mLst (mNil)) (mNil)))) (gT 2 (gsC (gN 2) (gsC (gN 3) (gsN)))) (startE 10 [tb T U, .ref sp]) S = some (.nx, [some (tb T U), some (.ref sp), some (tb (turned T) (turned U)), some (.ref (S ++ J1).length), none, none, none, none, none, none], (S ++ J1) ++ Ob.lst (([] : List (Str × Str)).map Em.d) :: []) := by
    have a : mCall 1 (lv (j + 3) 8) (mCons (mVar 0) (mNil)) (startE 10 [tb T U, .ref sp]) S = some (tb (turned T) (turned U), S ++ J1) := e1'
    have b : mLst mNil (startE 10 [tb T U, .ref sp]) (S ++ J1) = some (.ref (S ++ J1).length, (S ++ J1) ++ [.lst []]) := rfl
    rw [mAsg, mTup, mCons, a, Option.bind_some]
    dsimp only
    rw [mCons, b]
    rfl
  have hs1 : (S ++ J1)[sp]? = some (.lst (xs.map D.str)) := pre_get pre_app hs
  obtain ⟨J2, a4, e2⟩ := ext_loop hs1 (by omega) (some (tb T U)) (some (tb (turned T) (turned U))) none none none none none xs.length 0 [] [] none (by omega) (by simp; omega)
  rw [List.drop_zero, List.nil_append] at e2
  have P2 : mFor (mItr (mVar 1)) (gN 4) extE [some (tb T U), some (.ref sp), some (tb (turned T) (turned U)), some (.ref (S ++ J1).length), none, none, none, none, none, none] ((S ++ J1) ++ Ob.lst (([] : List (Str × Str)).map Em.d) :: []) =
      some (.nx, [some (tb T U), some (.ref sp), some (tb (turned T) (turned U)), some (.ref (S ++ J1).length), a4, none, none, none, none, none], (S ++ J1) ++ Ob.lst ((duosOf xs).map Em.d) :: J2) := by
    unfold mFor
    rw [itL (n := sp) rfl (pre_seq pre_app (seq_at hs1))]
    simp only [Option.bind_some, List.length_map]
    exact e2
  have A1 : ((S ++ J1) ++ Ob.lst ((duosOf xs).map Em.d) :: J2)[sp]? = some (.lst (xs.map Em.d)) := pre_get pre_app hs1
  have A2 : ((S ++ J1) ++ Ob.lst ((duosOf xs).map Em.d) :: J2)[(S ++ J1).length]? = some (.lst ((duosOf xs).map Em.d)) := at_new
  obtain ⟨c, b, J3, J4, J5, P3, P4, P5⟩ := half_ok (xs := xs) (f := sc T) (i := 1) (n := sp) (z := 4) (m := 6) (g := tb T U) (g' := tb (turned T) (turned U)) (C := lv (j + 3)) (env := [some (tb T U), some (.ref sp), some (tb (turned T) (turned U)), some (.ref (S ++ J1).length), a4, none, none, none, none, none]) (S := (S ++ J1) ++ Ob.lst ((duosOf xs).map Em.d) :: J2)
    nd (fun x _ y _ z e e' => sc_inj h e e') ow (by omega) rfl A1 rfl rfl rfl (.inl rfl) (fun x hx T' => scene_ok hT (by omega) (ow x hx) (j + 1) T') (fun x hx z hz T' => by
      obtain ⟨J, e⟩ := scene_ok (U := turned U) okT (by omega) (ocs x hx z hz) (j + 1) T'
      rw [sc_back h hz] at e
      exact ⟨J, e⟩) (lv (j + 2)) rfl
  obtain ⟨c', b', J6, J7, J8, P6, P7, P8⟩ := half_ok (xs := duosOf xs) (f := ch T U) (i := 3) (n := (S ++ J1).length) (z := 9) (m := 7) (g := tb T U) (g' := tb (turned T) (turned U)) (C := lv (j + 3)) (env := ([some (tb T U), some (.ref sp), some (tb (turned T) (turned U)), some (.ref (S ++ J1).length), a4, none, some (.ref c), some (.ref b), none, none] : PL.Env)) (S := ((S ++ J1) ++ Ob.lst ((duosOf xs).map Em.d) :: J2) ++ J3 ++ J4 ++ J5)
    (duos_nd nd) (fun x _ y _ z e e' => ch_inj h g e e') (duos_wd ow) (by rw [duos_len]; omega) rfl (pre_get pre_app (pre_get pre_app (pre_get pre_app A2))) rfl rfl rfl (.inr rfl) (fun x hx T' => choice_ok hT hU (by omega) (by omega) (duos_wd ow x hx) j T') (fun x hx z hz T' => by
      obtain ⟨J, e⟩ := choice_ok okT okU (by omega) (by omega) (och x hx z hz) j T'
      rw [ch_back h g hz] at e
      exact ⟨J, e⟩) (lv (j + 2)) rfl
  have Q5 : mIfS (mNotT (mTru (mCall 2 (lv (j + 3) 15) (mCons (mVar 6) (mCons (mVar 7) (mNil)))))) (mRet (mC (.bl false))) (mNext) [some (tb T U), some (.ref sp), some (tb (turned T) (turned U)), some (.ref (S ++ J1).length), a4, none, some (.ref c), some (.ref b), none, none] (((S ++ J1) ++ Ob.lst ((duosOf xs).map Em.d) :: J2) ++ J3 ++ J4) = some (.nx, [some (tb T U), some (.ref sp), some (tb (turned T) (turned U)), some (.ref (S ++ J1).length), a4, none, some (.ref c), some (.ref b), none, none], (((S ++ J1) ++ Ob.lst ((duosOf xs).map Em.d) :: J2) ++ J3 ++ J4) ++ J5) := by
    rw [if_no (S' := (((S ++ J1) ++ Ob.lst ((duosOf xs).map Em.d) :: J2) ++ J3 ++ J4) ++ J5) (by
      rw [mNotT, mTru, show mCall 2 (lv (j + 3) 15) (mCons (mVar 6) (mCons (mVar 7) (mNil))) [some (tb T U), some (.ref sp), some (tb (turned T) (turned U)), some (.ref (S ++ J1).length), a4, none, some (.ref c), some (.ref b), none, none] _ = _ from P5]
      rfl)]
    rfl
  have Q8 : mRet (mCall 2 (lv (j + 3) 15) (mCons (mVar 6) (mCons (mVar 7) (mNil)))) [some (tb T U), some (.ref sp), some (tb (turned T) (turned U)), some (.ref (S ++ J1).length), a4, none, some (.ref c'), some (.ref b'), none, none] ((((S ++ J1) ++ Ob.lst ((duosOf xs).map Em.d) :: J2) ++ J3 ++ J4 ++ J5) ++ J6 ++ J7) = some (.rt (.bl true), [some (tb T U), some (.ref sp), some (tb (turned T) (turned U)), some (.ref (S ++ J1).length), a4, none, some (.ref c'), some (.ref b'), none, none], (((((S ++ J1) ++ Ob.lst ((duosOf xs).map Em.d) :: J2) ++ J3 ++ J4 ++ J5) ++ J6 ++ J7) ++ J8)) := by
    rw [mRet, show mCall 2 (lv (j + 3) 15) (mCons (mVar 6) (mCons (mVar 7) (mNil))) [some (tb T U), some (.ref sp), some (tb (turned T) (turned U)), some (.ref (S ++ J1).length), a4, none, some (.ref c'), some (.ref b'), none, none] _ = _ from P8]
    rfl
  refine ⟨J1 ++ (Ob.lst ((duosOf xs).map Em.d) :: J2) ++ J3 ++ J4 ++ J5 ++ J6 ++ J7 ++ J8, ?_⟩
  show m16 (lv (j + 3)) [tb T U, .ref sp] S = _
  unfold m16
  have R := (seq_nx P1).trans ((seq_nx P2).trans ((seq_nx P3).trans ((seq_nx P4).trans ((seq_nx Q5).trans ((seq_nx P6).trans ((seq_nx P7).trans Q8))))))
  have R2 := body_rt R
  simp only [List.append_assoc] at R2 ⊢
  exact R2
end K53
end

section
set_option Elab.async false
set_option linter.all false
set_option maxRecDepth 100000
set_option maxHeartbeats 4000000
namespace K53
open PySem PySem.Spec PyProof.Rows L2 PL PySem.W TB
theorem dNe_pair {d : Str × Str} (h : Wd d.1 ∧ Wd d.2) (S : Sto) : dNe (Em.d d) (Em.d d) S = some (.bl false, S) := by
  have l1 : SeqAt.shaped (Datum.toD d) = true := by
    have h3 := wd_lay h.1
    have h4 := wd_lay h.2
    show SeqAt.shaped (PyData.tuple [.str d.1, .str d.2]) = true
    simp only [PyData.canLay0] at h3 h4
    simp [SeqAt.shaped, PyData.canLay0, PyData.canLayAll0, h3, h4, PyData.depth, PyData.depthAll]
  have e1 : pyT S (Em.d d) = some (Datum.toD d) := Em.py d
  show ((sEq not (Em.d d) (Em.d d) S).orElse fun _ => deepB not (Em.d d) (Em.d d) S) = _
  have e3 : sEq not (Em.d d) (Em.d d) S = none := rfl
  rw [e3]
  show deepB not (Em.d d) (Em.d d) S = _
  unfold deepB
  rw [e1]
  simp only [Option.bind_some, l1, Bool.and_self, if_true, Datum.eqv]
  simp
section
variable {α : Type} [DecidableEq α] [DatumOrd α] [Em α] [Fit α] [Lin α]
theorem okR_turn {T : Rows α} (h : OkR T) : OkR (turned T) := fun p hp => by
  have h2 := h _ (mem_turned.mp (show (p.1, p.2) ∈ turned T from hp))
  exact ⟨h2.2, h2.1⟩
theorem len_turn (T : Rows α) : (turned T).length = T.length := by simp [turned]
end
/-- a table, whole -/
structure Good (T : Rows Str) (U : Rows (Str × Str)) : Prop where
  h : Half T
  g : Half U
  hT : OkR T
  hU : OkR U
  l : T.length < 60
  l2 : U.length < 60
theorem Good.turn {T : Rows Str} {U : Rows (Str × Str)} (G : Good T U) : Good (turned T) (turned U) :=
  ⟨G.h.turn, G.g.turn, okR_turn G.hT, okR_turn G.hU, by rw [len_turn]; exact G.l, by rw [len_turn]; exact G.l2⟩
theorem sc_wd {T : Rows Str} (h : Half T) (hT : OkR T) {x c : Str} (hx : Wd x) (e : sc T x = some c) : Wd c := by
  rcases cl_some h e with q | ⟨_, q, _⟩
  · exact (hT _ q).2
  · cases q
    exact hx
theorem ch_wd {T : Rows Str} {U : Rows (Str × Str)} (G : Good T U) {x c : Str × Str} (hx : Wd x.1 ∧ Wd x.2) (e : ch T U x = some c) : Wd c.1 ∧ Wd c.2 := by
  rcases cl_some G.g e with q | ⟨_, q, _⟩
  · exact (G.hU _ q).2
  · cases hs : sc T x.1 with
    | none => rw [hs] at q; cases q
    | some s =>
      rw [hs] at q
      cases q
      exact ⟨sc_wd G.h G.hT hx.1 hs, hx.2⟩
theorem both_good {T : Rows Str} {U : Rows (Str × Str)} (G : Good T U) {xs : List Str} (nd : xs.Nodup) (ow : ∀ x ∈ xs, Wd x) (hx : xs.length < 20) {sp : Nat} {S : Sto} (hs : S[sp]? = some (.lst (xs.map D.str))) (j : Nat) :
    ∃ J, lv (j + 4) 16 [tb T U, .ref sp] S = some (.bl true, S ++ J) :=
  both_ok G.h G.g G.hT G.hU G.l G.l2 nd ow hx G.turn.hT G.turn.hU G.turn.l G.turn.l2 (fun x hx c e => sc_wd G.h G.hT (ow x hx) e) (fun x hx c e => ch_wd G (duos_wd ow x hx) e) hs j
def spots : List Str := [Str.ofString "a", Str.ofString "b", Str.ofString "c", Str.ofString "dd", Str.ofString "q"]
theorem wd_a : Wd (Str.ofString "a") := ⟨by decide +kernel, by decide +kernel, by decide +kernel, by decide +kernel, by decide +kernel⟩
theorem wd_b : Wd (Str.ofString "b") := ⟨by decide +kernel, by decide +kernel, by decide +kernel, by decide +kernel, by decide +kernel⟩
theorem wd_c : Wd (Str.ofString "c") := ⟨by decide +kernel, by decide +kernel, by decide +kernel, by decide +kernel, by decide +kernel⟩
theorem wd_dd : Wd (Str.ofString "dd") := ⟨by decide +kernel, by decide +kernel, by decide +kernel, by decide +kernel, by decide +kernel⟩
theorem wd_q : Wd (Str.ofString "q") := ⟨by decide +kernel, by decide +kernel, by decide +kernel, by decide +kernel, by decide +kernel⟩
theorem spots_wd : ∀ x ∈ spots, Wd x := fun x hx => by
  have h : x = Str.ofString "a" ∨ x = Str.ofString "b" ∨ x = Str.ofString "c" ∨ x = Str.ofString "dd" ∨ x = Str.ofString "q" := by simpa [spots] using hx
  rcases h with rfl | rfl | rfl | rfl | rfl
  · exact wd_a
  · exact wd_b
  · exact wd_c
  · exact wd_dd
  · exact wd_q
theorem spots_nd : spots.Nodup := by decide +kernel
def T0 : Rows Str := [(Str.ofString "a", Str.ofString "b"), (Str.ofString "b", Str.ofString "c"), (Str.ofString "c", Str.ofString "a")]
def U0 : Rows (Str × Str) := [((Str.ofString "a", Str.ofString "x"), (Str.ofString "q", Str.ofString "y")), ((Str.ofString "q", Str.ofString "y"), (Str.ofString "a", Str.ofString "x"))]
theorem good0 : Good T0 U0 where
  h := ⟨by decide +kernel, by decide +kernel⟩
  g := ⟨by decide +kernel, by decide +kernel⟩
  hT p hp := by
    have h : p = (Str.ofString "a", Str.ofString "b") ∨ p = (Str.ofString "b", Str.ofString "c") ∨ p = (Str.ofString "c", Str.ofString "a") := by simpa [T0] using hp
    rcases h with rfl | rfl | rfl
    · exact ⟨wd_a, wd_b⟩
    · exact ⟨wd_b, wd_c⟩
    · exact ⟨wd_c, wd_a⟩
  hU p hp := by
    have h : p = ((Str.ofString "a", Str.ofString "x"), (Str.ofString "q", Str.ofString "y")) ∨ p = ((Str.ofString "q", Str.ofString "y"), (Str.ofString "a", Str.ofString "x")) := by simpa [U0] using hp
    rcases h with rfl | rfl
    · exact ⟨⟨wd_a, wd_x⟩, ⟨wd_q, wd_y⟩⟩
    · exact ⟨⟨wd_q, wd_y⟩, ⟨wd_a, wd_x⟩⟩
  l := by decide
  l2 := by decide
theorem good_void : Good [] [] where
  h := ⟨by decide +kernel, by decide +kernel⟩
  g := ⟨by decide +kernel, by decide +kernel⟩
  hT p hp := by cases hp
  hU p hp := by cases hp
  l := by decide
  l2 := by decide
abbrev cutE : ME := mSl slA (mVar 2) (mNo) (mPart (mBin dAdd (mC (.int 2)) (mBin dMod (mVar 3) (mC (.int 4)))))
abbrev argE : MA := mCons (mVar 1) (mCons cutE (mCons (mBin dAdd (mC (.int 2)) (mVar 3)) (mNil)))
theorem part_ok : ∀ i, i < 6 → ∀ (a4 a5 a6 : Option D) (S : Sto), mPart (mBin dAdd (mC (.int 2)) (mBin dMod (mVar 3) (mC (.int 4)))) [some (.ref 0), some (.ref 1), some (.ref 4), some (.int (i : Nat)), a4, a5, a6] S = some (some ((2 + i % 4 : Nat) : Int), S)
  | 0, _ => fun _ _ _ _ => rfl
  | 1, _ => fun _ _ _ _ => rfl
  | 2, _ => fun _ _ _ _ => rfl
  | 3, _ => fun _ _ _ _ => rfl
  | 4, _ => fun _ _ _ _ => rfl
  | 5, _ => fun _ _ _ _ => rfl
theorem size_ok : ∀ i, i < 6 → ∀ (a4 a5 a6 : Option D) (S : Sto), mBin dAdd (mC (.int 2)) (mVar 3) [some (.ref 0), some (.ref 1), some (.ref 4), some (.int (i : Nat)), a4, a5, a6] S = some (.int ((2 + i : Nat) : Int), S)
  | 0, _ => fun _ _ _ _ => rfl
  | 1, _ => fun _ _ _ _ => rfl
  | 2, _ => fun _ _ _ _ => rfl
  | 3, _ => fun _ _ _ _ => rfl
  | 4, _ => fun _ _ _ _ => rfl
  | 5, _ => fun _ _ _ _ => rfl
theorem cut_ok : ∀ i, i < 6 → PL.cutD (spots.map D.str) none (some ((2 + i % 4 : Nat) : Int)) = (spots.take (2 + i % 4)).map D.str
  | 0, _ => rfl
  | 1, _ => rfl
  | 2, _ => rfl
  | 3, _ => rfl
  | 4, _ => rfl
  | 5, _ => rfl
theorem args_ok {i : Nat} (hi : i < 6) (a4 a5 a6 : Option D) {S : Sto} (h4 : S[4]? = some (.lst (spots.map D.str))) : argE [some (.ref 0), some (.ref 1), some (.ref 4), some (.int (i : Nat)), a4, a5, a6] S = some ([.ref 1, .ref S.length, .int ((2 + i : Nat) : Int)], S ++ [.lst ((spots.take (2 + i % 4)).map D.str)]) := by
  have c1 : cutE [some (.ref 0), some (.ref 1), some (.ref 4), some (.int (i : Nat)), a4, a5, a6] S = some (.ref S.length, S ++ [.lst ((spots.take (2 + i % 4)).map D.str)]) := by
    have v : mVar 2 [some (.ref 0), some (.ref 1), some (.ref 4), some (.int (i : Nat)), a4, a5, a6] S = some (.ref 4, S) := rfl
    have n : mNo [some (.ref 0), some (.ref 1), some (.ref 4), some (.int (i : Nat)), a4, a5, a6] S = some (none, S) := rfl
    unfold cutE
    rw [mSl, v, Option.bind_some]
    dsimp only
    rw [n, Option.bind_some]
    dsimp only
    rw [part_ok i hi, Option.bind_some]
    show (seqAt 4 S).bind (fun xs => newL (PL.cutD xs none (some ((2 + i % 4 : Nat) : Int))) S) = _
    rw [seq_at h4, Option.bind_some, cut_ok i hi]
    rfl
  have v1 : mVar 1 [some (.ref 0), some (.ref 1), some (.ref 4), some (.int (i : Nat)), a4, a5, a6] S = some (.ref 1, S) := rfl
  unfold argE
  rw [mCons, v1, Option.bind_some]
  dsimp only
  rw [mCons, c1, Option.bind_some]
  dsimp only
  rw [mCons, size_ok i hi]
  rfl
end K53
end

section
set_option Elab.async false
set_option linter.all false
set_option maxRecDepth 100000
set_option maxHeartbeats 4000000
namespace K53
open PySem PySem.Spec PyProof.Rows L2 PL PySem.W TB
abbrev tab0E : ME := (mTup (mCons (mTup (mCons (mTup (mCons (mC (.str (Str.ofString "a"))) (mCons (mC (.str (Str.ofString "b"))) (mNil)))) (mCons (mTup (mCons (mC (.str (Str.ofString "b"))) (mCons (mC (.str (Str.ofString "c"))) (mNil)))) (mCons (mTup (mCons (mC (.str (Str.ofString "c"))) (mCons (mC (.str (Str.ofString "a"))) (mNil)))) (mNil))))) (mCons (mTup (mCons (mTup (mCons (mTup (mCons (mC (.str (Str.ofString "a"))) (mCons (mC (.str (Str.ofString "x"))) (mNil)))) (mCons (mTup (mCons (mC (.str (Str.ofString "q"))) (mCons (mC (.str (Str.ofString "y"))) (mNil)))) (mNil)))) (mCons (mTup (mCons (mTup (mCons (mC (.str (Str.ofString "q"))) (mCons (mC (.str (Str.ofString "y"))) (mNil)))) (mCons (mTup (mCons (mC (.str (Str.ofString "a"))) (mCons (mC (.str (Str.ofString "x"))) (mNil)))) (mNil)))) (mNil)))) (mNil))))
abbrev lapS (C : Nat → MF) : MS := (mSeq (mAsg (mCall 3 (C 14) (mCons (mVar 1) (mCons (mSl slA (mVar 2) (mNo) (mPart (mBin dAdd (mC (.int 2)) (mBin dMod (mVar 3) (mC (.int 4)))))) (mCons (mBin dAdd (mC (.int 2)) (mVar 3)) (mNil))))) (gN 4))
    (mSeq (mIfS (asB (mBin dEq (mVar 3) (mC (.int 0)))) (mAsg tab0E (gN 4)) (mNext))
    (mSeq (mAsg (mCall 1 (C 8) (mCons (mVar 4) (mNil))) (gN 5))
    (mSeq (mIfS (mOrT (asB (mBin dIsNotO (mCall 1 (C 4) (mCons (mVar 5) (mNil))) (mC (.bl true)))) (asB (mBin dNe (mBlt (gOr gRepr gReprS) (mCons (mCall 1 (C 8) (mCons (mVar 5) (mNil))) (mNil))) (mBlt (gOr gRepr gReprS) (mCons (mVar 4) (mNil)))))) (mRet (mC (.bl false))) (mNext))
    (mIfS (mOrT (mNotT (mTru (mCall 2 (C 16) (mCons (mVar 4) (mCons (mVar 2) (mNil)))))) (mNotT (mTru (mCall 2 (C 16) (mCons (mVar 5) (mCons (mVar 2) (mNil))))))) (mRet (mC (.bl false))) (mNext))))))

theorem tab0_ok (env : PL.Env) (S : Sto) : tab0E env S = some (tb T0 U0, S) := rfl
theorem eq0 : ∀ i, i < 6 → ∀ (a4 a5 a6 : Option D) (S : Sto), asB (mBin dEq (mVar 3) (mC (.int 0))) [some (.ref 0), some (.ref 1), some (.ref 4), some (.int (i : Nat)), a4, a5, a6] S = some (decide (i = 0), S)
  | 0, _ => fun _ _ _ _ => rfl
  | 1, _ => fun _ _ _ _ => rfl
  | 2, _ => fun _ _ _ _ => rfl
  | 3, _ => fun _ _ _ _ => rfl
  | 4, _ => fun _ _ _ _ => rfl
  | 5, _ => fun _ _ _ _ => rfl
theorem call1 {i : Nat} {m : MF} {env : PL.Env} {x r : D} {S S' : Sto} (h1 : env[i]? = some (some x)) (h : m [x] S = some (r, S')) : mCall 1 m (mCons (mVar i) mNil) env S = some (r, S') := by
  rw [mCall, mCons, mv h1, Option.bind_some]
  exact h
/-- what stands between the laps -/
structure Bt (ns : List Int) (k : Nat) (S : Sto) : Prop where
  fd : FeedAt ns k S
  sp : S[4]? = some (.lst (spots.map D.str))
theorem Bt.new {ns : List Int} {k : Nat} {S T : Sto} (h : Bt ns k S) : Bt ns k (S ++ T) := ⟨h.fd.new, pre_get pre_app h.sp⟩
theorem judge_ok {ns : List Int} {k : Nat} {S : Sto} {T : Rows Str} {U : Rows (Str × Str)} (G : Good T U) (B : Bt ns k S) (n : D) (a5 a6 : Option D) :
    ∃ S', Bt ns k S' ∧ mSeq (mAsg (mCall 1 (lv 19 8) (mCons (mVar 4) (mNil))) (gN 5)) (mSeq (mIfS (mOrT (asB (mBin dIsNotO (mCall 1 (lv 19 4) (mCons (mVar 5) (mNil))) (mC (.bl true)))) (asB (mBin dNe (mBlt (gOr gRepr gReprS) (mCons (mCall 1 (lv 19 8) (mCons (mVar 5) (mNil))) (mNil))) (mBlt (gOr gRepr gReprS) (mCons (mVar 4) (mNil)))))) (mRet (mC (.bl false))) (mNext))
      (mIfS (mOrT (mNotT (mTru (mCall 2 (lv 19 16) (mCons (mVar 4) (mCons (mVar 2) (mNil)))))) (mNotT (mTru (mCall 2 (lv 19 16) (mCons (mVar 5) (mCons (mVar 2) (mNil))))))) (mRet (mC (.bl false))) (mNext)))
      [some (.ref 0), some (.ref 1), some (.ref 4), some n, some (tb T U), a5, a6] S = some (.nx, [some (.ref 0), some (.ref 1), some (.ref 4), some n, some (tb T U), some (tb (turned T) (turned U)), a6], S') := by
  have l1 := G.l
  have l2 := G.l2
  have t1 := G.turn.l
  have t2 := G.turn.l2
  obtain ⟨J1, e1⟩ := tt_ok T U (by omega) (by omega) 17 S
  obtain ⟨J2, e2⟩ := is_table_ok G.turn.h G.turn.g G.turn.hT G.turn.hU t1 t2 15 (S ++ J1)
  obtain ⟨J3, e3⟩ := tt_ok (turned T) (turned U) (by omega) (by omega) 17 (S ++ J1 ++ J2)
  rw [G.h.back, G.g.back] at e3
  obtain ⟨r, hr⟩ := tb_rep G.hT G.hU l1 l2
  obtain ⟨J4, e4⟩ := both_good G spots_nd spots_wd (by decide) (pre_get pre_app (pre_get pre_app (pre_get pre_app B.sp))) 15 (S := S ++ J1 ++ J2 ++ J3)
  obtain ⟨J5, e5⟩ := both_good G.turn spots_nd spots_wd (by decide) (pre_get pre_app (pre_get pre_app (pre_get pre_app (pre_get pre_app B.sp)))) 15 (S := S ++ J1 ++ J2 ++ J3 ++ J4)
  refine ⟨S ++ J1 ++ J2 ++ J3 ++ J4 ++ J5, B.new.new.new.new.new, ?_⟩
  have P1 : mAsg (mCall 1 (lv 19 8) (mCons (mVar 4) (mNil))) (gN 5) [some (.ref 0), some (.ref 1), some (.ref 4), some n, some (tb T U), a5, a6] S = some (.nx, [some (.ref 0), some (.ref 1), some (.ref 4), some n, some (tb T U), some (tb (turned T) (turned U)), a6], S ++ J1) := asg_ok (call1 rfl e1)
  have c1 : asB (mBin dIsNotO (mCall 1 (lv 19 4) (mCons (mVar 5) (mNil))) (mC (.bl true))) [some (.ref 0), some (.ref 1), some (.ref 4), some n, some (tb T U), some (tb (turned T) (turned U)), a6] (S ++ J1) = some (false, S ++ J1 ++ J2) := by
    rw [asB, mBin, call1 (m := lv 19 4) (x := tb (turned T) (turned U)) rfl e2]
    rfl
  have c2 : asB (mBin dNe (mBlt (gOr gRepr gReprS) (mCons (mCall 1 (lv 19 8) (mCons (mVar 5) (mNil))) (mNil))) (mBlt (gOr gRepr gReprS) (mCons (mVar 4) (mNil)))) [some (.ref 0), some (.ref 1), some (.ref 4), some n, some (tb T U), some (tb (turned T) (turned U)), a6] (S ++ J1 ++ J2) = some (false, S ++ J1 ++ J2 ++ J3) := by
    have q2 : mBlt (gOr gRepr gReprS) (mCons (mCall 1 (lv 19 8) (mCons (mVar 5) (mNil))) (mNil)) [some (.ref 0), some (.ref 1), some (.ref 4), some n, some (tb T U), some (tb (turned T) (turned U)), a6] (S ++ J1 ++ J2) = some (.str r, S ++ J1 ++ J2 ++ J3) := by
      rw [mBlt, mCons, call1 (m := lv 19 8) (x := tb (turned T) (turned U)) rfl e3]
      exact hr _
    have q3 : mBlt (gOr gRepr gReprS) (mCons (mVar 4) (mNil)) [some (.ref 0), some (.ref 1), some (.ref 4), some n, some (tb T U), some (tb (turned T) (turned U)), a6] (S ++ J1 ++ J2 ++ J3) = some (.str r, S ++ J1 ++ J2 ++ J3) := hr _
    have q4 : dNe (.str r) (.str r) (S ++ J1 ++ J2 ++ J3) = some (.bl false, S ++ J1 ++ J2 ++ J3) := by
      show some (D.bl (!decide (r = r)), _) = _
      simp
    rw [asB, mBin, q2, Option.bind_some]
    dsimp only
    rw [q3, Option.bind_some]
    dsimp only
    rw [q4]
    rfl
  have c3 : mNotT (mTru (mCall 2 (lv 19 16) (mCons (mVar 4) (mCons (mVar 2) (mNil))))) [some (.ref 0), some (.ref 1), some (.ref 4), some n, some (tb T U), some (tb (turned T) (turned U)), a6] (S ++ J1 ++ J2 ++ J3) = some (false, S ++ J1 ++ J2 ++ J3 ++ J4) := by
    rw [mNotT, mTru, call2 (m := lv 19 16) (x := tb T U) (y := .ref 4) rfl rfl e4]
    rfl
  have c4 : mNotT (mTru (mCall 2 (lv 19 16) (mCons (mVar 5) (mCons (mVar 2) (mNil))))) [some (.ref 0), some (.ref 1), some (.ref 4), some n, some (tb T U), some (tb (turned T) (turned U)), a6] (S ++ J1 ++ J2 ++ J3 ++ J4) = some (false, S ++ J1 ++ J2 ++ J3 ++ J4 ++ J5) := by
    rw [mNotT, mTru, call2 (m := lv 19 16) (x := tb (turned T) (turned U)) (y := .ref 4) rfl rfl e5]
    rfl
  rw [seq_nx P1, seq_nx (by
    rw [if_no (S' := S ++ J1 ++ J2 ++ J3) (by
      rw [mOrT, c1, Option.bind_some]
      exact c2)]
    rfl), if_no (S' := S ++ J1 ++ J2 ++ J3 ++ J4 ++ J5) (by
      rw [mOrT, c3, Option.bind_some]
      exact c4)]
  rfl
theorem lapL_ok {ns : List Int} {k : Nat} {S : Sto} (B : Bt ns k S) (hk : k < 1000) (i : Nat) (hi : i < 6) (a4 a5 a6 : Option D) :
    ∃ a4' a5' S', lapS (lv 19) [some (.ref 0), some (.ref 1), some (.ref 4), some (.int (i : Nat)), a4, a5, a6] S = some (.nx, [some (.ref 0), some (.ref 1), some (.ref 4), some (.int (i : Nat)), a4', a5', a6], S') ∧ Bt ns (k + 60) S' := by
  have sl : 4 < S.length := (List.getElem?_eq_some_iff.mp B.sp).1
  have sn : (spots.take (2 + i % 4)).length = 2 + i % 4 := by
    rw [List.length_take]
    have : spots.length = 5 := rfl
    omega
  obtain ⟨T, U, S1, e1, h, g, hT, hU, l, l2, fd, go⟩ := wild_ok (ns := ns) (k := k) (w := S.length) (wl := spots.take (2 + i % 4)) (S := S ++ [.lst ((spots.take (2 + i % 4)).map D.str)]) B.fd.new (at_new (J := [])) (by omega) (by omega) (by omega) (fun x hx => spots_wd x (List.mem_of_mem_take hx)) (2 + i) (by omega) (by omega) 16
  have G : Good T U := ⟨h, g, hT, hU, by omega, by omega⟩
  have B1 : Bt ns (k + 60) S1 := ⟨fd.mono (by omega), go.keep 4 _ (by decide) (by simp) (pre_get pre_app B.sp)⟩
  have P1 : mAsg (mCall 3 (lv 19 14) argE) (gN 4) [some (.ref 0), some (.ref 1), some (.ref 4), some (.int (i : Nat)), a4, a5, a6] S = some (.nx, [some (.ref 0), some (.ref 1), some (.ref 4), some (.int (i : Nat)), some (tb T U), a5, a6], S1) := by
    refine asg_ok ?_
    rw [mCall, args_ok hi a4 a5 a6 B.sp, Option.bind_some]
    exact e1
  by_cases h0 : i = 0
  · obtain ⟨S', B', e⟩ := judge_ok good0 B1 (.int (i : Nat)) a5 a6
    refine ⟨some (tb T0 U0), some (tb (turned T0) (turned U0)), S', ?_, B'⟩
    rw [lapS, seq_nx P1, seq_nx (by
      rw [if_yes (S' := S1) (by rw [eq0 i hi]; simp [h0])]
      exact asg_ok (tab0_ok _ _))]
    exact e
  · obtain ⟨S', B', e⟩ := judge_ok G B1 (.int (i : Nat)) a5 a6
    refine ⟨some (tb T U), some (tb (turned T) (turned U)), S', ?_, B'⟩
    rw [lapS, seq_nx P1, seq_nx (by
      rw [if_no (S' := S1) (by rw [eq0 i hi]; simp [h0])]
      rfl)]
    exact e
theorem laps_all {ns : List Int} {C : Nat → MF} (lap : ∀ (k : Nat) (S : Sto), Bt ns k S → k < 1000 → ∀ i : Nat, i < 6 → ∀ a4 a5 a6 : Option D,
    ∃ a4' a5' S', lapS C [some (.ref 0), some (.ref 1), some (.ref 4), some (.int (i : Nat)), a4, a5, a6] S = some (.nx, [some (.ref 0), some (.ref 1), some (.ref 4), some (.int (i : Nat)), a4', a5', a6], S') ∧ Bt ns (k + 60) S') : ∀ (t i k : Nat) (a3 a4 a5 a6 : Option D) (S : Sto), 6 = i + t → k ≤ 60 * i → Bt ns k S →
    ∃ a3' a4' a5' S' k', mForL (nxR 0 6) (gN 3) (lapS C) (t + 1) i [some (.ref 0), some (.ref 1), some (.ref 4), a3, a4, a5, a6] S = some (.nx, [some (.ref 0), some (.ref 1), some (.ref 4), a3', a4', a5', a6], S') ∧ Bt ns k' S' := by
  generalize lapS C = X at lap ⊢
  intro t
  induction t with
  | zero =>
    intro i k a3 a4 a5 a6 S hi hk B
    refine ⟨a3, a4, a5, S, k, ?_, B⟩
    have hn : nxR 0 6 i S = some none := by
      unfold nxR
      rw [if_neg (by omega)]
    unfold mForL
    rw [hn]
    rfl
  | succ t ih =>
    intro i k a3 a4 a5 a6 S hi hk B
    have hn : nxR 0 6 i S = some (some (.int (i : Nat))) := by
      unfold nxR
      rw [if_pos (by omega), Int.zero_add]
    obtain ⟨a4', a5', S1, e1, B1⟩ := lap k S B (by omega) i (by omega) a4 a5 a6
    obtain ⟨a3'', a4'', a5'', S', k', e2, B2⟩ := ih (i + 1) (k + 60) (some (.int (i : Nat))) a4' a5' a6 S1 (by omega) (by omega) B1
    refine ⟨a3'', a4'', a5'', S', k', ?_, B2⟩
    have g1 : gN 3 (.int (i : Nat)) [some (.ref 0), some (.ref 1), some (.ref 4), a3, a4, a5, a6] S = some ([some (.ref 0), some (.ref 1), some (.ref 4), some (.int (i : Nat)), a4, a5, a6], S) := rfl
    unfold mForL
    rw [hn, Option.bind_some]
    dsimp only
    rw [g1, Option.bind_some]
    dsimp only
    rw [e1, Option.bind_some]
    exact e2
end K53
end

section
set_option Elab.async false
set_option linter.all false
set_option maxRecDepth 100000
set_option maxHeartbeats 4000000
namespace K53
open PySem PySem.Spec PyProof.Rows L2 PL PySem.W TB
theorem cut63 (ds : List D) (h : ds.length ≤ 63) : PL.cutD ds none (some 63) = ds := by
  have e : PL.cutD ds none (some ((63 : Nat) : Int)) = ds := by
    unfold PL.cutD
    rw [HT.sIx_none, HT.sIx_nat, List.drop_zero, Nat.sub_zero]
    exact List.take_of_length_le (by omega)
  exact e
theorem part63 (env : PL.Env) (S : Sto) : mPart (mC (.int 63)) env S = some (some 63, S) := rfl
theorem newL_ok {xs : List D} (S : Sto) : newL xs S = some (.ref S.length, S ++ [.lst xs]) := rfl
theorem feed_ok (j : Nat) (ns : List Int) (h : ns.length ≤ 63) : lv (j + 1) 11 [.ref 0] [.cst (ns.map D.int)] = some (.ref 1, F (.cst (ns.map D.int)) (.lst (ns.map D.int)) ns 0 0 0 []) := by
  have hc := cut63 (ns.map D.int) (by rw [List.length_map]; exact h)
  have c1 : mBlt gList (mCons (mSl slA (mVar 0) (mNo) (mPart (mC (.int 63)))) (mNil)) (startE 1 [.ref 0]) [.cst (ns.map D.int), .dK []] = some (.ref 3, [.cst (ns.map D.int), .dK [], .lst (ns.map D.int), .lst (ns.map D.int)]) := by
    have v : mVar 0 (startE 1 [.ref 0]) [.cst (ns.map D.int), .dK []] = some (.ref 0, [.cst (ns.map D.int), .dK []]) := rfl
    have s1 : mSl slA (mVar 0) (mNo) (mPart (mC (.int 63))) (startE 1 [.ref 0]) [.cst (ns.map D.int), .dK []] = some (.ref 2, [.cst (ns.map D.int), .dK [], .lst (ns.map D.int)]) := by
      have n : mNo (startE 1 [.ref 0]) [.cst (ns.map D.int), .dK []] = some (none, [.cst (ns.map D.int), .dK []]) := rfl
      rw [mSl, v, Option.bind_some]
      dsimp only
      rw [n, Option.bind_some]
      dsimp only
      rw [part63, Option.bind_some]
      show newL (PL.cutD (ns.map D.int) none (some 63)) [.cst (ns.map D.int), .dK []] = _
      rw [hc]
      rfl
    rw [mBlt, mCons, s1]
    rfl
  have p : mPairs [(mC (.str (Str.ofString "cells")), mBlt gList (mCons (mSl slA (mVar 0) (mNo) (mPart (mC (.int 63)))) (mNil))), (mC (.str (Str.ofString "next")), mC (.int 0)), (mC (.str (Str.ofString "left")), mC (.int 0)), (mC (.str (Str.ofString "draws")), mC (.int 0))] (startE 1 [.ref 0]) ([.cst (ns.map D.int)] ++ [.dK []]) =
      some ([(.str (Str.ofString "cells"), .ref 3), (.str (Str.ofString "next"), .int 0), (.str (Str.ofString "left"), .int 0), (.str (Str.ofString "draws"), .int 0)], [.cst (ns.map D.int), .dK [], .lst (ns.map D.int), .lst (ns.map D.int)]) := by
    have k : mC (.str (Str.ofString "cells")) (startE 1 [.ref 0]) ([.cst (ns.map D.int)] ++ [.dK []]) = some (.str (Str.ofString "cells"), [.cst (ns.map D.int), .dK []]) := rfl
    rw [mPairs, k, Option.bind_some]
    dsimp only
    rw [c1]
    rfl
  have m : mergeD [] [((.inr (Str.ofString "cells") : Key), D.ref 3), (.inr (Str.ofString "next"), .int 0), (.inr (Str.ofString "left"), .int 0), (.inr (Str.ofString "draws"), .int 0)] = [((.inr (Str.ofString "cells") : Key), D.ref 3), (.inr (Str.ofString "next"), .int 0), (.inr (Str.ofString "left"), .int 0), (.inr (Str.ofString "draws"), .int 0)] := by
    simp [mergeD, putD, n1, n2, n3, n4, n5, n6]
  show m11 (lv j) [.ref 0] [.cst (ns.map D.int)] = _
  unfold m11
  refine body_rt (e' := startE 1 [.ref 0]) ?_
  have d : mDisp [(mC (.str (Str.ofString "cells")), mBlt gList (mCons (mSl slA (mVar 0) (mNo) (mPart (mC (.int 63)))) (mNil))), (mC (.str (Str.ofString "next")), mC (.int 0)), (mC (.str (Str.ofString "left")), mC (.int 0)), (mC (.str (Str.ofString "draws")), mC (.int 0))] (startE 1 [.ref 0]) [.cst (ns.map D.int)] = some (.ref 1, F (.cst (ns.map D.int)) (.lst (ns.map D.int)) ns 0 0 0 []) := by
    rw [mDisp, p, Option.bind_some]
    show (keyPs [(.str (Str.ofString "cells"), .ref 3), (.str (Str.ofString "next"), .int 0), (.str (Str.ofString "left"), .int 0), (.str (Str.ofString "draws"), .int 0)]).bind _ = _
    rw [show keyPs [(.str (Str.ofString "cells"), .ref 3), (.str (Str.ofString "next"), .int 0), (.str (Str.ofString "left"), .int 0), (.str (Str.ofString "draws"), .int 0)] = some [((.inr (Str.ofString "cells") : Key), D.ref 3), (.inr (Str.ofString "next"), .int 0), (.inr (Str.ofString "left"), .int 0), (.inr (Str.ofString "draws"), .int 0)] from rfl, Option.bind_some, m]
    rfl
  rw [mRet, d]
  rfl
abbrev voidE : ME := mTup (mCons (mTup (mNil)) (mCons (mTup (mNil)) (mNil)))
abbrev endS (C : Nat → MF) : MS := (mIfS (mOrT (asB (mBin dNe (mCall 2 (C 6) (mCons (mTup (mCons (mTup (mNil)) (mCons (mTup (mNil)) (mNil)))) (mCons (mVar 6) (mNil)))) (mVar 6))) (asB (mBin dNe (mCall 2 (C 7) (mCons (mTup (mCons (mTup (mNil)) (mCons (mTup (mNil)) (mNil)))) (mCons (mTup (mCons (mVar 6) (mCons (mC (.str (Str.ofString "x"))) (mNil)))) (mNil)))) (mTup (mCons (mVar 6) (mCons (mC (.str (Str.ofString "x"))) (mNil))))))) (mRet (mC (.bl false))) (mNext))
theorem void_ok (env : PL.Env) (S : Sto) : voidE env S = some (tb [] [], S) := rfl
theorem sc_void (x : Str) : sc [] x = some x := rfl
theorem ch_void (x : Str × Str) : ch [] [] x = some x := rfl
theorem end_ok {x : Str} (hx : Wd x) (a0 a1 a2 a3 a4 a5 : Option D) (S : Sto) : ∃ J, endS (lv 19) [a0, a1, a2, a3, a4, a5, some (.str x)] S = some (.nx, [a0, a1, a2, a3, a4, a5, some (.str x)], S ++ J) := by
  obtain ⟨J1, e1⟩ := scene_ok (T := []) (U := []) (fun p h => by cases h) (by decide) hx 17 S
  rw [sc_void] at e1
  obtain ⟨J2, e2⟩ := choice_ok (T := []) (U := []) (fun p h => by cases h) (fun p h => by cases h) (by decide) (by decide) (x := (x, Str.ofString "x")) ⟨hx, wd_x⟩ 16 (S ++ J1)
  rw [ch_void] at e2
  refine ⟨J1 ++ J2, ?_⟩
  have v6 : ∀ T, mVar 6 [a0, a1, a2, a3, a4, a5, some (.str x)] T = some (.str x, T) := fun T => rfl
  have c1 : asB (mBin dNe (mCall 2 (lv 19 6) (mCons voidE (mCons (mVar 6) (mNil)))) (mVar 6)) [a0, a1, a2, a3, a4, a5, some (.str x)] S = some (false, S ++ J1) := by
    have q : mCall 2 (lv 19 6) (mCons voidE (mCons (mVar 6) (mNil))) [a0, a1, a2, a3, a4, a5, some (.str x)] S = some (.str x, S ++ J1) := e1
    have q4 : dNe (.str x) (.str x) (S ++ J1) = some (.bl false, S ++ J1) := by
      show some (D.bl (!decide (x = x)), _) = _
      simp
    rw [asB, mBin, q, Option.bind_some]
    dsimp only
    rw [v6, Option.bind_some]
    dsimp only
    rw [q4]
    rfl
  have c2 : asB (mBin dNe (mCall 2 (lv 19 7) (mCons voidE (mCons (mTup (mCons (mVar 6) (mCons (mC (.str (Str.ofString "x"))) (mNil)))) (mNil)))) (mTup (mCons (mVar 6) (mCons (mC (.str (Str.ofString "x"))) (mNil))))) [a0, a1, a2, a3, a4, a5, some (.str x)] (S ++ J1) = some (false, S ++ J1 ++ J2) := by
    have q : mCall 2 (lv 19 7) (mCons voidE (mCons (mTup (mCons (mVar 6) (mCons (mC (.str (Str.ofString "x"))) (mNil)))) (mNil))) [a0, a1, a2, a3, a4, a5, some (.str x)] (S ++ J1) = some (Em.d (x, Str.ofString "x"), S ++ J1 ++ J2) := e2
    have t : mTup (mCons (mVar 6) (mCons (mC (.str (Str.ofString "x"))) (mNil))) [a0, a1, a2, a3, a4, a5, some (.str x)] (S ++ J1 ++ J2) = some (Em.d (x, Str.ofString "x"), S ++ J1 ++ J2) := rfl
    rw [asB, mBin, q, Option.bind_some]
    dsimp only
    rw [t, Option.bind_some]
    dsimp only
    rw [dNe_pair (d := (x, Str.ofString "x")) ⟨hx, wd_x⟩]
    rfl
  rw [endS, if_no (S' := S ++ J1 ++ J2) (by
    rw [mOrT, c1, Option.bind_some]
    exact c2), ← List.append_assoc]
  rfl
theorem ends_all {A : Sto} {C : Nat → MF} (h4 : A[4]? = some (.lst (spots.map D.str))) (a0 a1 a2 a3 a4 a5 : Option D)
    (st : ∀ x : Str, Wd x → ∀ S : Sto, ∃ J, endS C [a0, a1, a2, a3, a4, a5, some (.str x)] S = some (.nx, [a0, a1, a2, a3, a4, a5, some (.str x)], S ++ J)) : ∀ (t i : Nat) (a6 : Option D) (J : Sto), 5 = i + t →
    ∃ a6' J', mForL (nxL 4) (gN 6) (endS C) (t + 1) i [a0, a1, a2, a3, a4, a5, a6] (A ++ J) = some (.nx, [a0, a1, a2, a3, a4, a5, a6'], A ++ J') := by
  generalize endS C = X at st ⊢
  intro t
  induction t with
  | zero =>
    intro i a6 J hi
    refine ⟨a6, J, ?_⟩
    have hn : nxL 4 i (A ++ J) = some none := by
      rw [nL (seq_at h4) i _ pre_app, List.getElem?_eq_none_iff.mpr (by
        have : spots.length = 5 := rfl
        simp
        omega)]
    unfold mForL
    rw [hn]
    rfl
  | succ t ih =>
    intro i a6 J hi
    have hl : i < spots.length := by
      have : spots.length = 5 := rfl
      omega
    have hn : nxL 4 i (A ++ J) = some (some (.str spots[i])) := by
      rw [nL (seq_at h4) i _ pre_app, List.getElem?_map, List.getElem?_eq_getElem hl]
      rfl
    obtain ⟨J1, e1⟩ := st _ (spots_wd _ (List.getElem_mem hl)) (A ++ J)
    rw [List.append_assoc] at e1
    obtain ⟨a6', J', e2⟩ := ih (i + 1) (some (.str spots[i])) (J ++ J1) (by omega)
    refine ⟨a6', J', ?_⟩
    have g1 : gN 6 (.str spots[i]) [a0, a1, a2, a3, a4, a5, a6] (A ++ J) = some ([a0, a1, a2, a3, a4, a5, some (.str spots[i])], A ++ J) := rfl
    unfold mForL
    rw [hn, Option.bind_some]
    dsimp only
    rw [g1, Option.bind_some]
    dsimp only
    rw [e1, Option.bind_some]
    exact e2
abbrev spotsE : ME := mLst (mCons (mC (.str (Str.ofString "a"))) (mCons (mC (.str (Str.ofString "b"))) (mCons (mC (.str (Str.ofString "c"))) (mCons (mC (.str (Str.ofString "dd"))) (mCons (mC (.str (Str.ofString "q"))) (mNil))))))
theorem r16 (env : PL.Env) (S : Sto) : mR1 (mCons (mC (.int 6)) (mNil)) env S = some ((6 + 1, nxR 0 6), S) := by
  simp only [mR1, mCons, mC, mNil, Option.bind_some, r1Of]
  rw [if_pos (by decide)]
  rfl
theorem dEq_void (S : Sto) : dEq (tb [] []) (tb [] []) S = some (.bl true, S) := by
  have e3 : sEq id (tb [] []) (tb [] []) S = none := rfl
  show ((sEq id (tb [] []) (tb [] []) S).orElse fun _ => deepB id (tb [] []) (tb [] []) S) = _
  rw [e3]
  show deepB id (tb [] []) (tb [] []) S = _
  unfold deepB
  rw [show pyT S (tb [] []) = some (.tuple [.tuple [], .tuple []]) from rfl]
  rfl
theorem m17_def (C : Nat → MF) : m17 C = mBody 7 (mSeq (mAsg (mCall 1 (C 11) (mCons (mVar 0) (mNil))) (gN 1)) (mSeq (mAsg spotsE (gN 2)) (mSeq (mFor (mR1 (mCons (mC (.int 6)) (mNil))) (gN 3) (lapS C)) (mSeq (mFor (mItr (mVar 2)) (gN 6) (endS C)) (mRet (mBin dEq (mCall 1 (C 8) (mCons voidE (mNil))) voidE)))))) := rfl
theorem hm : ∀ ns : List Int, ns.length ≤ 63 → ∃ S', lv 20 17 [.ref 0] [.cst (ns.map D.int)] = some (.bl true, S') := by
  intro ns hns
  have e0 := feed_ok 18 ns hns
  have P1 : mAsg (mCall 1 (lv 19 11) (mCons (mVar 0) (mNil))) (gN 1) (startE 7 [.ref 0]) [.cst (ns.map D.int)] = some (.nx, [some (.ref 0), some (.ref 1), none, none, none, none, none], F (.cst (ns.map D.int)) (.lst (ns.map D.int)) ns 0 0 0 []) := asg_ok (call1 rfl e0)
  have P2 : mAsg spotsE (gN 2) [some (.ref 0), some (.ref 1), none, none, none, none, none] (F (.cst (ns.map D.int)) (.lst (ns.map D.int)) ns 0 0 0 []) = some (.nx, [some (.ref 0), some (.ref 1), some (.ref 4), none, none, none, none], F (.cst (ns.map D.int)) (.lst (ns.map D.int)) ns 0 0 0 [.lst (spots.map D.str)]) := rfl
  have B0 : Bt ns 0 (F (.cst (ns.map D.int)) (.lst (ns.map D.int)) ns 0 0 0 [.lst (spots.map D.str)]) := ⟨⟨_, _, 0, 0, 0, _, rfl, Nat.le_refl _⟩, rfl⟩
  obtain ⟨a3, a4, a5, S1, k1, e1, B1⟩ := laps_all (C := lv 19) (fun k S B hk i hi a4 a5 a6 => lapL_ok B hk i hi a4 a5 a6) 6 0 0 none none none none _ rfl (Nat.le_refl _) B0
  have P3 : mFor (mR1 (mCons (mC (.int 6)) (mNil))) (gN 3) (lapS (lv 19)) [some (.ref 0), some (.ref 1), some (.ref 4), none, none, none, none] (F (.cst (ns.map D.int)) (.lst (ns.map D.int)) ns 0 0 0 [.lst (spots.map D.str)]) = some (.nx, [some (.ref 0), some (.ref 1), some (.ref 4), a3, a4, a5, none], S1) := by
    unfold mFor
    rw [r16, Option.bind_some]
    exact e1
  obtain ⟨a6, J2, e2⟩ := ends_all (C := lv 19) B1.sp (some (.ref 0)) (some (.ref 1)) (some (.ref 4)) a3 a4 a5 (fun x hx S => end_ok hx _ _ _ _ _ _ S) 5 0 none [] rfl
  have P4 : mFor (mItr (mVar 2)) (gN 6) (endS (lv 19)) [some (.ref 0), some (.ref 1), some (.ref 4), a3, a4, a5, none] S1 = some (.nx, [some (.ref 0), some (.ref 1), some (.ref 4), a3, a4, a5, a6], S1 ++ J2) := by
    unfold mFor
    rw [itL (n := 4) rfl (seq_at B1.sp)]
    simp only [Option.bind_some, List.length_map]
    rw [List.append_nil] at e2
    exact e2
  obtain ⟨J3, e3⟩ := tt_ok [] [] (by decide) (by decide) 17 (S1 ++ J2)
  have P5 : mRet (mBin dEq (mCall 1 (lv 19 8) (mCons voidE (mNil))) voidE) [some (.ref 0), some (.ref 1), some (.ref 4), a3, a4, a5, a6] (S1 ++ J2) = some (.rt (.bl true), [some (.ref 0), some (.ref 1), some (.ref 4), a3, a4, a5, a6], S1 ++ J2 ++ J3) := by
    have t1 : turned ([] : Rows Str) = [] := by simp [turned]
    have t2 : turned ([] : Rows (Str × Str)) = [] := by simp [turned]
    rw [t1, t2] at e3
    have q : mCall 1 (lv 19 8) (mCons voidE (mNil)) [some (.ref 0), some (.ref 1), some (.ref 4), a3, a4, a5, a6] (S1 ++ J2) = some (tb [] [], S1 ++ J2 ++ J3) := e3
    rw [mRet, mBin, q, Option.bind_some]
    dsimp only
    rw [void_ok, Option.bind_some]
    dsimp only
    rw [dEq_void]
    rfl
  refine ⟨S1 ++ J2 ++ J3, ?_⟩
  show m17 (lv 19) [.ref 0] [.cst (ns.map D.int)] = _
  rw [m17_def]
  exact body_rt ((seq_nx P1).trans ((seq_nx P2).trans ((seq_nx P3).trans ((seq_nx P4).trans P5))))
end K53
end

section
set_option Elab.async false
set_option linter.all false
set_option maxRecDepth 100000
set_option maxHeartbeats 0
namespace K53
open PySem PySem.Spec PyProof.Rows L2 PL
section
variable {w : World} {K : PySem.W.Frag} {h : Heap} {mg : Str → Option Value} {fa : Addr} {l : PySem.W.OpenLaw}
theorem fin_mk (X : K.In h) (G : h.Ns mainGlobals mg) (hfa : mg (Str.ofString "law") = some (.ref fa))
  {f0 : Addr} {od0 an0 : Option Addr} {sl0 : Array (Option Value)} {oc0 kV0 dc0 pm0 cd0 ct0 : Value}
  {f1 : Addr} {od1 an1 : Option Addr} {sl1 : Array (Option Value)} {oc1 kV1 dc1 pm1 cd1 ct1 : Value}
  {f2 : Addr} {od2 an2 : Option Addr} {sl2 : Array (Option Value)} {oc2 kV2 dc2 pm2 cd2 ct2 : Value}
  {f3 : Addr} {od3 an3 : Option Addr} {sl3 : Array (Option Value)} {oc3 kV3 dc3 pm3 cd3 ct3 : Value}
  {f4 : Addr} {od4 an4 : Option Addr} {sl4 : Array (Option Value)} {oc4 kV4 dc4 pm4 cd4 ct4 : Value}
  {f5 : Addr} {od5 an5 : Option Addr} {sl5 : Array (Option Value)} {oc5 kV5 dc5 pm5 cd5 ct5 : Value}
  {f6 : Addr} {od6 an6 : Option Addr} {sl6 : Array (Option Value)} {oc6 kV6 dc6 pm6 cd6 ct6 : Value}
  {f7 : Addr} {od7 an7 : Option Addr} {sl7 : Array (Option Value)} {oc7 kV7 dc7 pm7 cd7 ct7 : Value}
  {f8 : Addr} {od8 an8 : Option Addr} {sl8 : Array (Option Value)} {oc8 kV8 dc8 pm8 cd8 ct8 : Value}
  {f9 : Addr} {od9 an9 : Option Addr} {sl9 : Array (Option Value)} {oc9 kV9 dc9 pm9 cd9 ct9 : Value}
  {f10 : Addr} {od10 an10 : Option Addr} {sl10 : Array (Option Value)} {oc10 kV10 dc10 pm10 cd10 ct10 : Value}
  {f11 : Addr} {od11 an11 : Option Addr} {sl11 : Array (Option Value)} {oc11 kV11 dc11 pm11 cd11 ct11 : Value}
  {f12 : Addr} {od12 an12 : Option Addr} {sl12 : Array (Option Value)} {oc12 kV12 dc12 pm12 cd12 ct12 : Value}
  {f13 : Addr} {od13 an13 : Option Addr} {sl13 : Array (Option Value)} {oc13 kV13 dc13 pm13 cd13 ct13 : Value}
  {f14 : Addr} {od14 an14 : Option Addr} {sl14 : Array (Option Value)} {oc14 kV14 dc14 pm14 cd14 ct14 : Value}
  {f15 : Addr} {od15 an15 : Option Addr} {sl15 : Array (Option Value)} {oc15 kV15 dc15 pm15 cd15 ct15 : Value}
  {f16 : Addr} {od16 an16 : Option Addr} {sl16 : Array (Option Value)} {oc16 kV16 dc16 pm16 cd16 ct16 : Value}
  {f17 : Addr} {od17 an17 : Option Addr} {sl17 : Array (Option Value)} {oc17 kV17 dc17 pm17 cd17 ct17 : Value}
  (a0 : PySem.W.nsIn K mainGlobals (Str.ofString "rises") = some (some (.ref f0))) (l0 : K.lookup f0 = some ⟨oc0, od0, .func (PySem.W.fnOf (Str.ofString "rises") (Str.ofString "rises") (defArgs s0) (defBody s0) (defScope s0) .none kV0 dc0 pm0 an0 cd0 ct0), sl0⟩) (c0 : PySem.W.codeIn K cd0 (Str.ofString "rises") = true) (k0 : PySem.W.keepIn K (.ref f0) = true)
  (a1 : PySem.W.nsIn K mainGlobals (Str.ofString "unlike") = some (some (.ref f1))) (l1 : K.lookup f1 = some ⟨oc1, od1, .func (PySem.W.fnOf (Str.ofString "unlike") (Str.ofString "unlike") (defArgs s1) (defBody s1) (defScope s1) .none kV1 dc1 pm1 an1 cd1 ct1), sl1⟩) (c1 : PySem.W.codeIn K cd1 (Str.ofString "unlike") = true) (k1 : PySem.W.keepIn K (.ref f1) = true)
  (a2 : PySem.W.nsIn K mainGlobals (Str.ofString "is_word") = some (some (.ref f2))) (l2 : K.lookup f2 = some ⟨oc2, od2, .func (PySem.W.fnOf (Str.ofString "is_word") (Str.ofString "is_word") (defArgs s2) (defBody s2) (defScope s2) .none kV2 dc2 pm2 an2 cd2 ct2), sl2⟩) (c2 : PySem.W.codeIn K cd2 (Str.ofString "is_word") = true) (k2 : PySem.W.keepIn K (.ref f2) = true)
  (a3 : PySem.W.nsIn K mainGlobals (Str.ofString "is_word_pair") = some (some (.ref f3))) (l3 : K.lookup f3 = some ⟨oc3, od3, .func (PySem.W.fnOf (Str.ofString "is_word_pair") (Str.ofString "is_word_pair") (defArgs s3) (defBody s3) (defScope s3) .none kV3 dc3 pm3 an3 cd3 ct3), sl3⟩) (c3 : PySem.W.codeIn K cd3 (Str.ofString "is_word_pair") = true) (k3 : PySem.W.keepIn K (.ref f3) = true)
  (a4 : PySem.W.nsIn K mainGlobals (Str.ofString "is_table") = some (some (.ref f4))) (l4 : K.lookup f4 = some ⟨oc4, od4, .func (PySem.W.fnOf (Str.ofString "is_table") (Str.ofString "is_table") (defArgs s4) (defBody s4) (defScope s4) .none kV4 dc4 pm4 an4 cd4 ct4), sl4⟩) (c4 : PySem.W.codeIn K cd4 (Str.ofString "is_table") = true) (k4 : PySem.W.keepIn K (.ref f4) = true)
  (a5 : PySem.W.nsIn K mainGlobals (Str.ofString "is_calls") = some (some (.ref f5))) (l5 : K.lookup f5 = some ⟨oc5, od5, .func (PySem.W.fnOf (Str.ofString "is_calls") (Str.ofString "is_calls") (defArgs s5) (defBody s5) (defScope s5) .none kV5 dc5 pm5 an5 cd5 ct5), sl5⟩) (c5 : PySem.W.codeIn K cd5 (Str.ofString "is_calls") = true) (k5 : PySem.W.keepIn K (.ref f5) = true)
  (a6 : PySem.W.nsIn K mainGlobals (Str.ofString "scene_call") = some (some (.ref f6))) (l6 : K.lookup f6 = some ⟨oc6, od6, .func (PySem.W.fnOf (Str.ofString "scene_call") (Str.ofString "scene_call") (defArgs s6) (defBody s6) (defScope s6) .none kV6 dc6 pm6 an6 cd6 ct6), sl6⟩) (c6 : PySem.W.codeIn K cd6 (Str.ofString "scene_call") = true) (k6 : PySem.W.keepIn K (.ref f6) = true)
  (a7 : PySem.W.nsIn K mainGlobals (Str.ofString "choice_call") = some (some (.ref f7))) (l7 : K.lookup f7 = some ⟨oc7, od7, .func (PySem.W.fnOf (Str.ofString "choice_call") (Str.ofString "choice_call") (defArgs s7) (defBody s7) (defScope s7) .none kV7 dc7 pm7 an7 cd7 ct7), sl7⟩) (c7 : PySem.W.codeIn K cd7 (Str.ofString "choice_call") = true) (k7 : PySem.W.keepIn K (.ref f7) = true)
  (a8 : PySem.W.nsIn K mainGlobals (Str.ofString "table_turned") = some (some (.ref f8))) (l8 : K.lookup f8 = some ⟨oc8, od8, .func (PySem.W.fnOf (Str.ofString "table_turned") (Str.ofString "table_turned") (defArgs s8) (defBody s8) (defScope s8) .none kV8 dc8 pm8 an8 cd8 ct8), sl8⟩) (c8 : PySem.W.codeIn K cd8 (Str.ofString "table_turned") = true) (k8 : PySem.W.keepIn K (.ref f8) = true)
  (a9 : PySem.W.nsIn K mainGlobals (Str.ofString "_call") = some (some (.ref f9))) (l9 : K.lookup f9 = some ⟨oc9, od9, .func (PySem.W.fnOf (Str.ofString "_call") (Str.ofString "_call") (defArgs s9) (defBody s9) (defScope s9) .none kV9 dc9 pm9 an9 cd9 ct9), sl9⟩) (c9 : PySem.W.codeIn K cd9 (Str.ofString "_call") = true) (k9 : PySem.W.keepIn K (.ref f9) = true)
  (a10 : PySem.W.nsIn K mainGlobals (Str.ofString "_turned") = some (some (.ref f10))) (l10 : K.lookup f10 = some ⟨oc10, od10, .func (PySem.W.fnOf (Str.ofString "_turned") (Str.ofString "_turned") (defArgs s10) (defBody s10) (defScope s10) .none kV10 dc10 pm10 an10 cd10 ct10), sl10⟩) (c10 : PySem.W.codeIn K cd10 (Str.ofString "_turned") = true) (k10 : PySem.W.keepIn K (.ref f10) = true)
  (a11 : PySem.W.nsIn K mainGlobals (Str.ofString "_law_feed") = some (some (.ref f11))) (l11 : K.lookup f11 = some ⟨oc11, od11, .func (PySem.W.fnOf (Str.ofString "_law_feed") (Str.ofString "_law_feed") (defArgs s11) (defBody s11) (defScope s11) .none kV11 dc11 pm11 an11 cd11 ct11), sl11⟩) (c11 : PySem.W.codeIn K cd11 (Str.ofString "_law_feed") = true) (k11 : PySem.W.keepIn K (.ref f11) = true)
  (a12 : PySem.W.nsIn K mainGlobals (Str.ofString "_law_draw") = some (some (.ref f12))) (l12 : K.lookup f12 = some ⟨oc12, od12, .func (PySem.W.fnOf (Str.ofString "_law_draw") (Str.ofString "_law_draw") (defArgs s12) (defBody s12) (defScope s12) .none kV12 dc12 pm12 an12 cd12 ct12), sl12⟩) (c12 : PySem.W.codeIn K cd12 (Str.ofString "_law_draw") = true) (k12 : PySem.W.keepIn K (.ref f12) = true)
  (a13 : PySem.W.nsIn K mainGlobals (Str.ofString "_law_pick") = some (some (.ref f13))) (l13 : K.lookup f13 = some ⟨oc13, od13, .func (PySem.W.fnOf (Str.ofString "_law_pick") (Str.ofString "_law_pick") (defArgs s13) (defBody s13) (defScope s13) .none kV13 dc13 pm13 an13 cd13 ct13), sl13⟩) (c13 : PySem.W.codeIn K cd13 (Str.ofString "_law_pick") = true) (k13 : PySem.W.keepIn K (.ref f13) = true)
  (a14 : PySem.W.nsIn K mainGlobals (Str.ofString "_law_wild") = some (some (.ref f14))) (l14 : K.lookup f14 = some ⟨oc14, od14, .func (PySem.W.fnOf (Str.ofString "_law_wild") (Str.ofString "_law_wild") (defArgs s14) (defBody s14) (defScope s14) .none kV14 dc14 pm14 an14 cd14 ct14), sl14⟩) (c14 : PySem.W.codeIn K cd14 (Str.ofString "_law_wild") = true) (k14 : PySem.W.keepIn K (.ref f14) = true)
  (a15 : PySem.W.nsIn K mainGlobals (Str.ofString "_law_one_to_one") = some (some (.ref f15))) (l15 : K.lookup f15 = some ⟨oc15, od15, .func (PySem.W.fnOf (Str.ofString "_law_one_to_one") (Str.ofString "_law_one_to_one") (defArgs s15) (defBody s15) (defScope s15) .none kV15 dc15 pm15 an15 cd15 ct15), sl15⟩) (c15 : PySem.W.codeIn K cd15 (Str.ofString "_law_one_to_one") = true) (k15 : PySem.W.keepIn K (.ref f15) = true)
  (a16 : PySem.W.nsIn K mainGlobals (Str.ofString "_law_both_right") = some (some (.ref f16))) (l16 : K.lookup f16 = some ⟨oc16, od16, .func (PySem.W.fnOf (Str.ofString "_law_both_right") (Str.ofString "_law_both_right") (defArgs s16) (defBody s16) (defScope s16) .none kV16 dc16 pm16 an16 cd16 ct16), sl16⟩) (c16 : PySem.W.codeIn K cd16 (Str.ofString "_law_both_right") = true) (k16 : PySem.W.keepIn K (.ref f16) = true)
  (a17 : PySem.W.nsIn K mainGlobals (Str.ofString "law") = some (some (.ref f17))) (l17 : K.lookup f17 = some ⟨oc17, od17, .func (PySem.W.fnOf (Str.ofString "law") (Str.ofString "law") (defArgs s17) (defBody s17) (defScope s17) .none kV17 dc17 pm17 an17 cd17 ct17), sl17⟩) (c17 : PySem.W.codeIn K cd17 (Str.ofString "law") = true) (k17 : PySem.W.keepIn K (.ref f17) = true)
  (z_all : PySem.W.nsIn K mainGlobals (Str.ofString "all") = some none) (z_dict : PySem.W.nsIn K mainGlobals (Str.ofString "dict") = some none) (z_isinstance : PySem.W.nsIn K mainGlobals (Str.ofString "isinstance") = some none) (z_len : PySem.W.nsIn K mainGlobals (Str.ofString "len") = some none) (z_list : PySem.W.nsIn K mainGlobals (Str.ofString "list") = some none) (z_range : PySem.W.nsIn K mainGlobals (Str.ofString "range") = some none) (z_repr : PySem.W.nsIn K mainGlobals (Str.ofString "repr") = some none) (z_set : PySem.W.nsIn K mainGlobals (Str.ofString "set") = some none) (z_sorted : PySem.W.nsIn K mainGlobals (Str.ofString "sorted") = some none) (z_str : PySem.W.nsIn K mainGlobals (Str.ofString "str") = some none) (z_tuple : PySem.W.nsIn K mainGlobals (Str.ofString "tuple") = some none) (z_zip : PySem.W.nsIn K mainGlobals (Str.ofString "zip") = some none)  :
  ∃ fd : FuncData, Binds K fd (dP 17) [] ∧ ∀ base : Heap, K.In base → base.Ns mainGlobals mg → FnG l.prog w K mg base 20 fa fd (dP 17) (spM K mg (dN 17) (lv 20 17)) := by
  have e := hfa.symm.trans (PySem.W.mg_of X G a17)
  cases e
  have F0 := fun_mk (st := s0) l0 c0 k0
  have b0 := F0.binds (ps := P0) fun _ _ _ _ _ _ us hl => match us, hl with | [_], _ => rfl
  have F1 := fun_mk (st := s1) l1 c1 k1
  have b1 := F1.binds (ps := P1) fun _ _ _ _ _ _ us hl => match us, hl with | [_], _ => rfl
  have F2 := fun_mk (st := s2) l2 c2 k2
  have b2 := F2.binds (ps := P2) fun _ _ _ _ _ _ us hl => match us, hl with | [_], _ => rfl
  have F3 := fun_mk (st := s3) l3 c3 k3
  have b3 := F3.binds (ps := P3) fun _ _ _ _ _ _ us hl => match us, hl with | [_], _ => rfl
  have F4 := fun_mk (st := s4) l4 c4 k4
  have b4 := F4.binds (ps := P4) fun _ _ _ _ _ _ us hl => match us, hl with | [_], _ => rfl
  have F5 := fun_mk (st := s5) l5 c5 k5
  have b5 := F5.binds (ps := P5) fun _ _ _ _ _ _ us hl => match us, hl with | [_, _], _ => rfl
  have F6 := fun_mk (st := s6) l6 c6 k6
  have b6 := F6.binds (ps := P6) fun _ _ _ _ _ _ us hl => match us, hl with | [_, _], _ => rfl
  have F7 := fun_mk (st := s7) l7 c7 k7
  have b7 := F7.binds (ps := P7) fun _ _ _ _ _ _ us hl => match us, hl with | [_, _], _ => rfl
  have F8 := fun_mk (st := s8) l8 c8 k8
  have b8 := F8.binds (ps := P8) fun _ _ _ _ _ _ us hl => match us, hl with | [_], _ => rfl
  have F9 := fun_mk (st := s9) l9 c9 k9
  have b9 := F9.binds (ps := P9) fun _ _ _ _ _ _ us hl => match us, hl with | [_, _, _], _ => rfl
  have F10 := fun_mk (st := s10) l10 c10 k10
  have b10 := F10.binds (ps := P10) fun _ _ _ _ _ _ us hl => match us, hl with | [_], _ => rfl
  have F11 := fun_mk (st := s11) l11 c11 k11
  have b11 := F11.binds (ps := P11) fun _ _ _ _ _ _ us hl => match us, hl with | [_], _ => rfl
  have F12 := fun_mk (st := s12) l12 c12 k12
  have b12 := F12.binds (ps := P12) fun _ _ _ _ _ _ us hl => match us, hl with | [_, _], _ => rfl
  have F13 := fun_mk (st := s13) l13 c13 k13
  have b13 := F13.binds (ps := P13) fun _ _ _ _ _ _ us hl => match us, hl with | [_, _], _ => rfl
  have F14 := fun_mk (st := s14) l14 c14 k14
  have b14 := F14.binds (ps := P14) fun _ _ _ _ _ _ us hl => match us, hl with | [_, _, _], _ => rfl
  have F15 := fun_mk (st := s15) l15 c15 k15
  have b15 := F15.binds (ps := P15) fun _ _ _ _ _ _ us hl => match us, hl with | [_, _], _ => rfl
  have F16 := fun_mk (st := s16) l16 c16 k16
  have b16 := F16.binds (ps := P16) fun _ _ _ _ _ _ us hl => match us, hl with | [_, _], _ => rfl
  have F17 := fun_mk (st := s17) l17 c17 k17
  have b17 := F17.binds (ps := P17) fun _ _ _ _ _ _ us hl => match us, hl with | [_], _ => rfl
  let ff : Nat → Addr := (fun i => match i with | 0 => f0 | 1 => f1 | 2 => f2 | 3 => f3 | 4 => f4 | 5 => f5 | 6 => f6 | 7 => f7 | 8 => f8 | 9 => f9 | 10 => f10 | 11 => f11 | 12 => f12 | 13 => f13 | 14 => f14 | 15 => f15 | 16 => f16 | 17 => fa | _ => f0)
  let fd : Nat → FuncData := (fun i => match i with | 0 => PySem.W.fnOf (Str.ofString "rises") (Str.ofString "rises") (defArgs s0) (defBody s0) (defScope s0) .none kV0 dc0 pm0 an0 cd0 ct0 | 1 => PySem.W.fnOf (Str.ofString "unlike") (Str.ofString "unlike") (defArgs s1) (defBody s1) (defScope s1) .none kV1 dc1 pm1 an1 cd1 ct1 | 2 => PySem.W.fnOf (Str.ofString "is_word") (Str.ofString "is_word") (defArgs s2) (defBody s2) (defScope s2) .none kV2 dc2 pm2 an2 cd2 ct2 | 3 => PySem.W.fnOf (Str.ofString "is_word_pair") (Str.ofString "is_word_pair") (defArgs s3) (defBody s3) (defScope s3) .none kV3 dc3 pm3 an3 cd3 ct3 | 4 => PySem.W.fnOf (Str.ofString "is_table") (Str.ofString "is_table") (defArgs s4) (defBody s4) (defScope s4) .none kV4 dc4 pm4 an4 cd4 ct4 | 5 => PySem.W.fnOf (Str.ofString "is_calls") (Str.ofString "is_calls") (defArgs s5) (defBody s5) (defScope s5) .none kV5 dc5 pm5 an5 cd5 ct5 | 6 => PySem.W.fnOf (Str.ofString "scene_call") (Str.ofString "scene_call") (defArgs s6) (defBody s6) (defScope s6) .none kV6 dc6 pm6 an6 cd6 ct6 | 7 => PySem.W.fnOf (Str.ofString "choice_call") (Str.ofString "choice_call") (defArgs s7) (defBody s7) (defScope s7) .none kV7 dc7 pm7 an7 cd7 ct7 | 8 => PySem.W.fnOf (Str.ofString "table_turned") (Str.ofString "table_turned") (defArgs s8) (defBody s8) (defScope s8) .none kV8 dc8 pm8 an8 cd8 ct8 | 9 => PySem.W.fnOf (Str.ofString "_call") (Str.ofString "_call") (defArgs s9) (defBody s9) (defScope s9) .none kV9 dc9 pm9 an9 cd9 ct9 | 10 => PySem.W.fnOf (Str.ofString "_turned") (Str.ofString "_turned") (defArgs s10) (defBody s10) (defScope s10) .none kV10 dc10 pm10 an10 cd10 ct10 | 11 => PySem.W.fnOf (Str.ofString "_law_feed") (Str.ofString "_law_feed") (defArgs s11) (defBody s11) (defScope s11) .none kV11 dc11 pm11 an11 cd11 ct11 | 12 => PySem.W.fnOf (Str.ofString "_law_draw") (Str.ofString "_law_draw") (defArgs s12) (defBody s12) (defScope s12) .none kV12 dc12 pm12 an12 cd12 ct12 | 13 => PySem.W.fnOf (Str.ofString "_law_pick") (Str.ofString "_law_pick") (defArgs s13) (defBody s13) (defScope s13) .none kV13 dc13 pm13 an13 cd13 ct13 | 14 => PySem.W.fnOf (Str.ofString "_law_wild") (Str.ofString "_law_wild") (defArgs s14) (defBody s14) (defScope s14) .none kV14 dc14 pm14 an14 cd14 ct14 | 15 => PySem.W.fnOf (Str.ofString "_law_one_to_one") (Str.ofString "_law_one_to_one") (defArgs s15) (defBody s15) (defScope s15) .none kV15 dc15 pm15 an15 cd15 ct15 | 16 => PySem.W.fnOf (Str.ofString "_law_both_right") (Str.ofString "_law_both_right") (defArgs s16) (defBody s16) (defScope s16) .none kV16 dc16 pm16 an16 cd16 ct16 | 17 => PySem.W.fnOf (Str.ofString "law") (Str.ofString "law") (defArgs s17) (defBody s17) (defScope s17) .none kV17 dc17 pm17 an17 cd17 ct17 | _ => PySem.W.fnOf (Str.ofString "rises") (Str.ofString "rises") (defArgs s0) (defBody s0) (defScope s0) .none kV0 dc0 pm0 an0 cd0 ct0)
  have T : Txt K mg ff fd := { d := ?_, b_all := PySem.W.mg_none_of X G z_all, b_dict := PySem.W.mg_none_of X G z_dict, b_isinstance := PySem.W.mg_none_of X G z_isinstance, b_len := PySem.W.mg_none_of X G z_len, b_list := PySem.W.mg_none_of X G z_list, b_range := PySem.W.mg_none_of X G z_range, b_repr := PySem.W.mg_none_of X G z_repr, b_set := PySem.W.mg_none_of X G z_set, b_sorted := PySem.W.mg_none_of X G z_sorted, b_str := PySem.W.mg_none_of X G z_str, b_tuple := PySem.W.mg_none_of X G z_tuple, b_zip := PySem.W.mg_none_of X G z_zip }
  · refine ⟨fd 17, b17, fun base _ _ => all_ok T 20 17 (by decide)⟩
  · intro i hi
    match i, hi with
    | 0, _ => exact ⟨F0, PySem.W.mg_of X G a0, b0⟩
    | 1, _ => exact ⟨F1, PySem.W.mg_of X G a1, b1⟩
    | 2, _ => exact ⟨F2, PySem.W.mg_of X G a2, b2⟩
    | 3, _ => exact ⟨F3, PySem.W.mg_of X G a3, b3⟩
    | 4, _ => exact ⟨F4, PySem.W.mg_of X G a4, b4⟩
    | 5, _ => exact ⟨F5, PySem.W.mg_of X G a5, b5⟩
    | 6, _ => exact ⟨F6, PySem.W.mg_of X G a6, b6⟩
    | 7, _ => exact ⟨F7, PySem.W.mg_of X G a7, b7⟩
    | 8, _ => exact ⟨F8, PySem.W.mg_of X G a8, b8⟩
    | 9, _ => exact ⟨F9, PySem.W.mg_of X G a9, b9⟩
    | 10, _ => exact ⟨F10, PySem.W.mg_of X G a10, b10⟩
    | 11, _ => exact ⟨F11, PySem.W.mg_of X G a11, b11⟩
    | 12, _ => exact ⟨F12, PySem.W.mg_of X G a12, b12⟩
    | 13, _ => exact ⟨F13, PySem.W.mg_of X G a13, b13⟩
    | 14, _ => exact ⟨F14, PySem.W.mg_of X G a14, b14⟩
    | 15, _ => exact ⟨F15, PySem.W.mg_of X G a15, b15⟩
    | 16, _ => exact ⟨F16, PySem.W.mg_of X G a16, b16⟩
    | 17, _ => exact ⟨F17, PySem.W.mg_of X G a17, b17⟩
    | n + 18, h => exact absurd h (by omega)
end
end K53
open PySem PySem.W PyProof.Rows
set_option maxHeartbeats 0 in
theorem PySem.Challenge.cw_forktales_k53_whole_calls_lead_back_holds : PySem.Challenge.rw_forktales_k53_whole_calls_lead_back.Holds := by
  w_on; o_law; k_head; (case hw => w_witness2)
  k_fill
  refine PL.law_end (l := PySem.Challenge.rw_forktales_k53_whole_calls_lead_back) (n := 63) (k := 20) (x := (Str.ofString "_law_script")) (m := K53.lv 20 17) rfl (by decide) rfl ⟨rfl, by decide, by decide⟩ (fun w h Y => PySem.W.kIn_of Y) ?F K53.hm
  case F =>
    intro w mg fa h KX G hmg
    refine' K53.fin_mk KX G hmg ?a0 ?l0 ?c0 ?k0 ?a1 ?l1 ?c1 ?k1 ?a2 ?l2 ?c2 ?k2 ?a3 ?l3 ?c3 ?k3 ?a4 ?l4 ?c4 ?k4 ?a5 ?l5 ?c5 ?k5 ?a6 ?l6 ?c6 ?k6 ?a7 ?l7 ?c7 ?k7 ?a8 ?l8 ?c8 ?k8 ?a9 ?l9 ?c9 ?k9 ?a10 ?l10 ?c10 ?k10 ?a11 ?l11 ?c11 ?k11 ?a12 ?l12 ?c12 ?k12 ?a13 ?l13 ?c13 ?k13 ?a14 ?l14 ?c14 ?k14 ?a15 ?l15 ?c15 ?k15 ?a16 ?l16 ?c16 ?k16 ?a17 ?l17 ?c17 ?k17 ?z_all ?z_dict ?z_isinstance ?z_len ?z_list ?z_range ?z_repr ?z_set ?z_sorted ?z_str ?z_tuple ?z_zip
    (case a0 => k_is); (case l0 => k_is); (case c0 => k_is); (case k0 => k_is); (case a1 => k_is); (case l1 => k_is); (case c1 => k_is); (case k1 => k_is); (case a2 => k_is); (case l2 => k_is); (case c2 => k_is); (case k2 => k_is); (case a3 => k_is); (case l3 => k_is); (case c3 => k_is); (case k3 => k_is); (case a4 => k_is); (case l4 => k_is); (case c4 => k_is); (case k4 => k_is); (case a5 => k_is); (case l5 => k_is); (case c5 => k_is); (case k5 => k_is); (case a6 => k_is); (case l6 => k_is); (case c6 => k_is); (case k6 => k_is); (case a7 => k_is); (case l7 => k_is); (case c7 => k_is); (case k7 => k_is); (case a8 => k_is); (case l8 => k_is); (case c8 => k_is); (case k8 => k_is); (case a9 => k_is); (case l9 => k_is); (case c9 => k_is); (case k9 => k_is); (case a10 => k_is); (case l10 => k_is); (case c10 => k_is); (case k10 => k_is); (case a11 => k_is); (case l11 => k_is); (case c11 => k_is); (case k11 => k_is); (case a12 => k_is); (case l12 => k_is); (case c12 => k_is); (case k12 => k_is); (case a13 => k_is); (case l13 => k_is); (case c13 => k_is); (case k13 => k_is); (case a14 => k_is); (case l14 => k_is); (case c14 => k_is); (case k14 => k_is); (case a15 => k_is); (case l15 => k_is); (case c15 => k_is); (case k15 => k_is); (case a16 => k_is); (case l16 => k_is); (case c16 => k_is); (case k16 => k_is); (case a17 => k_is); (case l17 => k_is); (case c17 => k_is); (case k17 => k_is); (case z_all => k_is); (case z_dict => k_is); (case z_isinstance => k_is); (case z_len => k_is); (case z_list => k_is); (case z_range => k_is); (case z_repr => k_is); (case z_set => k_is); (case z_sorted => k_is); (case z_str => k_is); (case z_tuple => k_is); (case z_zip => k_is)
end
