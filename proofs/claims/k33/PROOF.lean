import PyProof.Rows.All
import HandS.ForMost
import HandS.Lambda
import HandS.TupAny
import HandS.TupMul
import HandS.Style
import HandS.Flow
import HandS.Zip
import HandS.Deep
import HandS.Small
import HandS.DictComp
import KE.SortData
import HandS.IsInst
import HandS.Conv
import HandS.Set
import HandS.TupSets
import PyProof.Rows.SetFrom
import HandS.SetFor
import KE.SortLaws
import PyProof.MeetsDict
import HandS.CallLocal
import PyProof.CallFns
import PyProof.P3In
import HandS.DictTup
import KE.KDictCopyH
import KE.KDictPairs
import KE.DataCmp
import KE.DatumOrd
import HandS.StrMore
import HandS.SetBool
import KE.KDictZip
import KE.GoesZip
import KE.GoesMore
import PyProof.EnumMake
import HandS.ClsMeth
import KE.KDictIter
import KE.KDictWalk
import KE.KUnpackStar
import HandS.Star
import KE.KDictSum
import KE.KEqDict
import HandS.Defaults
import HandS.ExcInit
import HandS.ExcField
import HandS.ExcIs
import KE.KExcIs
import HandS.EndTab
import HandS.FStr
import PyProof.StrOps2
import PySem.Challenge.RW_forktales_k33_stand_texts_told_and_refus
set_option Elab.async false
set_option linter.all false
set_option maxRecDepth 100000
set_option maxHeartbeats 4000000
section
namespace PL
open PySem PySem.Spec PyProof.Rows L2
inductive D where
 | non | bl (b : Bool) | int (i : Int) | str (x : Str) | tup (xs : List D) | ref (n : Nat) | fn (x : Str) | ty (n : String) | ktup (xs : List D) | ptup (xs : List D)
 /-- an exception that a suite holds, at a: its dict at dx, its class c, its fields -/
 | exc (a dx : Nat) (c : Str) (ns : List Str) (xs : List D)
inductive Ob where
 | lst (xs : List D)
 | cst (xs : List D)
 | dK (kvs : List (Key × D))
 | dT (kvs : List (List Key × D))
 /-- a dict that is being walked -/
 | lkK (kvs : List (Key × D))
 /-- an instance of the class c, its attributes -/
 | ins (c : Str) (fs : List (Str × D))
def Ob.own : Ob → Bool
 | .cst _ => false
 | _ => true
def Ob.mut : Ob → Bool
 | .cst _ => false
 | .lkK _ => false
 | _ => true
theorem Ob.own_of {o : Ob} (h : o.mut = true) : o.own = true := by
 cases o <;> first | rfl | cases h
abbrev Sto := List Ob
abbrev Env := List (Option D)
section
variable (K : PySem.W.Frag) (mg : Str → Option Value)
def TupAt (H : Hp) (a : Addr) (xs : List V) : Prop := H a = some (.tup xs)
omit K mg in
theorem TupAt.sq {K : PySem.W.Frag} {H : Hp} {a : Addr} {xs : List V} (h : TupAt H a xs) : SqT K H a xs := .inl (.inl h)
def KtAt (a : Addr) (xs : List V) : Prop := ∃ (o : Obj) (its : Array Value) (n : Nat), K.lookup a = some o ∧ o.cls = .type "tuple" ∧ o.data = .seq its n ∧ its.size ≤ sizeLine ∧ Vals xs its.toList
theorem KtAt.sq {K : PySem.W.Frag} {H : Hp} {a : Addr} {xs : List V} (h : KtAt K a xs) : SqT K H a xs := .inr h
def PtAt (H : Hp) (a : Addr) (xs : List V) : Prop := ∃ o : Obj, H a = some (.frz o (.tup xs)) ∧ o.cls = .type "tuple" ∧ o.dict = none
omit K mg in
theorem PtAt.sq {K : PySem.W.Frag} {H : Hp} {a : Addr} {xs : List V} (h : PtAt H a xs) : SqT K H a xs := let ⟨o, e, _⟩ := h; .inl (.inr ⟨o, e⟩)
def CstAt (H : Hp) (a : Addr) (xs : List V) : Prop :=
 (∃ o, H a = some (.frz o (.lst xs))) ∨ ∃ (o : Obj) (its : Array Value) (n : Nat), K.lookup a = some o ∧ o.cls = .type "list" ∧ o.dict = none ∧ o.data = .seq its n ∧ its.size ≤ sizeLine ∧ Vals xs its.toList
theorem CstAt.sq {K : PySem.W.Frag} {H : Hp} {a : Addr} {xs : List V} (h : CstAt K H a xs) : SqL K H a xs := by
 rcases h with ⟨o, h⟩ | h
 ·exact .inl (.inr ⟨o, h⟩)
 ·exact .inr h
mutual
inductive RepV (r : List Addr) (H : Hp) : D → V → Prop
 | non : RepV r H .non .non
 | bl (b : Bool) : RepV r H (.bl b) (.bl b)
 | int (i : Int) : RepV r H (.int i) (.int i)
 | str (x : Str) : RepV r H (.str x) (.str x)
 | ty (n : String) : RepV r H (.ty n) (.ty n)
 | tup {a : Addr} {vs : List V} {ds : List D} : TupAt H a vs → RepL r H ds vs → RepV r H (.tup ds) (.ref a)
 | ktup {a : Addr} {vs : List V} {ds : List D} : KtAt K a vs → RepL r H ds vs → RepV r H (.ktup ds) (.ref a)
 | ptup {a : Addr} {vs : List V} {ds : List D} : PtAt H a vs → RepL r H ds vs → RepV r H (.ptup ds) (.ref a)
 | ref {n : Nat} {a : Addr} : r[n]? = some a → RepV r H (.ref n) (.ref a)
 | fn {x : Str} {f : Addr} : mg x = some (.ref f) → RepV r H (.fn x) (.ref f)
 | exc {a dx : Addr} {c : Str} {ns : List Str} {vs : List V} {ds : List D} : H dx = some (.xd (ns.zip vs)) → RepL r H ds vs → RepV r H (.exc a dx c ns ds) (.ref a)
inductive RepL (r : List Addr) (H : Hp) : List D → List V → Prop
 | nil : RepL r H [] []
 | cons {d : D} {v : V} {ds : List D} {vs : List V} : RepV r H d v → RepL r H ds vs → RepL r H (d :: ds) (v :: vs)
end
structure Lat (r : List Addr) (H : Hp) (r' : List Addr) (H' : Hp) : Prop where
 xd : ∀ a f, H a = some (.xd f) → H' a = some (.xd f)
 pre : ∀ (n : Nat) (a : Addr), r[n]? = some a → r'[n]? = some a
 tup : ∀ a xs, H a = some (.tup xs) → H' a = some (.tup xs)
 frz : ∀ a o u, H a = some (.frz o u) → H' a = some (.frz o u)
 ext : ∀ a f, H a = some (.ext f) → H' a = some (.ext f)
variable {K mg}
theorem Lat.refl {r : List Addr} {H : Hp} : Lat r H r H := ⟨fun _ _ h => h, fun _ _ h => h, fun _ _ h => h, fun _ _ _ h => h, fun _ _ h => h⟩
theorem Lat.trans {r r1 r2 : List Addr} {H H1 H2 : Hp} (a : Lat r H r1 H1) (b : Lat r1 H1 r2 H2) : Lat r H r2 H2 :=
 ⟨fun x f h => b.xd x f (a.xd x f h), fun n x h => b.pre n x (a.pre n x h), fun x y h => b.tup x y (a.tup x y h), fun x o u h => b.frz x o u (a.frz x o u h), fun x f h => b.ext x f (a.ext x f h)⟩
theorem TupAt.lat {r r' : List Addr} {H H' : Hp} {a : Addr} {xs : List V} (l : Lat r H r' H') (h : TupAt H a xs) : TupAt H' a xs := l.tup _ _ h
theorem PtAt.lat {r r' : List Addr} {H H' : Hp} {a : Addr} {xs : List V} (l : Lat r H r' H') (h : PtAt H a xs) : PtAt H' a xs := let ⟨o, e, z⟩ := h; ⟨o, l.frz _ _ _ e, z⟩
theorem CstAt.lat {r r' : List Addr} {H H' : Hp} {a : Addr} {xs : List V} (l : Lat r H r' H') (h : CstAt K H a xs) : CstAt K H' a xs := by
 rcases h with ⟨o, h⟩ | h
 ·exact .inl ⟨o, l.frz _ _ _ h⟩
 ·exact .inr h
mutual
theorem RepV.lat {r r' : List Addr} {H H' : Hp} (l : Lat r H r' H') : ∀ {d : D} {v : V}, RepV K mg r H d v → RepV K mg r' H' d v
 | _, _, .non => .non
 | _, _, .bl b => .bl b
 | _, _, .int i => .int i
 | _, _, .str x => .str x
 | _, _, .ty n => .ty n
 | _, _, .tup h q => .tup (h.lat l) (RepL.lat l q)
 | _, _, .ktup h q => .ktup h (RepL.lat l q)
 | _, _, .ptup h q => .ptup (h.lat l) (RepL.lat l q)
 | _, _, .ref h => .ref (l.pre _ _ h)
 | _, _, .fn h => .fn h
 | _, _, .exc h q => .exc (l.xd _ _ h) (RepL.lat l q)
theorem RepL.lat {r r' : List Addr} {H H' : Hp} (l : Lat r H r' H') : ∀ {ds : List D} {vs : List V}, RepL K mg r H ds vs → RepL K mg r' H' ds vs
 | _, _, .nil => .nil
 | _, _, .cons h q => .cons (RepV.lat l h) (RepL.lat l q)
end
theorem RepL.inv1 {r : List Addr} {H : Hp} {d : D} {vs : List V} (h : RepL K mg r H [d] vs) : ∃ v, vs = [v] ∧ RepV K mg r H d v := by
 cases h with
 | cons z t =>
  cases t
  exact ⟨_, rfl, z⟩
theorem RepL.inv2 {r : List Addr} {H : Hp} {d e : D} {vs : List V} (h : RepL K mg r H [d, e] vs) : ∃ v w, vs = [v, w] ∧ RepV K mg r H d v ∧ RepV K mg r H e w := by
 cases h with
 | cons z t =>
  obtain ⟨w, rfl, y⟩ := RepL.inv1 t
  exact ⟨_, _, rfl, z, y⟩
theorem len2_of {α : Type} {xs : List α} (h : xs.length = 2) : ∃ a b, xs = [a, b] := by
 rcases xs with _ | ⟨a, _ | ⟨b, _ | ⟨c, t⟩⟩⟩
 ·simp at h
 ·simp at h
 ·exact ⟨a, b, rfl⟩
 ·simp at h
theorem RepL.length {r : List Addr} {H : Hp} : ∀ {ds : List D} {vs : List V}, RepL K mg r H ds vs → ds.length = vs.length
 | _, _, .nil => rfl
 | _, _, .cons _ q => congrArg Nat.succ q.length
theorem RepL.get {r : List Addr} {H : Hp} : ∀ {ds : List D} {vs : List V} {i : Nat} {d : D}, RepL K mg r H ds vs → ds[i]? = some d → ∃ v, vs[i]? = some v ∧ RepV K mg r H d v
 | _, _, _, _, .nil, e => by simp at e
 | _, _, 0, _, .cons h _, e => by simp at e; subst e; exact ⟨_, rfl, h⟩
 | _, _, i + 1, d, .cons _ q, e => by
  obtain ⟨v, h1, h2⟩ := RepL.get (i := i) (d := d) q (by simpa using e)
  exact ⟨v, by simpa using h1, h2⟩
theorem RepL.append {r : List Addr} {H : Hp} : ∀ {ds es : List D} {vs ws : List V}, RepL K mg r H ds vs → RepL K mg r H es ws → RepL K mg r H (ds ++ es) (vs ++ ws)
 | _, _, _, _, .nil, q => q
 | _, _, _, _, .cons h t, q => .cons h (t.append q)
theorem RepL.take {r : List Addr} {H : Hp} : ∀ {ds : List D} {vs : List V} (n : Nat), RepL K mg r H ds vs → RepL K mg r H (ds.take n) (vs.take n)
 | _, _, 0, _ => .nil
 | _, _, _ + 1, .nil => .nil
 | _, _, n + 1, .cons h t => .cons h (t.take n)
theorem RepL.drop {r : List Addr} {H : Hp} : ∀ {ds : List D} {vs : List V} (n : Nat), RepL K mg r H ds vs → RepL K mg r H (ds.drop n) (vs.drop n)
 | _, _, 0, q => q
 | _, _, _ + 1, .nil => .nil
 | _, _, n + 1, .cons _ t => t.drop n
theorem RepL.set {r : List Addr} {H : Hp} {d : D} {v : V} (h : RepV K mg r H d v) : ∀ {ds : List D} {vs : List V} (n : Nat), RepL K mg r H ds vs → RepL K mg r H (ds.set n d) (vs.set n v)
 | _, _, _, .nil => .nil
 | _, _, 0, .cons _ t => .cons h t
 | _, _, n + 1, .cons q t => .cons q (t.set h n)
theorem RepL.reverse {r : List Addr} {H : Hp} {ds : List D} {vs : List V} (q : RepL K mg r H ds vs) : RepL K mg r H ds.reverse vs.reverse := by
 induction ds generalizing vs with
 | nil => cases q; exact .nil
 | cons d ds ih =>
  cases q with
  | cons h t =>
   rw [List.reverse_cons, List.reverse_cons]
   exact (ih t).append (.cons h .nil)
end
class Tbl where
 T : List (Addr × Str)
instance (priority := 10) : Tbl := ⟨[]⟩
theorem tabs_new {T : List (Addr × Str)} {H : Hp} {p : Addr} {u : HO} (t : LamX.Tabs T H) (np : H p = none) : LamX.Tabs T (upd H p u) := t.ext fun b o e => by rw [upd_ne (ne_of_none e np)]; exact e
theorem tabs_upd {T : List (Addr × Str)} {H : Hp} {a : Addr} {u v : HO} (t : LamX.Tabs T H) (e : H a = some u) (h1 : ∀ ps, u ≠ .tbl ps) (h2 : ∀ f, u ≠ .ext f) : LamX.Tabs T (upd H a v) := fun p hp => by
 obtain ⟨ps, a1, a2, a3⟩ := t p hp
 have n1 : p.1 ≠ a := fun z => by
  rw [z, e] at a1
  exact h1 _ (Option.some.inj a1)
 refine ⟨ps, by rw [upd_ne n1]; exact a1, a2, fun pos cv hc => ?_⟩
 obtain ⟨c, e1, e2⟩ := a3 pos cv hc
 have n2 : c ≠ a := fun z => by
  rw [z, e] at e2
  exact h2 _ (Option.some.inj e2)
 exact ⟨c, e1, by rw [upd_ne n2]; exact e2⟩
section
variable [Tbl]
variable (K : PySem.W.Frag) (mg : Str → Option Value)
def RepKs {k : Type} (r : List Addr) (H : Hp) : List (k × D) → List (k × V) → Prop := Paired fun (p : k × D) (q : k × V) => p.1 = q.1 ∧ RepV K mg r H p.2 q.2
def RepO (r : List Addr) (H : Hp) : Ob → Addr → Prop
 | .lst xs, a => ∃ vs, H a = some (.lst vs) ∧ RepL K mg r H xs vs
 | .cst xs, a => ∃ vs, CstAt K H a vs ∧ RepL K mg r H xs vs
 | .dK kvs, a => ∃ ws, H a = some (.dK ws) ∧ RepKs K mg r H kvs ws
 | .dT kvs, a => ∃ ws, H a = some (.dT ws) ∧ RepKs K mg r H kvs ws
 | .lkK kvs, a => ∃ od ws, H a = some (.frz od (.dK ws)) ∧ RepKs K mg r H kvs ws
 | .ins c fs, a => ∃ (C dx : Addr) (ws : List (Str × V)), mg c = some (.ref C) ∧ H a = some (.ins C dx ws) ∧ RepKs K mg r H fs ws
structure Sim [Tbl] (r : List Addr) (S : Sto) (H : Hp) : Prop where
 tb : LamX.Tabs Tbl.T H
 len : r.length = S.length
 nd : ∀ (i j : Nat) (a : Addr) (o u : Ob), r[i]? = some a → r[j]? = some a → S[i]? = some o → S[j]? = some u → o.own = true → u.own = true → i = j
 ob : ∀ (n : Nat) (o : Ob) (a : Addr), S[n]? = some o → r[n]? = some a → RepO K mg r H o a
structure REnv (r : List Addr) (H : Hp) (env : Env) (s : L2.St) : Prop where
 len : s.length = env.length
 at_ : ∀ (i : Nat) (d : D), env[i]? = some (some d) → ∃ v, s[i]? = some (some v) ∧ RepV K mg r H d v
variable {K mg}
theorem RepKs.lat {k : Type} {r r' : List Addr} {H H' : Hp} (l : Lat r H r' H') {ks : List (k × D)} {ws : List (k × V)} (h : RepKs K mg r H ks ws) : RepKs K mg r' H' ks ws :=
 Paired.mapP h fun _ _ q => ⟨q.1, q.2.lat l⟩
theorem RepO.lat {r r' : List Addr} {H H' : Hp} {o : Ob} {a : Addr} (l : Lat r H r' H') (he : H' a = H a) (h : RepO K mg r H o a) : RepO K mg r' H' o a := by
 cases o with
 | lst xs => obtain ⟨vs, e, q⟩ := h; exact ⟨vs, he.trans e, q.lat l⟩
 | cst xs => obtain ⟨vs, e, q⟩ := h; exact ⟨vs, e.lat l, q.lat l⟩
 | dK xs => obtain ⟨vs, e, q⟩ := h; exact ⟨vs, he.trans e, q.lat l⟩
 | dT xs => obtain ⟨vs, e, q⟩ := h; exact ⟨vs, he.trans e, q.lat l⟩
 | lkK xs => obtain ⟨od, vs, e, q⟩ := h; exact ⟨od, vs, he.trans e, q.lat l⟩
 | ins c xs => obtain ⟨C, dx, vs, g, e, q⟩ := h; exact ⟨C, dx, vs, g, he.trans e, q.lat l⟩
theorem REnv.lat {r r' : List Addr} {H H' : Hp} {env : Env} {s : L2.St} (l : Lat r H r' H') (h : REnv K mg r H env s) : REnv K mg r' H' env s :=
 ⟨h.len, fun i d e => let ⟨v, e1, q⟩ := h.at_ i d e; ⟨v, e1, q.lat l⟩⟩
theorem REnv.set {r : List Addr} {H : Hp} {env : Env} {s : L2.St} {i : Nat} {d : D} {v : V} (h : REnv K mg r H env s) (q : RepV K mg r H d v) : REnv K mg r H (env.set i (some d)) (s.set i (some v)) := by
 refine ⟨by simpa using h.len, fun j e hj => ?_⟩
 by_cases hij : i = j
 ·subst hij
  by_cases hi : i < env.length
  ·rw [List.getElem?_set_self hi] at hj
   cases hj
   exact ⟨v, List.getElem?_set_self (by rw [h.len]; exact hi), q⟩
  ·rw [List.getElem?_eq_none (by simpa using hi)] at hj
   cases hj
 ·rw [List.getElem?_set_ne hij] at hj
  obtain ⟨w, e1, q1⟩ := h.at_ j e hj
  exact ⟨w, by rw [List.getElem?_set_ne hij]; exact e1, q1⟩
theorem RepO.there {r : List Addr} {H : Hp} {o : Ob} {a : Addr} (h : RepO K mg r H o a) (hc : o.mut = true) : ∃ u, H a = some u ∧ Mut (some u) ∧ (∀ f, u ≠ .ext f) ∧ (∀ f, u ≠ .xd f) ∧ ∀ ps, u ≠ .tbl ps := by
 cases o with
 | lst xs => obtain ⟨vs, e, q⟩ := h; exact ⟨_, e, trivial, (fun f z => nomatch z), (fun f z => nomatch z), fun f z => nomatch z⟩
 | cst xs => cases hc
 | lkK xs => cases hc
 | dK xs => obtain ⟨vs, e, q⟩ := h; exact ⟨_, e, trivial, (fun f z => nomatch z), (fun f z => nomatch z), fun f z => nomatch z⟩
 | dT xs => obtain ⟨vs, e, q⟩ := h; exact ⟨_, e, trivial, (fun f z => nomatch z), (fun f z => nomatch z), fun f z => nomatch z⟩
 | ins c xs => obtain ⟨C, dx, vs, g, e, q⟩ := h; exact ⟨_, e, trivial, (fun f z => nomatch z), (fun f z => nomatch z), fun f z => nomatch z⟩
theorem RepO.some {r : List Addr} {H : Hp} {o : Ob} {a : Addr} (h : RepO K mg r H o a) (hc : o.own = true) : ∃ u, H a = some u := by
 cases o with
 | lst xs => obtain ⟨vs, e, q⟩ := h; exact ⟨_, e⟩
 | cst xs => cases hc
 | lkK xs => obtain ⟨od, vs, e, q⟩ := h; exact ⟨_, e⟩
 | dK xs => obtain ⟨vs, e, q⟩ := h; exact ⟨_, e⟩
 | dT xs => obtain ⟨vs, e, q⟩ := h; exact ⟨_, e⟩
 | ins c xs => obtain ⟨C, dx, vs, g, e, q⟩ := h; exact ⟨_, e⟩
theorem RepO.plain {r : List Addr} {H : Hp} {o : Ob} {a : Addr} (h : RepO K mg r H o a) (hc : o.own = true) : ∃ u : HO, H a = Option.some u ∧ (∀ ps, u ≠ .tbl ps) ∧ ∀ f, u ≠ .ext f := by
 cases o with
 | lst xs => obtain ⟨vs, e, q⟩ := h; exact ⟨_, e, (fun f z => nomatch z), fun f z => nomatch z⟩
 | cst xs => cases hc
 | lkK xs => obtain ⟨od, vs, e, q⟩ := h; exact ⟨_, e, (fun f z => nomatch z), fun f z => nomatch z⟩
 | dK xs => obtain ⟨vs, e, q⟩ := h; exact ⟨_, e, (fun f z => nomatch z), fun f z => nomatch z⟩
 | dT xs => obtain ⟨vs, e, q⟩ := h; exact ⟨_, e, (fun f z => nomatch z), fun f z => nomatch z⟩
 | ins c xs => obtain ⟨C, dx, vs, g, e, q⟩ := h; exact ⟨_, e, (fun f z => nomatch z), fun f z => nomatch z⟩
theorem lat_tup {r : List Addr} {H : Hp} {p : Addr} {vs : List V} (np : H p = none) : Lat r H r (upd H p (.tup vs)) :=
 ⟨fun b f e => by rw [upd_ne (ne_of_none e np)]; exact e, fun _ _ h => h, fun b xs e => by rw [upd_ne (ne_of_none e np)]; exact e, fun b o u e => by rw [upd_ne (ne_of_none e np)]; exact e, fun b f e => by rw [upd_ne (ne_of_none e np)]; exact e⟩
theorem Sim.tup {r : List Addr} {S : Sto} {H : Hp} {p : Addr} {vs : List V} (h : Sim K mg r S H) (np : H p = none) : Sim K mg r S (upd H p (.tup vs)) := by
 refine ⟨tabs_new h.tb np, h.len, h.nd, fun n o a e1 e2 => ?_⟩
 have q := h.ob n o a e1 e2
 cases o with
 | cst xs => obtain ⟨ws, e, z⟩ := q; exact ⟨ws, e.lat (lat_tup (r := r) np), z.lat (lat_tup np)⟩
 | lst xs => obtain ⟨ws, e, _⟩ := id q; exact q.lat (lat_tup np) (upd_ne (ne_of_none e np))
 | dK xs => obtain ⟨ws, e, _⟩ := id q; exact q.lat (lat_tup np) (upd_ne (ne_of_none e np))
 | dT xs => obtain ⟨ws, e, _⟩ := id q; exact q.lat (lat_tup np) (upd_ne (ne_of_none e np))
 | lkK xs => obtain ⟨od, ws, e, _⟩ := id q; exact q.lat (lat_tup np) (upd_ne (ne_of_none e np))
 | ins c xs => obtain ⟨C, dx, ws, g, e, _⟩ := id q; exact q.lat (lat_tup np) (upd_ne (ne_of_none e np))
theorem lat_new {r : List Addr} {H : Hp} {p : Addr} {u : HO} (np : H p = none) : Lat r H (r ++ [p]) (upd H p u) :=
 ⟨fun b f e => by rw [upd_ne (ne_of_none e np)]; exact e, fun n a h => by rw [List.getElem?_append_left (List.getElem?_eq_some_iff.mp h).1]; exact h, fun b xs e => by rw [upd_ne (ne_of_none e np)]; exact e, fun b o u e => by rw [upd_ne (ne_of_none e np)]; exact e, fun b f e => by rw [upd_ne (ne_of_none e np)]; exact e⟩
theorem Sim.new {r : List Addr} {S : Sto} {H : Hp} {p : Addr} {u : HO} {o : Ob} (h : Sim K mg r S H) (np : H p = none) (q : RepO K mg (r ++ [p]) (upd H p u) o p) : Sim K mg (r ++ [p]) (S ++ [o]) (upd H p u) := by
 have hz : ∀ (i : Nat) (a : Addr), (r ++ [p])[i]? = some a → (i < r.length ∧ r[i]? = some a) ∨ (i = r.length ∧ a = p) := fun i a e => by
  by_cases hi : i < r.length
  ·rw [List.getElem?_append_left hi] at e
   exact .inl ⟨hi, e⟩
  ·rw [List.getElem?_append_right (by omega)] at e
   by_cases h0 : i = r.length
   ·subst h0
    rw [Nat.sub_self] at e
    exact .inr ⟨rfl, (Option.some.inj e).symm⟩
   ·obtain ⟨m, hm⟩ : ∃ m, i - r.length = m + 1 := ⟨i - r.length - 1, by omega⟩
    rw [hm] at e
    simp at e
 have old : ∀ (i : Nat) (o' : Ob), i < r.length → (S ++ [o])[i]? = some o' → S[i]? = some o' := fun i o' hi e => by
  rw [List.getElem?_append_left (by rw [← h.len]; exact hi)] at e
  exact e
 have keep : ∀ (i : Nat) (a : Addr) (o' : Ob), r[i]? = some a → S[i]? = some o' → o'.own = true → a ≠ p := fun i a o' e1 e2 hm z => by
  obtain ⟨w, e3⟩ := (h.ob i o' a e2 e1).some hm
  rw [z, np] at e3
  cases e3
 refine ⟨tabs_new h.tb np, by rw [List.length_append, List.length_append, h.len]; rfl, fun i j a o1 o2 ei ej e1 e2 m1 m2 => ?_, fun n o' a e1 e2 => ?_⟩
 ·rcases hz i a ei with ⟨li, fi⟩ | ⟨li, fi⟩
  ·rcases hz j a ej with ⟨lj, fj⟩ | ⟨lj, fj⟩
   ·exact h.nd i j a o1 o2 fi fj (old i _ li e1) (old j _ lj e2) m1 m2
   ·exact absurd fj (keep i a o1 fi (old i _ li e1) m1)
  ·rcases hz j a ej with ⟨lj, fj⟩ | ⟨lj, fj⟩
   ·exact absurd fi (keep j a o2 fj (old j _ lj e2) m2)
   ·rw [li, lj]
 ·rcases hz n a e2 with ⟨li, fi⟩ | ⟨li, fi⟩
  ·have q1 := h.ob n o' a (old n _ li e1) fi
   cases hm : o'.own with
   | true => exact q1.lat (lat_new np) (upd_ne (keep n a o' fi (old n _ li e1) hm))
   | false =>
    cases o' with
    | cst xs => obtain ⟨ws, e, z⟩ := q1; exact ⟨ws, e.lat (lat_new (r := r) np), z.lat (lat_new np)⟩
    | lst xs => cases hm
    | dK xs => cases hm
    | dT xs => cases hm
    | lkK xs => cases hm
    | ins c xs => cases hm
  ·subst fi
   subst li
   rw [h.len, List.getElem?_append_right (Nat.le_refl _), Nat.sub_self] at e1
   cases e1
   exact q
theorem lat_upd {r : List Addr} {H : Hp} {a : Addr} {u v : HO} (e : H a = some u) (hm : Mut (some u)) (hx : ∀ f, u ≠ .ext f := by intro f e; cases e) (hy : ∀ f, u ≠ .xd f := by intro f e; cases e) : Lat r H r (upd H a v) := by
 refine ⟨fun b f eb => ?_, fun _ _ h => h, fun b xs eb => ?_, fun b o w eb => ?_, fun b f eb => ?_⟩
 ·have : b ≠ a := fun z => by rw [z, e] at eb; cases eb; exact hy f rfl
  rw [upd_ne this]; exact eb
 ·have : b ≠ a := fun z => by rw [z, e] at eb; cases eb; exact hm
  rw [upd_ne this]; exact eb
 ·have : b ≠ a := fun z => by rw [z, e] at eb; cases eb; exact hm
  rw [upd_ne this]; exact eb
 ·have : b ≠ a := fun z => by rw [z, e] at eb; cases eb; exact hx f rfl
  rw [upd_ne this]; exact eb
theorem Sim.put {r : List Addr} {S : Sto} {H : Hp} {a : Addr} {n : Nat} {o o' : Ob} {v : HO} (h : Sim K mg r S H) (eo : S[n]? = some o) (ea : r[n]? = some a) (hm : o.mut = true) (hm' : o'.own = true)
  (q : RepO K mg r (upd H a v) o' a) : Sim K mg r (S.set n o') (upd H a v) ∧ Lat r H r (upd H a v) := by
 obtain ⟨u, eu, mu, xu, yu, tu⟩ := (h.ob n o a eo ea).there hm
 have L : Lat r H r (upd H a v) := lat_upd eu mu xu yu
 have hn : n < S.length := (List.getElem?_eq_some_iff.mp eo).1
 have back : ∀ (i : Nat) (w : Ob), (S.set n o')[i]? = some w → (i = n ∧ w = o') ∨ (i ≠ n ∧ S[i]? = some w) := fun i w e => by
  by_cases hi : n = i
  ·subst hi
   rw [List.getElem?_set_self hn] at e
   exact .inl ⟨rfl, (Option.some.inj e).symm⟩
  ·rw [List.getElem?_set_ne hi] at e
   exact .inr ⟨fun z => hi z.symm, e⟩
 refine ⟨⟨tabs_upd h.tb eu tu xu, by rw [h.len, List.length_set], fun i j b o1 o2 ei ej e1 e2 m1 m2 => ?_, fun m w b e1 e2 => ?_⟩, L⟩
 ·rcases back i o1 e1 with ⟨i1, i2⟩ | ⟨i1, i2⟩
  ·rcases back j o2 e2 with ⟨j1, j2⟩ | ⟨j1, j2⟩
   ·rw [i1, j1]
   ·exact h.nd i j b o o2 ei ej (by rw [i1]; exact eo) j2 (Ob.own_of hm) m2
  ·rcases back j o2 e2 with ⟨j1, j2⟩ | ⟨j1, j2⟩
   ·exact h.nd i j b o1 o ei ej i2 (by rw [j1]; exact eo) m1 (Ob.own_of hm)
   ·exact h.nd i j b o1 o2 ei ej i2 j2 m1 m2
 ·rcases back m w e1 with ⟨i1, i2⟩ | ⟨i1, i2⟩
  ·subst i1
   subst i2
   rw [ea] at e2
   cases e2
   exact q
  ·have q1 := h.ob m w b i2 e2
   cases hw : w.own with
   | true =>
    refine q1.lat L (upd_ne fun z => ?_)
    subst z
    exact i1 (h.nd m n b w o e2 ea i2 eo hw (Ob.own_of hm))
   | false =>
    cases w with
    | cst xs => obtain ⟨ws, e, z⟩ := q1; exact ⟨ws, e.lat L, z.lat L⟩
    | lst xs => cases hw
    | dK xs => cases hw
    | dT xs => cases hw
    | lkK xs => cases hw
    | ins c xs => cases hw
section
variable {X : Cx}
def TM (X : Cx) (e : Expr) : TE := fun σ H Q => ∀ pins s, Inv X pins σ H s → wpAny (model X.prog X.w) X.A (eval e X.env) (EP X pins σ Q) X.xe s
theorem pe_tm {e : Expr} : PE X e (TM X e) := ⟨fun pins s _ _ _ I h => h pins s I⟩
theorem tm_of {e : Expr} {t : TE} {σ : L2.St} {H : Hp} {Q : VK} (h : PE X e t) (q : t σ H Q) : TM X e σ H Q := fun pins s I => h.run pins s σ H Q I q
def TMt (X : Cx) (e : Expr) : TT := fun σ H Q => ∀ pins s, Inv X pins σ H s → wpAny (model X.prog X.w) X.A (isTrue e X.env (eval e X.env)) (TP X pins σ Q) X.xe s
theorem pt_tm {e : Expr} : PT X e (TMt X e) := ⟨fun pins s _ _ _ I h => h pins s I⟩
theorem tmt_of {e : Expr} {t : TT} {σ : L2.St} {H : Hp} {Q : Bool → Hp → Prop} (h : PT X e t) (q : t σ H Q) : TMt X e σ H Q := fun pins s I => h.run pins s σ H Q I q
def TMw (X : Cx) (e : Expr) : TT := fun σ H Q => ∀ (whole : Sem Value) pins s, Inv X pins σ H s → wpAny (model X.prog X.w) X.A (isTrue e X.env whole) (TP X pins σ Q) X.xe s
theorem pw_tm {e : Expr} : PW X e (TMw X e) := ⟨fun wh pins s _ _ _ I h => h wh pins s I⟩
theorem tmw_of {e : Expr} {t : TT} {σ : L2.St} {H : Hp} {Q : Bool → Hp → Prop} (h : PW X e t) (q : t σ H Q) : TMw X e σ H Q := fun wh pins s I => h.run wh pins s σ H Q I q
def TMa (X : Cx) (es : List Expr) : TA := fun σ H Q => ∀ (pos : Pos) pins s, Inv X pins σ H s → wpAny (model X.prog X.w) X.A (spliced (backTo pos (starEach es X.env))) (AP X pins σ Q) X.xe s
theorem pa_tm {es : List Expr} : PA X es (TMa X es) := ⟨fun pos pins s _ _ _ I h => h pos pins s I⟩
theorem tma_of {es : List Expr} {t : TA} {σ : L2.St} {H : Hp} {Q : List V → Hp → Prop} (h : PA X es t) (q : t σ H Q) : TMa X es σ H Q := fun pos pins s I => h.run pos pins s σ H Q I q
def TMs (X : Cx) (st : Stmt) : TS := fun D σ H => ∀ pins s, Inv X pins σ H s → wpAny (model X.prog X.w) X.A (exec st X.env) (SP X pins D) X.xe s
theorem ps_tm {st : Stmt} : PS X st (TMs X st) := ⟨fun pins s _ _ _ I h => h pins s I⟩
theorem tms_of {st : Stmt} {t : TS} {σ : L2.St} {H : Hp} {D : Ends} (h : PS X st t) (q : t D σ H) : TMs X st D σ H := fun pins s I => h.run pins s σ H D I q
def TMss (X : Cx) (st : List Stmt) : TS := fun D σ H => ∀ pins s, Inv X pins σ H s → wpAny (model X.prog X.w) X.A (execs st X.env) (SP X pins D) X.xe s
theorem pss_tm {st : List Stmt} : PSs X st (TMss X st) := ⟨fun pins s _ _ _ I h => h pins s I⟩
theorem tmss_of {st : List Stmt} {t : TS} {σ : L2.St} {H : Hp} {D : Ends} (h : PSs X st t) (q : t D σ H) : TMss X st D σ H := fun pins s I => h.run pins s σ H D I q
def TMg (X : Cx) (tg : Expr) : TG := fun v σ H Q => ∀ pins s u, Inv X pins σ H s → RelV v u → wpAny (model X.prog X.w) X.A (assign tg X.env u) (fun _ s' => ∃ σ' H', Inv X pins σ' H' s' ∧ Q σ' H') X.xe s
theorem pg_tm {tg : Expr} : PG X tg (TMg X tg) := ⟨fun pins s _ _ _ u _ I r h => h pins s u I r⟩
theorem tmg_of {tg : Expr} {t : TG} {σ : L2.St} {H : Hp} {v : V} {Q : L2.St → Hp → Prop} (h : PG X tg t) (q : t v σ H Q) : TMg X tg v σ H Q := fun pins s u I r => h.run pins s σ H v u Q I r q
end
abbrev ME := Env → Sto → Option (D × Sto)
abbrev MT := Env → Sto → Option (Bool × Sto)
abbrev MA := Env → Sto → Option (List D × Sto)
inductive Flw where | nx | rt (d : D) | bk | ct
abbrev MS := Env → Sto → Option (Flw × Env × Sto)
abbrev MG := D → Env → Sto → Option (Env × Sto)
abbrev MF := List D → Sto → Option (D × Sto)
section
variable [Tbl]
structure At (X : Cx) (r : List Addr) (env : Env) (S : Sto) (σ : L2.St) (H : Hp) : Prop where
 sim : Sim X.K X.mg r S H
 env : REnv X.K X.mg r H env σ
structure CE (X : Cx) (e : Expr) (m : ME) : Prop where
 run : ∀ env S d S', m env S = some (d, S') → ∀ r σ H (Q : VK), At X r env S σ H →
 (∀ r' H' v, Sim X.K X.mg r' S' H' → Lat r H r' H' → RepV X.K X.mg r' H' d v → Q v H') → TM X e σ H Q
instance {X : Cx} {e : Expr} {m : ME} : CoeFun (CE X e m) (fun _ => ∀ env S d S', m env S = some (d, S') → ∀ r σ H (Q : VK), At X r env S σ H →
 (∀ r' H' v, Sim X.K X.mg r' S' H' → Lat r H r' H' → RepV X.K X.mg r' H' d v → Q v H') → TM X e σ H Q
) := ⟨CE.run⟩
structure CT (X : Cx) (e : Expr) (m : MT) : Prop where
 run : ∀ env S b S', m env S = some (b, S') → ∀ r σ H (Q : Bool → Hp → Prop), At X r env S σ H →
 (∀ r' H', Sim X.K X.mg r' S' H' → Lat r H r' H' → Q b H') → TMt X e σ H Q
instance {X : Cx} {e : Expr} {m : MT} : CoeFun (CT X e m) (fun _ => ∀ env S b S', m env S = some (b, S') → ∀ r σ H (Q : Bool → Hp → Prop), At X r env S σ H →
 (∀ r' H', Sim X.K X.mg r' S' H' → Lat r H r' H' → Q b H') → TMt X e σ H Q
) := ⟨CT.run⟩
structure CW (X : Cx) (e : Expr) (m : MT) : Prop where
 run : ∀ env S b S', m env S = some (b, S') → ∀ r σ H (Q : Bool → Hp → Prop), At X r env S σ H →
 (∀ r' H', Sim X.K X.mg r' S' H' → Lat r H r' H' → Q b H') → TMw X e σ H Q
instance {X : Cx} {e : Expr} {m : MT} : CoeFun (CW X e m) (fun _ => ∀ env S b S', m env S = some (b, S') → ∀ r σ H (Q : Bool → Hp → Prop), At X r env S σ H →
 (∀ r' H', Sim X.K X.mg r' S' H' → Lat r H r' H' → Q b H') → TMw X e σ H Q
) := ⟨CW.run⟩
structure CA (X : Cx) (es : List Expr) (m : MA) : Prop where
 run : ∀ env S ds S', m env S = some (ds, S') → ∀ r σ H (Q : List V → Hp → Prop), At X r env S σ H →
 (∀ r' H' vs, Sim X.K X.mg r' S' H' → Lat r H r' H' → RepL X.K X.mg r' H' ds vs → Q vs H') → TMa X es σ H Q
instance {X : Cx} {es : List Expr} {m : MA} : CoeFun (CA X es m) (fun _ => ∀ env S ds S', m env S = some (ds, S') → ∀ r σ H (Q : List V → Hp → Prop), At X r env S σ H →
 (∀ r' H' vs, Sim X.K X.mg r' S' H' → Lat r H r' H' → RepL X.K X.mg r' H' ds vs → Q vs H') → TMa X es σ H Q
) := ⟨CA.run⟩
def EndsOk (X : Cx) (r : List Addr) (H : Hp) (f : Flw) (env' : Env) (S' : Sto) (D : Ends) : Prop :=
 match f with
 | .nx => ∀ r' σ' H', At X r' env' S' σ' H' → Lat r H r' H' → D.nx σ' H'
 | .bk => ∀ r' σ' H', At X r' env' S' σ' H' → Lat r H r' H' → D.bk σ' H'
 | .ct => ∀ r' σ' H', At X r' env' S' σ' H' → Lat r H r' H' → D.ct σ' H'
 | .rt d => ∀ r' H' v, Sim X.K X.mg r' S' H' → Lat r H r' H' → RepV X.K X.mg r' H' d v → D.rt v H'
structure CS (X : Cx) (st : Stmt) (m : MS) : Prop where
 run : ∀ env S f env' S', m env S = some (f, env', S') → ∀ r σ H (D : Ends), At X r env S σ H → EndsOk X r H f env' S' D → TMs X st D σ H
instance {X : Cx} {st : Stmt} {m : MS} : CoeFun (CS X st m) (fun _ => ∀ env S f env' S', m env S = some (f, env', S') → ∀ r σ H (D : Ends), At X r env S σ H → EndsOk X r H f env' S' D → TMs X st D σ H
) := ⟨CS.run⟩
structure CSs (X : Cx) (st : List Stmt) (m : MS) : Prop where
 run : ∀ env S f env' S', m env S = some (f, env', S') → ∀ r σ H (D : Ends), At X r env S σ H → EndsOk X r H f env' S' D → TMss X st D σ H
instance {X : Cx} {st : List Stmt} {m : MS} : CoeFun (CSs X st m) (fun _ => ∀ env S f env' S', m env S = some (f, env', S') → ∀ r σ H (D : Ends), At X r env S σ H → EndsOk X r H f env' S' D → TMss X st D σ H
) := ⟨CSs.run⟩
theorem EndsOk.lat {X : Cx} {r r1 : List Addr} {H H1 : Hp} {f : Flw} {env' : Env} {S' : Sto} {D : Ends} (l : Lat r H r1 H1) (h : EndsOk X r H f env' S' D) : EndsOk X r1 H1 f env' S' D := by
 cases f with
 | nx => exact fun r' σ' H' a b => h r' σ' H' a (l.trans b)
 | bk => exact fun r' σ' H' a b => h r' σ' H' a (l.trans b)
 | ct => exact fun r' σ' H' a b => h r' σ' H' a (l.trans b)
 | rt d => exact fun r' H' v a b c => h r' H' v a (l.trans b) c
end
end
end PL
end
section
namespace PL
open PySem PySem.Spec PyProof.Rows L2
variable [Tbl]
abbrev R := Option (D × Sto)
section
variable {X : Cx}
def mVar (i : Nat) : ME := fun env S => match env[i]? with
 | some (some d) => some (d, S)
 | _ => none
def mC (d : D) : ME := fun _ S => some (d, S)
theorem cE_var {i : Nat} {x : Str} {pos : Pos} (hN : X.N[i]? = some x) (hv : Vis X.env.scope x) (hd : (x == ("__debug__" : Str)) = false := by decide) (hcd : (x == ("__classdict__" : Str)) = false := by decide) : CE X (.Name x pos) (mVar i) := by
 refine ⟨?_⟩
 intro env S d S' h r σ H Q A hq
 unfold mVar at h
 split at h
 ·rename_i d' e
  cases h
  obtain ⟨v, e1, q⟩ := A.env.at_ i d e
  exact tm_of (pe_var hN hv hd hcd) ⟨v, e1, hq r H v A.sim .refl q⟩
 ·cases h
theorem cE_const {e : Expr} {d : D} {v : V} (h : PE X e (tC v)) (q : ∀ r H, RepV X.K X.mg r H d v) : CE X e (mC d) := by
 refine ⟨?_⟩
 intro env S d' S' hm r σ H Q A hq
 cases hm
 exact tm_of h (hq r H v A.sim .refl (q r H))
theorem cE_int {i j pos} : CE X (.Constant (.int i) j pos) (mC (.int i)) := cE_const pe_int fun _ _ => .int i
theorem cE_bl {i j pos} : CE X (.Constant (.bool i) j pos) (mC (.bl i)) := cE_const pe_bl fun _ _ => .bl i
theorem cE_non {j pos} : CE X (.Constant .none j pos) (mC .non) := cE_const pe_non fun _ _ => .non
theorem cE_str {x j pos} : CE X (.Constant (.str x) j pos) (mC (.str x)) := cE_const pe_str fun _ _ => .str x
theorem cE_fn {x : Str} {f : Addr} {pos : Pos} (hg : Gl X x) (hm : X.mg x = some (.ref f)) (hd : (x == ("__debug__" : Str)) = false := by decide) : CE X (.Name x pos) (mC (.fn x)) :=
 cE_const (pe_glob hg hm (v := .ref f) rfl hd) fun _ _ => .fn hm
theorem cE_glob {x : Str} {u : Value} {v : V} {d : D} {pos : Pos} (hg : Gl X x) (hm : X.mg x = some u) (rv : RelV v u) (q : ∀ r H, RepV X.K X.mg r H d v) (hd : (x == ("__debug__" : Str)) = false := by decide) : CE X (.Name x pos) (mC d) :=
 cE_const (pe_glob hg hm rv hd) q
def mNil : MA := fun _ S => some ([], S)
def mCons (a : ME) (b : MA) : MA := fun env S => (a env S).bind fun p => (b env p.2).bind fun q => some (p.1 :: q.1, q.2)
theorem cA_nil : CA X [] mNil := by
 refine ⟨?_⟩
 intro env S ds S' h r σ H Q A hq
 cases h
 exact tma_of pa_nil (hq r H [] A.sim .refl .nil)
theorem At.lat {r r' : List Addr} {env : Env} {S S' : Sto} {σ : L2.St} {H H' : Hp} (A : At X r env S σ H) (s : Sim X.K X.mg r' S' H') (l : Lat r H r' H') : At X r' env S' σ H' := ⟨s, A.env.lat l⟩
theorem cA_cons {e : Expr} {es : List Expr} {a : ME} {b : MA} (ha : CE X e a) (hb : CA X es b) (hs : starEach (e :: es) X.env = (false, eval e X.env) :: starEach es X.env := by rfl) : CA X (e :: es) (mCons a b) := by
 refine ⟨?_⟩
 intro env S ds S' h r σ H Q A hq
 obtain ⟨⟨d, S1⟩, e1, h⟩ := Option.bind_eq_some_iff.mp h
 obtain ⟨⟨ds', S2⟩, e2, h⟩ := Option.bind_eq_some_iff.mp h
 cases h
 refine tma_of (pa_cons pe_tm pa_tm hs) (ha env S d S1 e1 r σ H _ A fun r1 H1 v s1 l1 q1 => ?_)
 refine hb env S1 ds' S2 e2 r1 σ H1 _ (A.lat s1 l1) fun r2 H2 vs s2 l2 q2 => ?_
 exact hq r2 H2 (v :: vs) s2 (l1.trans l2) (.cons (q1.lat l2) q2)
def newL (xs : List D) (S : Sto) : R := some (.ref S.length, S ++ [.lst xs])
theorem newL_ok {r : List Addr} {S : Sto} {H : Hp} {xs : List D} {vs : List V} {d : D} {S' : Sto} {p : Addr} (s : Sim X.K X.mg r S H) (np : H p = none) (q : RepL X.K X.mg r H xs vs) (h : newL xs S = some (d, S')) :
  Sim X.K X.mg (r ++ [p]) S' (upd H p (.lst vs)) ∧ Lat r H (r ++ [p]) (upd H p (.lst vs)) ∧ RepV X.K X.mg (r ++ [p]) (upd H p (.lst vs)) d (.ref p) := by
 cases h
 refine ⟨s.new np ⟨vs, upd_same, q.lat (lat_new np)⟩, lat_new np, .ref ?_⟩
 rw [← s.len, List.getElem?_append_right (Nat.le_refl _), Nat.sub_self]
 rfl
def mLst (a : MA) : ME := fun env S => (a env S).bind fun p => if p.1.length ≤ sizeLine then newL p.1 p.2 else none
def mTup (a : MA) : ME := fun env S => (a env S).bind fun p => if p.1.length ≤ sizeLine then some (.tup p.1, p.2) else none
theorem cE_lst {es : List Expr} {a : MA} {pos : Pos} (ha : CA X es a) : CE X (.List es pos) (mLst a) := by
 refine ⟨?_⟩
 intro env S d S' h r σ H Q A hq
 obtain ⟨⟨ds, S1⟩, e1, h⟩ := Option.bind_eq_some_iff.mp h
 split at h
 ·rename_i hz
  refine tm_of (pe_lst pa_tm) (ha env S ds S1 e1 r σ H _ A fun r1 H1 vs s1 l1 q1 => ⟨by rw [← q1.length]; exact hz, fun p np => ?_⟩)
  obtain ⟨a1, a2, a3⟩ := newL_ok (X := X) s1 np q1 h
  exact hq _ _ _ a1 (l1.trans a2) a3
 ·cases h
theorem cE_tup {es : List Expr} {a : MA} {x1} {pos : Pos} (ha : CA X es a) : CE X (.Tuple es x1 pos) (mTup a) := by
 refine ⟨?_⟩
 intro env S d S' h r σ H Q A hq
 obtain ⟨⟨ds, S1⟩, e1, h⟩ := Option.bind_eq_some_iff.mp h
 split at h
 ·rename_i hz
  cases h
  refine tm_of (pe_tup pa_tm) (ha env S ds S1 e1 r σ H _ A fun r1 H1 vs s1 l1 q1 => ⟨by rw [← q1.length]; exact hz, fun p np => ?_⟩)
  exact hq r1 _ _ (s1.tup np) (l1.trans (lat_tup np)) (.tup upd_same (q1.lat (lat_tup np)))
 ·cases h
def OpS (X : Cx) (rr : R2) (g : D → D → Sto → R) : Prop := ∀ x y S d S', g x y S = some (d, S') → ∀ r H u v (Q : VK), Sim X.K X.mg r S H → RepV X.K X.mg r H x u → RepV X.K X.mg r H y v →
 (∀ r' H' w, Sim X.K X.mg r' S' H' → Lat r H r' H' → RepV X.K X.mg r' H' d w → Q w H') → rr u v H Q
def mBin (g : D → D → Sto → R) (a b : ME) : ME := fun env S => (a env S).bind fun p => (b env p.2).bind fun q => g p.1 q.1 q.2
theorem bin_ok {a b : Expr} {ma mb : ME} {rr : R2} {g : D → D → Sto → R} (ha : CE X a ma) (hb : CE X b mb) (hg : OpS X rr g) {env : Env} {S : Sto} {d : D} {S' : Sto} (h : mBin g ma mb env S = some (d, S')) {r : List Addr} {σ : L2.St} {H : Hp} {Q : VK} (A : At X r env S σ H)
  (hq : ∀ r' H' v, Sim X.K X.mg r' S' H' → Lat r H r' H' → RepV X.K X.mg r' H' d v → Q v H') : tOp rr (TM X a) (TM X b) σ H Q := by
 obtain ⟨⟨x, S1⟩, e1, h⟩ := Option.bind_eq_some_iff.mp h
 obtain ⟨⟨y, S2⟩, e2, h⟩ := Option.bind_eq_some_iff.mp h
 refine ha env S x S1 e1 r σ H _ A fun r1 H1 u s1 l1 q1 => ?_
 refine hb env S1 y S2 e2 r1 σ H1 _ (A.lat s1 l1) fun r2 H2 v s2 l2 q2 => ?_
 exact hg x y S2 d S' h r2 H2 u v Q s2 (q1.lat l2) q2 fun r3 H3 w s3 l3 q3 => hq r3 H3 w s3 (l1.trans (l2.trans l3)) q3
theorem cE_bin {a b : Expr} {op : Operator} {pos : Pos} {ma mb : ME} {rr : R2} {g : D → D → Sto → R} (ho : OpR X (binaryOp op) rr) (hg : OpS X rr g) (ha : CE X a ma) (hb : CE X b mb) : CE X (.BinOp a op b pos) (mBin g ma mb) :=
 ⟨fun env S d S' h r σ H Q A hq => tm_of (pe_op ho pe_tm pe_tm) (bin_ok ha hb hg h A hq)⟩
theorem cE_cmp {a b : Expr} {op : CmpOp} {pos : Pos} {ma mb : ME} {rr : R2} {g : D → D → Sto → R} (ho : OpR X (compareOp op) rr) (hg : OpS X rr g) (ha : CE X a ma) (hb : CE X b mb) (hm : behindInMarks op b = false) : CE X (.Compare a [op] [b] pos) (mBin g ma mb) :=
 ⟨fun env S d S' h r σ H Q A hq => tm_of (pe_cmpR ho pe_tm pe_tm hm) (bin_ok ha hb hg h A hq)⟩
def asB (m : ME) : MT := fun env S => (m env S).bind fun p => match p.1 with
 | .bl b => some (b, p.2)
 | _ => none
theorem cT_cmp {a b : Expr} {op : CmpOp} {pos : Pos} {ma mb : ME} {rr : R2} {g : D → D → Sto → R} (ho : OpR X (compareOp op) rr) (hg : OpS X rr g) (ha : CE X a ma) (hb : CE X b mb) (hm : behindInMarks op b = false) : CT X (.Compare a [op] [b] pos) (asB (mBin g ma mb)) := by
 refine ⟨?_⟩
 intro env S c S' h r σ H Q A hq
 obtain ⟨⟨d, S1⟩, e1, h⟩ := Option.bind_eq_some_iff.mp h
 split at h
 ·rename_i b' eb
  cases h
  have eb' : d = .bl c := eb
  subst eb'
  refine tmt_of (pt_cmpR ho pe_tm pe_tm hm) (bin_ok (Q := fun x H' => ∃ k, x = .bl k ∧ Q k H') ha hb hg e1 A fun r' H' v s l q => ?_)
  cases q
  exact ⟨c, rfl, hq r' H' s l⟩
 ·cases h
def dTru : D → Sto → Option Bool
 | .non, _ => some false
 | .bl b, _ => some b
 | .int i, _ => some (i != 0)
 | .str x, _ => if x.length ≤ sizeLine then some ((x.length : Int) != 0) else none
 | .tup xs, _ => some (!xs.isEmpty)
 | .ktup xs, _ => some (!xs.isEmpty)
 | .ptup xs, _ => some (!xs.isEmpty)
 | .ref n, S => match S[n]? with
  | some (.lst xs) => some (!xs.isEmpty)
  | some (.cst xs) => some (!xs.isEmpty)
  | some (.dK xs) => some (!xs.isEmpty)
  | _ => none
 | _, _ => none
theorem isEmpty_len {α β : Type} {xs : List α} {ys : List β} (h : xs.length = ys.length) : xs.isEmpty = ys.isEmpty := by
 cases xs <;> cases ys <;> simp at h ⊢
theorem Paired.len {α β : Type} {P : α → β → Prop} : ∀ {xs : List α} {ys : List β}, Paired P xs ys → xs.length = ys.length
 | _, _, .nil => rfl
 | _, _, .cons _ t => congrArg Nat.succ (Paired.len t)
theorem dTru_ok {r : List Addr} {S : Sto} {H : Hp} {d : D} {v : V} {b : Bool} (s : Sim X.K X.mg r S H) (q : RepV X.K X.mg r H d v) (h : dTru d S = some b) : TruV X.K v H b := by
 cases q with
 | non => cases h; rfl
 | bl k => cases h; rfl
 | int i => cases h; rfl
 | str x =>
  have h' : (if x.length ≤ sizeLine then some ((x.length : Int) != 0) else none) = some b := h
  split at h'
  ·rename_i hz
   cases h'
   exact ⟨hz, rfl⟩
  ·cases h'
 | ty n => cases h
 | tup ht hl => cases h; exact .inr (.inl ⟨_, ht.sq, by rw [isEmpty_len hl.length]⟩)
 | ktup ht hl => cases h; exact .inr (.inl ⟨_, ht.sq, by rw [isEmpty_len hl.length]⟩)
 | ptup ht hl => cases h; exact .inr (.inl ⟨_, ht.sq, by rw [isEmpty_len hl.length]⟩)
 | fn _ => cases h
 | exc _ _ => cases h
 | ref e =>
  rename_i n a
  simp only [dTru] at h
  split at h <;> first | (rename_i xs he; cases h; have o := s.ob n _ a he e) | cases h
  ·obtain ⟨vs, e1, q1⟩ := o
   exact .inl ⟨vs, SqL.of e1, by rw [isEmpty_len q1.length]⟩
  ·obtain ⟨vs, e1, q1⟩ := o
   exact .inl ⟨vs, e1.sq, by rw [isEmpty_len q1.length]⟩
  ·obtain ⟨vs, e1, q1⟩ := o
   exact .inr (.inr ⟨vs, e1, by rw [isEmpty_len (Paired.len q1)]⟩)
def mTru (m : ME) : MT := fun env S => (m env S).bind fun p => (dTru p.1 p.2).bind fun b => some (b, p.2)
theorem cT_tru {a : Expr} {m : ME} (ha : CE X a m) (he : ∀ whole, isTrue a X.env whole = (do let v ← whole; standAt a.pos; holding [v] (truthy v))) : CT X a (mTru m) := by
 refine ⟨?_⟩
 intro env S c S' h r σ H Q A hq
 obtain ⟨⟨d, S1⟩, e1, h⟩ := Option.bind_eq_some_iff.mp h
 obtain ⟨k, e2, h⟩ := Option.bind_eq_some_iff.mp h
 cases h
 refine tmt_of (pt_truth pe_tm he) (ha env S d S1 e1 r σ H _ A fun r1 H1 v s1 l1 q1 => ⟨_, dTru_ok (X := X) s1 q1 e2, hq r1 H1 s1 l1⟩)
def mNotT (m : MT) : MT := fun env S => (m env S).bind fun p => some (!p.1, p.2)
theorem cT_not {a : Expr} {m : MT} {pos : Pos} (ha : CT X a m) : CT X (.UnaryOp .Not a pos) (mNotT m) := by
 refine ⟨?_⟩
 intro env S c S' h r σ H Q A hq
 obtain ⟨⟨d, S1⟩, e1, h⟩ := Option.bind_eq_some_iff.mp h
 cases h
 exact tmt_of (pt_not pt_tm) (ha env S d S1 e1 r σ H _ A fun r1 H1 s1 l1 => hq r1 H1 s1 l1)
def mAndT (a b : MT) : MT := fun env S => (a env S).bind fun p => if p.1 = true then b env p.2 else some (false, p.2)
def mOrT (a b : MT) : MT := fun env S => (a env S).bind fun p => if p.1 = true then some (true, p.2) else b env p.2
theorem cT_w {e : Expr} {m : MT} (h : CW X e m) : CT X e m := ⟨fun env S c S' hm r σ H Q A hq => tmt_of (pw_tm.pt) (h env S c S' hm r σ H Q A hq)⟩
theorem cW_and1 {a : Expr} {m : MT} {pos : Pos} (h : CT X a m) : CW X (.BoolOp .And [a] pos) m := ⟨fun env S c S' hm r σ H Q A hq => tmw_of (pw_and1 pt_tm) (h env S c S' hm r σ H Q A hq)⟩
theorem cW_or1 {a : Expr} {m : MT} {pos : Pos} (h : CT X a m) : CW X (.BoolOp .Or [a] pos) m := ⟨fun env S c S' hm r σ H Q A hq => tmw_of (pw_or1 pt_tm) (h env S c S' hm r σ H Q A hq)⟩
theorem cW_and {a b : Expr} {rest : List Expr} {m n : MT} {pos : Pos} (ha : CT X a m) (hb : CW X (.BoolOp .And (b :: rest) pos) n) : CW X (.BoolOp .And (a :: b :: rest) pos) (mAndT m n) := by
 refine ⟨?_⟩
 intro env S c S' h r σ H Q A hq
 obtain ⟨⟨d, S1⟩, e1, h⟩ := Option.bind_eq_some_iff.mp h
 refine tmw_of (pw_and pt_tm pw_tm) (ha env S d S1 e1 r σ H _ A fun r1 H1 s1 l1 => ?_)
 cases d with
 | true => exact hb env S1 c S' h r1 σ H1 Q (A.lat s1 l1) fun r2 H2 s2 l2 => hq r2 H2 s2 (l1.trans l2)
 | false => cases h; exact hq r1 H1 s1 l1
theorem cW_or {a b : Expr} {rest : List Expr} {m n : MT} {pos : Pos} (ha : CT X a m) (hb : CW X (.BoolOp .Or (b :: rest) pos) n) : CW X (.BoolOp .Or (a :: b :: rest) pos) (mOrT m n) := by
 refine ⟨?_⟩
 intro env S c S' h r σ H Q A hq
 obtain ⟨⟨d, S1⟩, e1, h⟩ := Option.bind_eq_some_iff.mp h
 refine tmw_of (pw_or pt_tm pw_tm) (ha env S d S1 e1 r σ H _ A fun r1 H1 s1 l1 => ?_)
 cases d with
 | false => exact hb env S1 c S' h r1 σ H1 Q (A.lat s1 l1) fun r2 H2 s2 l2 => hq r2 H2 s2 (l1.trans l2)
 | true => cases h; exact hq r1 H1 s1 l1
def mOrV (a b : ME) : ME := fun env S => (a env S).bind fun p => (dTru p.1 p.2).bind fun k => if k = true then some p else b env p.2
def mAndV (a b : ME) : ME := fun env S => (a env S).bind fun p => (dTru p.1 p.2).bind fun k => if k = true then b env p.2 else some p
def mNotV (a : ME) : ME := fun env S => (a env S).bind fun p => (dTru p.1 p.2).bind fun k => some (.bl (!k), p.2)
theorem cE_one {op} {a : Expr} {m : ME} {pos : Pos} (h : CE X a m) : CE X (.BoolOp op [a] pos) m := ⟨fun env S c S' hm r σ H Q A hq => tm_of (pe_one pe_tm) (h env S c S' hm r σ H Q A hq)⟩
theorem cE_or {a b : Expr} {rest : List Expr} {m n : ME} {pos : Pos} (ha : CE X a m) (hb : CE X (.BoolOp .Or (b :: rest) pos) n) : CE X (.BoolOp .Or (a :: b :: rest) pos) (mOrV m n) := by
 refine ⟨?_⟩
 intro env S c S' h r σ H Q A hq
 obtain ⟨⟨d, S1⟩, e1, h⟩ := Option.bind_eq_some_iff.mp h
 obtain ⟨k, e2, h⟩ := Option.bind_eq_some_iff.mp h
 refine tm_of (pe_orT pe_tm pe_tm) (ha env S d S1 e1 r σ H _ A fun r1 H1 v s1 l1 q1 => ⟨k, dTru_ok (X := X) s1 q1 e2, ?_⟩)
 cases k with
 | false => exact hb env S1 c S' h r1 σ H1 Q (A.lat s1 l1) fun r2 H2 w s2 l2 q2 => hq r2 H2 w s2 (l1.trans l2) q2
 | true => cases h; exact hq r1 H1 v s1 l1 q1
theorem cE_and {a b : Expr} {rest : List Expr} {m n : ME} {pos : Pos} (ha : CE X a m) (hb : CE X (.BoolOp .And (b :: rest) pos) n) : CE X (.BoolOp .And (a :: b :: rest) pos) (mAndV m n) := by
 refine ⟨?_⟩
 intro env S c S' h r σ H Q A hq
 obtain ⟨⟨d, S1⟩, e1, h⟩ := Option.bind_eq_some_iff.mp h
 obtain ⟨k, e2, h⟩ := Option.bind_eq_some_iff.mp h
 refine tm_of (pe_andT pe_tm pe_tm) (ha env S d S1 e1 r σ H _ A fun r1 H1 v s1 l1 q1 => ⟨k, dTru_ok (X := X) s1 q1 e2, ?_⟩)
 cases k with
 | true => exact hb env S1 c S' h r1 σ H1 Q (A.lat s1 l1) fun r2 H2 w s2 l2 q2 => hq r2 H2 w s2 (l1.trans l2) q2
 | false => cases h; exact hq r1 H1 v s1 l1 q1
theorem cE_not {a : Expr} {m : ME} {pos : Pos} (ha : CE X a m) : CE X (.UnaryOp .Not a pos) (mNotV m) := by
 refine ⟨?_⟩
 intro env S c S' h r σ H Q A hq
 obtain ⟨⟨d, S1⟩, e1, h⟩ := Option.bind_eq_some_iff.mp h
 obtain ⟨k, e2, h⟩ := Option.bind_eq_some_iff.mp h
 cases h
 exact tm_of (pe_notT pe_tm) (ha env S d S1 e1 r σ H _ A fun r1 H1 v s1 l1 q1 => ⟨k, dTru_ok (X := X) s1 q1 e2, hq r1 H1 _ s1 l1 (.bl _)⟩)
def mIf (c : MT) (a b : ME) : ME := fun env S => (c env S).bind fun p => if p.1 = true then a env p.2 else b env p.2
theorem cE_if {c a b : Expr} {mc : MT} {ma mb : ME} {pos : Pos} (hc : CT X c mc) (ha : CE X a ma) (hb : CE X b mb) : CE X (.IfExp c a b pos) (mIf mc ma mb) := by
 refine ⟨?_⟩
 intro env S d S' h r σ H Q A hq
 obtain ⟨⟨k, S1⟩, e1, h⟩ := Option.bind_eq_some_iff.mp h
 refine tm_of (pe_ifExp pt_tm pe_tm pe_tm) (hc env S k S1 e1 r σ H _ A fun r1 H1 s1 l1 => ?_)
 cases k with
 | true => exact ha env S1 d S' h r1 σ H1 Q (A.lat s1 l1) fun r2 H2 w s2 l2 q2 => hq r2 H2 w s2 (l1.trans l2) q2
 | false => exact hb env S1 d S' h r1 σ H1 Q (A.lat s1 l1) fun r2 H2 w s2 l2 q2 => hq r2 H2 w s2 (l1.trans l2) q2
def spM (K : PySem.W.Frag) (mg : Str → Option Value) (n : Nat) (m : MF) : Sp := fun vs H Q _ => ∃ r S ds d S', ds.length = n ∧ Sim K mg r S H ∧ RepL K mg r H ds vs ∧ m ds S = some (d, S') ∧
 ∀ r' H' v, Sim K mg r' S' H' → Lat r H r' H' → RepV K mg r' H' d v → Q v H'
def mCall (n : Nat) (m : MF) (a : MA) : ME := fun env S => (a env S).bind fun p => if p.1.length = n then m p.1 p.2 else none
def CallS (X : Cx) (rr : List V → Hp → VK → Prop) (g : List D → Sto → R) : Prop := ∀ xs S d S', g xs S = some (d, S') → ∀ r H vs (Q : VK), Sim X.K X.mg r S H → RepL X.K X.mg r H xs vs →
 (∀ r' H' w, Sim X.K X.mg r' S' H' → Lat r H r' H' → RepV X.K X.mg r' H' d w → Q w H') → rr vs H Q
def mBlt (g : List D → Sto → R) (a : MA) : ME := fun env S => (a env S).bind fun p => g p.1 p.2
section
variable {x : Str} {p pos : Pos} {e : Expr} {es : List Expr} {a : MA} {rr : List V → Hp → VK → Prop} {g : List D → Sto → R} {id T : String}
theorem cE_callB (hc : CallR X (.builtin id) rr) (hs : CallS X rr g) (hg : Gl X x) (hm : X.mg x = none) (hv : bootBuiltins x = some (.builtin id)) (ha : CA X (e :: es) a) (hn : x ≠ "__name__" := by decide) (hdb : (x == ("__debug__" : Str)) = false := by decide)
  (he : starEach (e :: es) X.env = (false, eval e X.env) :: starEach es X.env := by rfl) (hpl : (backTo pos (starEach es X.env)).any (·.1) = false := by rfl) : CE X (.Call (.Name x p) (e :: es) [] pos) (mBlt g a) := by
 refine ⟨?_⟩
 intro env S d S' h r σ H Q A hq
 obtain ⟨⟨ds, S1⟩, e1, h⟩ := Option.bind_eq_some_iff.mp h
 refine tm_of (pe_callB hc hg hm hv pa_tm hn hdb he hpl) (ha env S ds S1 e1 r σ H _ A fun r1 H1 vs s1 l1 q1 => ?_)
 exact hs ds S1 d S' h r1 H1 vs Q s1 q1 fun r2 H2 w s2 l2 q2 => hq r2 H2 w s2 (l1.trans l2) q2
theorem cE_callTy (hc : CallR X (.type T) rr) (hs : CallS X rr g) (hg : Gl X x) (hm : X.mg x = none) (hv : bootBuiltins x = some (.type T)) (ha : CA X (e :: es) a) (hn : x ≠ "__name__" := by decide) (hdb : (x == ("__debug__" : Str)) = false := by decide)
  (he : starEach (e :: es) X.env = (false, eval e X.env) :: starEach es X.env := by rfl) (hpl : (backTo pos (starEach es X.env)).any (·.1) = false := by rfl) : CE X (.Call (.Name x p) (e :: es) [] pos) (mBlt g a) := by
 refine ⟨?_⟩
 intro env S d S' h r σ H Q A hq
 obtain ⟨⟨ds, S1⟩, e1, h⟩ := Option.bind_eq_some_iff.mp h
 refine tm_of (pe_callTy hc hg hm hv pa_tm hn hdb he hpl) (ha env S ds S1 e1 r σ H _ A fun r1 H1 vs s1 l1 q1 => ?_)
 exact hs ds S1 d S' h r1 H1 vs Q s1 q1 fun r2 H2 w s2 l2 q2 => hq r2 H2 w s2 (l1.trans l2) q2
end
def MtS (X : Cx) (T : String) (rr : V → List V → Hp → VK → Prop) (g : D → List D → Sto → R) : Prop := ∀ x xs S d S', g x xs S = some (d, S') → ∀ r H u vs (Q : VK), Sim X.K X.mg r S H → RepV X.K X.mg r H x u → RepL X.K X.mg r H xs vs →
 (∀ r' H' w, Sim X.K X.mg r' S' H' → Lat r H r' H' → RepV X.K X.mg r' H' d w → Q w H') → rr u vs H Q
def dIs (T : String) : D → Sto → Bool
 | .str _, _ => T == "str"
 | .int _, _ => T == "int"
 | .ref n, S => match S[n]? with
  | some (.lst _) => T == "list"
  | some (.cst _) => T == "list"
  | some (.dK _) => T == "dict"
  | some (.dT _) => T == "dict"
  | _ => false
 | _, _ => false
theorem dIs_ok {T : String} {r : List Addr} {S : Sto} {H : Hp} {d : D} {v : V} (s : Sim X.K X.mg r S H) (q : RepV X.K X.mg r H d v) (h : dIs T d S = true) : tyV X.K T v H := by
 cases q with
 | str x => exact eq_of_beq h
 | int i => exact eq_of_beq h
 | ref e =>
  rename_i n a
  simp only [dIs] at h
  split at h <;> first | (rename_i xs he; have o := s.ob n _ a he e; have hT := eq_of_beq h; subst hT) | cases h
  ·obtain ⟨vs, e1, q1⟩ := o
   exact .inl ⟨rfl, vs, SqL.of e1⟩
  ·obtain ⟨vs, e1, q1⟩ := o
   exact .inl ⟨rfl, vs, e1.sq⟩
  ·obtain ⟨vs, e1, q1⟩ := o
   exact .inr (.inr (.inl ⟨rfl, .inl ⟨vs, e1⟩⟩))
  ·obtain ⟨vs, e1, q1⟩ := o
   exact .inr (.inr (.inl ⟨rfl, .inr ⟨vs, e1⟩⟩))
 | _ => cases h
def mMt (T : String) (g : D → List D → Sto → R) (o : ME) (a : MA) : ME := fun env S => (o env S).bind fun p => if dIs T p.1 p.2 = true then (a env p.2).bind fun q => g p.1 q.1 q.2 else none
section
variable {T id : String} {name : Str} {apos cpos : Pos} {o e : Expr} {es : List Expr} {a : MA} {mo : ME} {rr : V → List V → Hp → VK → Prop} {g : D → List D → Sto → R}
theorem cE_mt0 (pa : PlainAttrs T) (slot : Slot T name id) (hty : typeOf (.builtin id) = pure (.type "method_descriptor")) (hm : MtR X id rr) (hs : MtS X T rr g) (ho : CE X o mo)
  (hbase : attributeBase o name X.env (eval o X.env) = eval o X.env := by rfl) (hline : (apos.endLine == cpos.line) = true := by rfl) : CE X (.Call (.Attribute o name apos) [] [] cpos) (mMt T g mo mNil) := by
 refine ⟨?_⟩
 intro env S d S' h r σ H Q A hq
 obtain ⟨⟨x, S1⟩, e1, h⟩ := Option.bind_eq_some_iff.mp h
 split at h
 ·rename_i hT
  refine tm_of (pe_bm0 pa slot hty hm pe_tm hbase hline) (ho env S x S1 e1 r σ H _ A fun r1 H1 v s1 l1 q1 => ⟨dIs_ok (X := X) s1 q1 hT, ?_⟩)
  exact hs x [] S1 d S' h r1 H1 v [] Q s1 q1 .nil fun r2 H2 w s2 l2 q2 => hq r2 H2 w s2 (l1.trans l2) q2
 ·cases h
theorem cE_mt (pa : PlainAttrs T) (slot : Slot T name id) (hty : typeOf (.builtin id) = pure (.type "method_descriptor")) (hm : MtR X id rr) (hs : MtS X T rr g) (ho : CE X o mo) (ha : CA X (e :: es) a)
  (hbase : attributeBase o name X.env (eval o X.env) = eval o X.env := by rfl)
  (hfew : ((backTo cpos (starEach (e :: es) X.env)).all (fun x => !x.1) && (backToKw cpos (keywordEach [] X.env)).all (fun x => x.1.isSome)
   && decide ((e :: es).length + ([] : List Keyword).length + (if ([] : List Keyword).isEmpty then 0 else 1) < 30)) = true := by rfl)
  (hline : (apos.endLine == cpos.line) = true := by rfl) (hst : starEach (e :: es) X.env = (false, eval e X.env) :: starEach es X.env := by rfl) (hplain : (backTo cpos (starEach es X.env)).any (·.1) = false := by rfl) :
  CE X (.Call (.Attribute o name apos) (e :: es) [] cpos) (mMt T g mo a) := by
 refine ⟨?_⟩
 intro env S d S' h r σ H Q A hq
 obtain ⟨⟨x, S1⟩, e1, h⟩ := Option.bind_eq_some_iff.mp h
 split at h
 ·rename_i hT
  obtain ⟨⟨ds, S2⟩, e2, h⟩ := Option.bind_eq_some_iff.mp h
  refine tm_of (pe_bm pa slot hty hm pe_tm pa_tm hbase hfew hline hst hplain) (ho env S x S1 e1 r σ H _ A fun r1 H1 v s1 l1 q1 => ⟨dIs_ok (X := X) s1 q1 hT, ?_⟩)
  refine ha env S1 ds S2 e2 r1 σ H1 _ (A.lat s1 l1) fun r2 H2 vs s2 l2 q2 => ?_
  exact hs x ds S2 d S' h r2 H2 v vs Q s2 (q1.lat l2) q2 fun r3 H3 w s3 l3 q3 => hq r3 H3 w s3 (l1.trans (l2.trans l3)) q3
 ·cases h
end
theorem cE_ix {a b : Expr} {pos : Pos} {ma mb : ME} {rr : R2} {g : D → D → Sto → R} (hr : IxR X rr) (hg : OpS X rr g) (ha : CE X a ma) (hb : CE X b mb) (hs : PlainIx b) : CE X (.Subscript a b pos) (mBin g ma mb) :=
 ⟨fun env S d S' h r σ H Q A hq => tm_of (pe_ix hr pe_tm pe_tm hs) (bin_ok ha hb hg h A hq)⟩
abbrev MO := Env → Sto → Option (Option Int × Sto)
structure CO (X : Cx) (e : Option Expr) (m : MO) : Prop where
 run : ∃ t, PO X e t ∧ ∀ env S i S', m env S = some (i, S') → ∀ r σ H (Q : Option Int → Hp → Prop), At X r env S σ H →
 (∀ r' H', Sim X.K X.mg r' S' H' → Lat r H r' H' → Q i H') → t σ H Q
def mNo : MO := fun _ S => some (none, S)
def mPart (m : ME) : MO := fun env S => (m env S).bind fun p => match p.1 with
 | .int i => if -(2 ^ 63) ≤ i ∧ i < 2 ^ 63 then some (some i, p.2) else none
 | _ => none
theorem cO_some {e : Expr} {m : ME} (he : CE X e m) : CO X (some e) (mPart m) := by
 refine ⟨_, po_some pe_tm, fun env S i S' h r σ H Q A hq => ?_⟩
 obtain ⟨⟨x, S1⟩, e1, h⟩ := Option.bind_eq_some_iff.mp h
 split at h
 ·rename_i j ej
  have ej' : x = .int j := ej
  subst ej'
  split at h
  ·cases h
   refine he env S _ S1 e1 r σ H _ A fun r1 H1 v s1 l1 q1 => ?_
   cases q1
   exact ⟨_, rfl, hq r1 H1 s1 l1⟩
  ·cases h
 ·cases h
theorem cO_none : CO X none mNo := ⟨_, po_none, fun env S i S' h r σ H Q A hq => by cases h; exact hq r H A.sim .refl⟩
def SlS (X : Cx) (rr : V → Option Int → Option Int → Hp → VK → Prop) (g : D → Option Int → Option Int → Sto → R) : Prop := ∀ x lo hi S d S', g x lo hi S = some (d, S') → ∀ r H u (Q : VK), Sim X.K X.mg r S H → RepV X.K X.mg r H x u →
 (∀ r' H' w, Sim X.K X.mg r' S' H' → Lat r H r' H' → RepV X.K X.mg r' H' d w → Q w H') → rr u lo hi H Q
def mSl (g : D → Option Int → Option Int → Sto → R) (o : ME) (a b : MO) : ME := fun env S => (o env S).bind fun p => (a env p.2).bind fun q => (b env q.2).bind fun t => g p.1 q.1 t.1 t.2
theorem cE_sl {e : Expr} {lo hi : Option Expr} {p2 pos : Pos} {m : ME} {a b : MO} {rr : V → Option Int → Option Int → Hp → VK → Prop} {g : D → Option Int → Option Int → Sto → R} (hr : SlR X rr) (hg : SlS X rr g) (he : CE X e m) (ha : CO X lo a) (hb : CO X hi b) : CE X (.Subscript e (.Slice lo hi none p2) pos) (mSl g m a b) := by
 refine ⟨?_⟩
 intro env S d S' h r σ H Q A hq
 obtain ⟨ta, pa, ha⟩ := ha
 obtain ⟨tb, pb, hb⟩ := hb
 obtain ⟨⟨x, S1⟩, e1, h⟩ := Option.bind_eq_some_iff.mp h
 obtain ⟨⟨i, S2⟩, e2, h⟩ := Option.bind_eq_some_iff.mp h
 obtain ⟨⟨j, S3⟩, e3, h⟩ := Option.bind_eq_some_iff.mp h
 refine tm_of (pe_slice hr pe_tm pa pb) (he env S x S1 e1 r σ H _ A fun r1 H1 v s1 l1 q1 => ?_)
 refine ha env S1 i S2 e2 r1 σ H1 _ (A.lat s1 l1) fun r2 H2 s2 l2 => ?_
 refine hb env S2 j S3 e3 r2 σ H2 _ ((A.lat s1 l1).lat s2 l2) fun r3 H3 s3 l3 => ?_
 exact hg x i j S3 d S' h r3 H3 v Q s3 ((q1.lat l2).lat l3) fun r4 H4 w s4 l4 q4 => hq r4 H4 w s4 (l1.trans (l2.trans (l3.trans l4))) q4
end
end PL
end
section
namespace PL
open PySem PySem.Spec PyProof.Rows L2
variable [Tbl]
section
variable {X : Cx}
def mNext : MS := fun env S => some (.nx, env, S)
def mSeq (a b : MS) : MS := fun env S => (a env S).bind fun p => match p.1 with
 | .nx => b p.2.1 p.2.2
 | _ => some p
theorem cSs_nil : CSs X [] mNext := by
 refine ⟨?_⟩
 intro env S f env' S' h r σ H D A hq
 cases h
 exact tmss_of pss_nil (hq r σ H A .refl)
theorem cSs_cons {st : Stmt} {rest : List Stmt} {a b : MS} (ha : CS X st a) (hb : CSs X rest b) : CSs X (st :: rest) (mSeq a b) := by
 refine ⟨?_⟩
 intro env S f env' S' h r σ H D A hq
 obtain ⟨⟨f1, env1, S1⟩, e1, h⟩ := Option.bind_eq_some_iff.mp h
 refine tmss_of (pss_cons ps_tm pss_tm) (ha env S f1 env1 S1 e1 r σ H _ A ?_)
 cases f1 with
 | nx => exact fun r1 σ1 H1 A1 l1 => hb env1 S1 f env' S' h r1 σ1 H1 D A1 (hq.lat l1)
 | bk => cases h; exact hq
 | ct => cases h; exact hq
 | rt d => cases h; exact hq
theorem cSs_one {st : Stmt} {a : MS} (ha : CS X st a) : CSs X [st] a := by
 refine ⟨?_⟩
 intro env S f env' S' h r σ H D A hq
 exact tmss_of (pss_one ps_tm) (ha env S f env' S' h r σ H D A hq)
def mDrop (m : ME) : MS := fun env S => (m env S).bind fun p => some (.nx, env, p.2)
theorem cS_expr {e : Expr} {m : ME} {pos : Pos} (he : CE X e m) (hs : swapsWith e none pos.line X.env = pure false := by rfl) : CS X (.Expr e pos) (mDrop m) := by
 refine ⟨?_⟩
 intro env S f env' S' h r σ H D A hq
 obtain ⟨⟨d, S1⟩, e1, h⟩ := Option.bind_eq_some_iff.mp h
 cases h
 exact tms_of (ps_expr pe_tm hs) (he env S d S1 e1 r σ H _ A fun r1 H1 v s1 l1 q1 => hq r1 σ H1 (A.lat s1 l1) l1)
def mRet (m : ME) : MS := fun env S => (m env S).bind fun p => some (.rt p.1, env, p.2)
theorem cS_ret {e : Expr} {m : ME} {pos : Pos} (he : CE X e m) : CS X (.Return (some e) pos) (mRet m) := by
 refine ⟨?_⟩
 intro env S f env' S' h r σ H D A hq
 obtain ⟨⟨d, S1⟩, e1, h⟩ := Option.bind_eq_some_iff.mp h
 cases h
 exact tms_of (ps_ret pe_tm) (he env S d S1 e1 r σ H _ A fun r1 H1 v s1 l1 q1 => hq r1 H1 v s1 l1 q1)
def mIfS (c : MT) (a b : MS) : MS := fun env S => (c env S).bind fun p => if p.1 = true then a env p.2 else b env p.2
theorem cS_if {c : Expr} {x y : List Stmt} {mc : MT} {a b : MS} {pos : Pos} (hc : CT X c mc) (ha : CSs X x a) (hb : CSs X y b) : CS X (.If c x y pos) (mIfS mc a b) := by
 refine ⟨?_⟩
 intro env S f env' S' h r σ H D A hq
 obtain ⟨⟨k, S1⟩, e1, h⟩ := Option.bind_eq_some_iff.mp h
 refine tms_of (ps_if pt_tm pss_tm pss_tm) (hc env S k S1 e1 r σ H _ A fun r1 H1 s1 l1 => ?_)
 cases k with
 | true => exact ha env S1 f env' S' h r1 σ H1 D (A.lat s1 l1) (hq.lat l1)
 | false => exact hb env S1 f env' S' h r1 σ H1 D (A.lat s1 l1) (hq.lat l1)
structure CG (X : Cx) (tg : Expr) (L : List Nat) (m : MG) : Prop where
 run : ∀ d env S env' S', m d env S = some (env', S') → ∀ r σ H v (Q : L2.St → Hp → Prop), At X r env S σ H → RepV X.K X.mg r H d v →
 (∀ r' σ' H', At X r' env' S' σ' H' → Lat r H r' H' → (∀ vs : List Nat, (∀ i ∈ L, i ∈ vs) → wipe σ' vs = wipe σ vs) → Q σ' H') → TMg X tg v σ H Q
instance {X : Cx} {tg : Expr} {L : List Nat} {m : MG} : CoeFun (CG X tg L m) (fun _ => ∀ d env S env' S', m d env S = some (env', S') → ∀ r σ H v (Q : L2.St → Hp → Prop), At X r env S σ H → RepV X.K X.mg r H d v →
 (∀ r' σ' H', At X r' env' S' σ' H' → Lat r H r' H' → (∀ vs : List Nat, (∀ i ∈ L, i ∈ vs) → wipe σ' vs = wipe σ vs) → Q σ' H') → TMg X tg v σ H Q
) := ⟨CG.run⟩
structure CGs (X : Cx) (tgs : List Expr) (L : List Nat) (m : List D → Env → Sto → Option (Env × Sto)) : Prop where
 run : ∃ t : TGs, PGs X tgs t ∧ ∀ ds env S env' S', m ds env S = some (env', S') → ∀ r σ H vs (Q : L2.St → Hp → Prop), At X r env S σ H → RepL X.K X.mg r H ds vs →
 (∀ r' σ' H', At X r' env' S' σ' H' → Lat r H r' H' → (∀ vs : List Nat, (∀ i ∈ L, i ∈ vs) → wipe σ' vs = wipe σ vs) → Q σ' H') → t vs σ H Q
theorem wipe_get (σ : L2.St) : ∀ (vs : List Nat) (j : Nat), (wipe σ vs)[j]? = if j < σ.length then (if j ∈ vs then some none else σ[j]?) else none
 | [], j => by
  by_cases h : j < σ.length
  ·simp [wipe, h]
  ·simp [wipe, h]
 | v :: vs, j => by
  have ih := wipe_get σ vs j
  unfold wipe
  by_cases hv : v = j
  ·subst hv
   by_cases h : v < σ.length
   ·rw [List.getElem?_set_self (by rw [wipe_length]; exact h), if_pos h, if_pos (List.mem_cons_self ..)]
   ·rw [if_neg h, List.getElem?_eq_none (by rw [List.length_set, wipe_length]; omega)]
  ·rw [List.getElem?_set_ne hv, ih]
   have e : (j ∈ v :: vs) ↔ j ∈ vs := by simp [Ne.symm hv]
   simp only [e]
theorem wipe_set {σ : L2.St} {vs : List Nat} {i : Nat} {x : Option V} (h : i ∈ vs) : wipe (σ.set i x) vs = wipe σ vs := by
 apply List.ext_getElem?
 intro j
 rw [wipe_get, wipe_get, List.length_set]
 by_cases hj : j ∈ vs
 ·simp [hj]
 ·have : i ≠ j := fun e => hj (e ▸ h)
  simp [hj, List.getElem?_set_ne this]
def gN (i : Nat) : MG := fun d env S => some (env.set i (some d), S)
theorem cG_name {i : Nat} {x : Str} {pos : Pos} (hN : X.N.Nodup) (hi : X.N[i]? = some x) (hx : Loc X.env.scope x) (hf : X.fn x = true ∨ X.env.scope.names.lookup x = some .local := by first | exact .inl rfl | exact .inr rfl | assumption) : CG X (.Name x pos) [i] (gN i) := by
 refine ⟨?_⟩
 intro d env S env' S' h r σ H v Q A q hq
 cases h
 exact tmg_of (pg_name hN hi hx hf) (hq r _ H ⟨A.sim, A.env.set q⟩ .refl fun vs hv => wipe_set (hv i (by simp)))
def gsN : List D → Env → Sto → Option (Env × Sto) := fun ds env S => match ds with
 | [] => some (env, S)
 | _ => none
def gsC (a : MG) (b : List D → Env → Sto → Option (Env × Sto)) : List D → Env → Sto → Option (Env × Sto) := fun ds env S => match ds with
 | d :: ds => (a d env S).bind fun p => b ds p.1 p.2
 | [] => none
theorem cGs_nil : CGs X [] [] gsN := by
 refine ⟨_, pgs_nil, fun ds env S env' S' h r σ H vs Q A q hq => ?_⟩
 cases q with
 | nil => cases h; exact ⟨rfl, hq r σ H A .refl fun _ _ => rfl⟩
 | cons _ _ => cases h
theorem cGs_cons {e : Expr} {es : List Expr} {L M : List Nat} {a : MG} {b : List D → Env → Sto → Option (Env × Sto)} (ha : CG X e L a) (hb : CGs X es M b) (hs : (assignEach (e :: es) X.env).map (·.2) = assign e X.env :: (assignEach es X.env).map (·.2) := by rfl) :
  CGs X (e :: es) (L ++ M) (gsC a b) := by
 obtain ⟨t, pt, hb⟩ := hb
 refine ⟨_, pgs_cons pg_tm pt hs, fun ds env S env' S' h r σ H vs Q A q hq => ?_⟩
 cases q with
 | nil => cases h
 | cons q1 q2 =>
  obtain ⟨⟨env1, S1⟩, e1, h⟩ := Option.bind_eq_some_iff.mp h
  refine ⟨_, _, rfl, ha _ env S env1 S1 e1 r σ H _ _ A q1 fun r1 σ1 H1 A1 l1 w1 => ?_⟩
  refine hb _ env1 S1 env' S' h r1 σ1 H1 _ Q A1 (q2.lat l1) fun r2 σ2 H2 A2 l2 w2 => ?_
  exact hq r2 σ2 H2 A2 (l1.trans l2) fun vs hv => (w2 vs fun i hi => hv i (List.mem_append_right _ hi)).trans (w1 vs fun i hi => hv i (List.mem_append_left _ hi))
def gT (n : Nat) (b : List D → Env → Sto → Option (Env × Sto)) : MG := fun d env S => match d with
 | .tup ds => if ds.length = n then b ds env S else none
 | .ptup ds => if ds.length = n then b ds env S else none
 | _ => none
theorem cG_tup {es : List Expr} {k n : Nat} {L : List Nat} {pos : Pos} {b : List D → Env → Sto → Option (Env × Sto)} (hc : X.calm = true) (hb : CGs X es L b) (hn : (assignEach es X.env).length = n := by rfl) (hst : (assignEach es X.env).findIdx? (·.1) = none := by rfl) : CG X (.Tuple es k pos) L (gT n b) := by
 obtain ⟨t, pt, hb⟩ := hb
 refine ⟨?_⟩
 intro d env S env' S' h r σ H v Q A q hq
 unfold gT at h
 cases q with
 | tup ht hl =>
  simp only at h
  split at h
  ·rename_i hz
   exact tmg_of (pg_tup hc pt hn hst) ⟨_, _, rfl, ht.sq, by rw [← hl.length]; exact hz, hb _ env S env' S' h r σ H _ Q A hl hq⟩
  ·cases h
 | ptup ht hl =>
  simp only at h
  split at h
  ·rename_i hz
   exact tmg_of (pg_tup hc pt hn hst) ⟨_, _, rfl, ht.sq, by rw [← hl.length]; exact hz, hb _ env S env' S' h r σ H _ Q A hl hq⟩
  ·cases h
 | _ => cases h
def SetS (X : Cx) (t : TSet) (g : D → D → D → Sto → Option Sto) : Prop := ∀ o i d S S', g o i d S = some S' → ∀ r H u v w (Q : Hp → Prop), Sim X.K X.mg r S H → RepV X.K X.mg r H o u → RepV X.K X.mg r H i v → RepV X.K X.mg r H d w →
 (∀ r' H', Sim X.K X.mg r' S' H' → Lat r H r' H' → Q H') → t u v w H Q
def gSubM (o i : ME) (g : D → D → D → Sto → Option Sto) : MG := fun d env S => (o env S).bind fun p => (i env p.2).bind fun q => (g p.1 q.1 d q.2).bind fun S' => some (env, S')
theorem cG_sub {o i : Expr} {mo mi : ME} {t : TSet} {g : D → D → D → Sto → Option Sto} {pos : Pos} (hs : PSet X t) (hg : SetS X t g) (ho : CE X o mo) (hi : CE X i mi)
  (ha : ∀ v, assign (.Subscript o i pos) X.env v = (do
   let ov ← holding [v] (eval o X.env)
   let iv ← holding [v, ov] (eval i X.env)
   standAt pos
   holding [v, ov, iv] (setItem ov iv v)
   release [v, ov, iv] []) := by intro _; rfl) : CG X (.Subscript o i pos) [] (gSubM mo mi g) := by
 refine ⟨?_⟩
 intro d env S env' S' h r σ H v Q A q hq
 obtain ⟨⟨x, S1⟩, e1, h⟩ := Option.bind_eq_some_iff.mp h
 obtain ⟨⟨y, S2⟩, e2, h⟩ := Option.bind_eq_some_iff.mp h
 obtain ⟨S3, e3, h⟩ := Option.bind_eq_some_iff.mp h
 cases h
 refine tmg_of (pg_sub pe_tm pe_tm hs ha) (ho env S x S1 e1 r σ H _ A fun r1 H1 u s1 l1 q1 => ?_)
 refine hi env S1 y S2 e2 r1 σ H1 _ (A.lat s1 l1) fun r2 H2 w s2 l2 q2 => ?_
 refine hg x y d S2 S' e3 r2 H2 u w v _ s2 (q1.lat l2) q2 ((q.lat l1).lat l2) fun r3 H3 s3 l3 => ?_
 exact hq r3 σ H3 (((A.lat s1 l1).lat s2 l2).lat s3 l3) (l1.trans (l2.trans l3)) fun _ _ => rfl
def mAsg (m : ME) (g : MG) : MS := fun env S => (m env S).bind fun p => (g p.1 env p.2).bind fun q => some (.nx, q.1, q.2)
theorem cS_asg {tg e : Expr} {m : ME} {g : MG} {L : List Nat} {pos : Pos} (he : CE X e m) (hg : CG X tg L g) (hs : swapsWithSole [tg] e pos.line X.env = pure false := by rfl) (hw : swappedStores [tg] e X.env = pure none := by rfl)
  (h1 : (assignEach [tg] X.env).map (·.2) = [assign tg X.env] := by rfl) : CS X (.Assign [tg] e pos) (mAsg m g) := by
 refine ⟨?_⟩
 intro env S f env' S' h r σ H D A hq
 obtain ⟨⟨d, S1⟩, e1, h⟩ := Option.bind_eq_some_iff.mp h
 obtain ⟨⟨env2, S2⟩, e2, h⟩ := Option.bind_eq_some_iff.mp h
 cases h
 refine tms_of (ps_asg pe_tm pg_tm hs hw h1) (he env S d S1 e1 r σ H _ A fun r1 H1 v s1 l1 q1 => ?_)
 exact hg d env S1 _ _ e2 r1 σ H1 v _ (A.lat s1 l1) q1 fun r2 σ2 H2 A2 l2 _ => hq r2 σ2 H2 A2 (l1.trans l2)
theorem cS_set {i : Nat} {x : Str} {e : Expr} {m : ME} {pos pos' : Pos} (hN : X.N.Nodup) (hi : X.N[i]? = some x) (hx : Loc X.env.scope x) (he : CE X e m) (hs : swapsWith e (some (.Name x pos')) pos.line X.env = pure false := by rfl) (hf : X.fn x = true ∨ X.env.scope.names.lookup x = some .local := by first | exact .inl rfl | exact .inr rfl | assumption) :
  CS X (.Assign [.Name x pos'] e pos) (mAsg m (gN i)) := by
 refine ⟨?_⟩
 intro env S f env' S' h r σ H D A hq
 obtain ⟨⟨d, S1⟩, e1, h⟩ := Option.bind_eq_some_iff.mp h
 cases h
 refine tms_of (ps_set hN hi hx pe_tm hs hf) (he env S d _ e1 r σ H _ A fun r1 H1 v s1 l1 q1 => ?_)
 exact hq r1 _ H1 ⟨s1, (A.env.lat l1).set q1⟩ l1
def mPar (is : List Nat) (a : MA) : MS := fun env S => (a env S).bind fun p => if p.1.length = is.length then some (.nx, (is.zip p.1).foldl (fun e q => e.set q.1 (some q.2)) env, p.2) else none
abbrev Nxt := Nat → Sto → Option (Option D)
structure ItOk (X : Cx) (J : It) (r0 : List Addr) (H0 : Hp) (nx : Nxt) : Prop where
 stop : ∀ i S r H, Sim X.K X.mg r S H → Lat r0 H0 r H → nx i S = some none → J.stop i H
 go : ∀ i S r H d, Sim X.K X.mg r S H → Lat r0 H0 r H → nx i S = some (some d) → J.go i H
 yld : ∀ i S r H d x H', Sim X.K X.mg r S H → Lat r0 H0 r H → nx i S = some (some d) → J.yld i H x H' → Sim X.K X.mg r S H' ∧ Lat r H r H' ∧ RepV X.K X.mg r H' d x
abbrev MI := Env → Sto → Option ((Nat × Nxt) × Sto)
structure CI (X : Cx) (tg iter : Expr) (m : MI) : Prop where
 run : ∃ wi, PI X tg iter wi ∧ ∀ env S k nx S', m env S = some ((k, nx), S') → ∀ r σ H (Q : It → Hp → Prop), At X r env S σ H →
 (∀ r' H' J, Sim X.K X.mg r' S' H' → Lat r H r' H' → ItOk X J r' H' nx → Q J H') → wi σ H Q
def mForL (nx : Nxt) (g : MG) (b : MS) : Nat → Nat → MS
 | 0, _ => fun _ _ => none
 | k + 1, i => fun env S => (nx i S).bind fun o => match o with
  | none => some (.nx, env, S)
  | some d => (g d env S).bind fun p => (b p.1 p.2).bind fun q => match q.1 with
   | .nx => mForL nx g b k (i + 1) q.2.1 q.2.2
   | .ct => mForL nx g b k (i + 1) q.2.1 q.2.2
   | .bk => some (.nx, q.2.1, q.2.2)
   | .rt d => some (.rt d, q.2.1, q.2.2)
def mFor (it : MI) (g : MG) (b : MS) : MS := fun env S => (it env S).bind fun p => mForL p.1.2 g b p.1.1 0 env p.2
theorem cS_for {tg iter : Expr} {body : List Stmt} {it : MI} {g : MG} {b : MS} {L : List Nat} {pos : Pos} (hp : PassesOwn (model X.prog X.w) X.A X.env X.xe) (hc : X.calm = true) (hi : CI X tg iter it) (hg : CG X tg L g) (hb : CSs X body b)
  (hs : ∀ x, foldedSetIterable iter X.env x = pure x := by intro _; rfl) : CS X (.For tg iter body [] pos) (mFor it g b) := by
 obtain ⟨wi, pw, hi⟩ := hi
 refine ⟨?_⟩
 intro env S f env' S' h r σ H D A hq
 obtain ⟨⟨⟨k, nx⟩, S0⟩, e0, h⟩ := Option.bind_eq_some_iff.mp h
 refine tms_of (ps_for hp hc pw pg_tm pss_tm hs) (hi env S k nx S0 e0 r σ H _ A fun r0 H0 J s0 l0 ok => ?_)
 refine ⟨fun i m σ1 H1 => ∃ r1 env1 S1, At X r1 env1 S1 σ1 H1 ∧ Lat r0 H0 r1 H1 ∧ mForL nx g b m i env1 S1 = some (f, env', S'), ⟨k, r0, env, S0, A.lat s0 l0, .refl, h⟩, ?_⟩
 rintro i m σ1 H1 ⟨r1, env1, S1, A1, l1, h1⟩
 cases m with
 | zero => cases h1
 | succ m =>
  obtain ⟨o, e2, h1⟩ := Option.bind_eq_some_iff.mp h1
  cases o with
  | none =>
   cases h1
   exact .inl ⟨ok.stop i _ r1 H1 A1.sim l1 e2, hq r1 σ1 H1 A1 (l0.trans l1)⟩
  | some d =>
   refine .inr ⟨ok.go i S1 r1 H1 d A1.sim l1 e2, fun σ' H' => ∃ m', m' < m + 1 ∧ ∃ r1 env1 S1, At X r1 env1 S1 σ' H' ∧ Lat r0 H0 r1 H' ∧ mForL nx g b m' (i + 1) env1 S1 = some (f, env', S'), fun σ' H' z => z, fun x H' y => ?_⟩
   obtain ⟨s2, l2, q2⟩ := ok.yld i S1 r1 H1 d x H' A1.sim l1 e2 y
   obtain ⟨⟨env3, S3⟩, e3, h1⟩ := Option.bind_eq_some_iff.mp h1
   obtain ⟨⟨f4, env4, S4⟩, e4, h1⟩ := Option.bind_eq_some_iff.mp h1
   refine hg d env1 S1 env3 S3 e3 r1 σ1 H' x _ (A1.lat s2 l2) q2 fun r3 σ3 H3 A3 l3 _ => ?_
   have l13 := (l1.trans l2).trans l3
   refine hb env3 S3 f4 env4 S4 e4 r3 σ3 H3 _ A3 ?_
   cases f4 with
   | nx => exact fun r5 σ5 H5 A5 l5 => ⟨m, Nat.lt_succ_self m, r5, env4, S4, A5, l13.trans l5, h1⟩
   | ct => exact fun r5 σ5 H5 A5 l5 => ⟨m, Nat.lt_succ_self m, r5, env4, S4, A5, l13.trans l5, h1⟩
   | bk => cases h1; exact fun r5 σ5 H5 A5 l5 => hq r5 σ5 H5 A5 (l0.trans (l13.trans l5))
   | rt d => cases h1; exact fun r5 H5 v s5 l5 q5 => hq r5 H5 v s5 (l0.trans (l13.trans l5)) q5
end
end PL
end
section
namespace PL
open PySem PySem.Spec PyProof.Rows L2
variable [Tbl]
section
variable {X : Cx}
def seqAt (n : Nat) (S : Sto) : Option (List D) := match S[n]? with
 | some (.lst xs) => some xs
 | some (.cst xs) => some xs
 | _ => none
theorem seqAt_ok {r : List Addr} {S : Sto} {H : Hp} {n : Nat} {a : Addr} {xs : List D} (s : Sim X.K X.mg r S H) (ea : r[n]? = some a) (h : seqAt n S = some xs) : ∃ vs, SqL X.K H a vs ∧ RepL X.K X.mg r H xs vs := by
 unfold seqAt at h
 split at h
 ·rename_i ys e
  cases h
  obtain ⟨vs, e1, q⟩ := s.ob n _ a e ea
  exact ⟨vs, SqL.of e1, q⟩
 ·rename_i ys e
  cases h
  obtain ⟨vs, e1, q⟩ := s.ob n _ a e ea
  exact ⟨vs, e1.sq, q⟩
 ·cases h
def nxL (n : Nat) : Nxt := fun i S => (seqAt n S).bind fun xs => some xs[i]?
def nxT (xs : List D) : Nxt := fun i _ => some xs[i]?
def nxS (x : Str) : Nxt := fun i _ => some ((x.cps[i]?).map fun c => .str ⟨#[c]⟩)
def nxR (lo : Int) (n : Nat) : Nxt := fun i _ => some (if i < n then some (.int (lo + i)) else none)
theorem itL {r0 : List Addr} {H0 : Hp} {n : Nat} {a : Addr} (ea : r0[n]? = some a) : ItOk X (Itl X.K a) r0 H0 (nxL n) where
 stop i S r H s l e := by
  obtain ⟨xs, e1, e⟩ := Option.bind_eq_some_iff.mp e
  obtain ⟨vs, h1, q⟩ := seqAt_ok (X := X) s (l.pre _ _ ea) e1
  exact ⟨vs, h1, by rw [← q.length]; exact List.getElem?_eq_none_iff.mp (Option.some.inj e)⟩
 go i S r H d s l e := by
  obtain ⟨xs, e1, e⟩ := Option.bind_eq_some_iff.mp e
  obtain ⟨vs, h1, q⟩ := seqAt_ok (X := X) s (l.pre _ _ ea) e1
  obtain ⟨v, h2, _⟩ := q.get (Option.some.inj e)
  exact ⟨vs, v, h1, h2⟩
 yld i S r H d x H' s l e y := by
  obtain ⟨xs, e1, e⟩ := Option.bind_eq_some_iff.mp e
  obtain ⟨vs, h1, q⟩ := seqAt_ok (X := X) s (l.pre _ _ ea) e1
  obtain ⟨v, h2, h3⟩ := q.get (Option.some.inj e)
  obtain ⟨rfl, hx⟩ := y
  have := hx vs h1
  rw [h2] at this
  cases this
  exact ⟨s, .refl, h3⟩
theorem itT {r0 : List Addr} {H0 : Hp} {a : Addr} {xs : List D} {vs : List V} (ht : TupAt H0 a vs) (q0 : RepL X.K X.mg r0 H0 xs vs) : ItOk X (Itt X.K a) r0 H0 (nxT xs) where
 stop i S r H s l e := ⟨vs, (ht.lat l).sq, by rw [← q0.length]; exact List.getElem?_eq_none_iff.mp (Option.some.inj e)⟩
 go i S r H d s l e := by
  obtain ⟨v, h2, _⟩ := q0.get (Option.some.inj e)
  exact ⟨vs, v, (ht.lat l).sq, h2⟩
 yld i S r H d x H' s l e y := by
  obtain ⟨v, h2, h3⟩ := (q0.lat l).get (Option.some.inj e)
  obtain ⟨rfl, hx⟩ := y
  have := hx vs (ht.lat l).sq
  rw [h2] at this
  cases this
  exact ⟨s, .refl, h3⟩
theorem itPt {r0 : List Addr} {H0 : Hp} {a : Addr} {xs : List D} {vs : List V} (ht : PtAt H0 a vs) (q0 : RepL X.K X.mg r0 H0 xs vs) : ItOk X (Itt X.K a) r0 H0 (nxT xs) where
 stop i S r H s l e := ⟨vs, (ht.lat l).sq, by rw [← q0.length]; exact List.getElem?_eq_none_iff.mp (Option.some.inj e)⟩
 go i S r H d s l e := by
  obtain ⟨v, h2, _⟩ := q0.get (Option.some.inj e)
  exact ⟨vs, v, (ht.lat l).sq, h2⟩
 yld i S r H d x H' s l e y := by
  obtain ⟨v, h2, h3⟩ := (q0.lat l).get (Option.some.inj e)
  obtain ⟨rfl, hx⟩ := y
  have := hx vs (ht.lat l).sq
  rw [h2] at this
  cases this
  exact ⟨s, .refl, h3⟩
theorem itK {r0 : List Addr} {H0 : Hp} {a : Addr} {xs : List D} {vs : List V} (ht : KtAt X.K a vs) (q0 : RepL X.K X.mg r0 H0 xs vs) : ItOk X (Itt X.K a) r0 H0 (nxT xs) where
 stop i S r H s l e := ⟨vs, ht.sq, by rw [← q0.length]; exact List.getElem?_eq_none_iff.mp (Option.some.inj e)⟩
 go i S r H d s l e := by
  obtain ⟨v, h2, _⟩ := q0.get (Option.some.inj e)
  exact ⟨vs, v, ht.sq, h2⟩
 yld i S r H d x H' s l e y := by
  obtain ⟨v, h2, h3⟩ := (q0.lat l).get (Option.some.inj e)
  obtain ⟨rfl, hx⟩ := y
  have := hx vs ht.sq
  rw [h2] at this
  cases this
  exact ⟨s, .refl, h3⟩
theorem itS {r0 : List Addr} {H0 : Hp} {x : Str} : ItOk X (Its x) r0 H0 (nxS x) where
 stop i S r H s l e := by
  have e' := Option.some.inj e
  exact Array.getElem?_eq_none_iff.mp (Option.map_eq_none_iff.mp e')
 go i S r H d s l e := by
  obtain ⟨c, h1, _⟩ := Option.map_eq_some_iff.mp (Option.some.inj e)
  exact (Array.getElem?_eq_some_iff.mp h1).1
 yld i S r H d y H' s l e z := by
  obtain ⟨c, h1, h2⟩ := Option.map_eq_some_iff.mp (Option.some.inj e)
  obtain ⟨rfl, c', h3, rfl⟩ := z
  rw [h1] at h3
  cases h3
  subst h2
  exact ⟨s, .refl, .str _⟩
theorem itR {r0 : List Addr} {H0 : Hp} {lo : Int} {n : Nat} : ItOk X (Itr lo n) r0 H0 (nxR lo n) where
 stop i S r H s l e := by
  have e' := Option.some.inj e
  show n ≤ i
  split at e'
  ·cases e'
  ·omega
 go i S r H d s l e := by
  have e' := Option.some.inj e
  show i < n
  split at e'
  ·assumption
  ·cases e'
 yld i S r H d y H' s l e z := by
  have e' := Option.some.inj e
  obtain ⟨rfl, rfl⟩ := z
  split at e'
  ·cases e'
   exact ⟨s, .refl, .int _⟩
  ·cases e'
def itrOf (d : D) (S : Sto) : Option ((Nat × Nxt) × Sto) := match d with
 | .tup xs => some ((xs.length + 1, nxT xs), S)
 | .ktup xs => some ((xs.length + 1, nxT xs), S)
 | .ptup xs => some ((xs.length + 1, nxT xs), S)
 | .str x => some ((x.cps.size + 1, nxS x), S)
 | .ref n => (seqAt n S).bind fun xs => some ((xs.length + 1, nxL n), S)
 | _ => none
def mItr (m : ME) : MI := fun env S => (m env S).bind fun p => itrOf p.1 p.2
theorem PI.or {tg iter : Expr} {a b : TI} (h : PI X tg iter a) (g : PI X tg iter b) : PI X tg iter (fun σ H R => a σ H R ∨ b σ H R) := ⟨fun pins s σ H R I q => q.elim (h.run pins s σ H R I) (g.run pins s σ H R I)⟩
theorem cI_seq {tg e : Expr} {m : ME} (he : CE X e m) : CI X tg e (mItr m) := by
 refine ⟨_, PI.or (pi_list pe_tm) (PI.or (pi_tup pe_tm) (pi_str pe_tm)), fun env S k nx S' h r σ H Q A hq => ?_⟩
 obtain ⟨⟨d, S1⟩, e1, h⟩ := Option.bind_eq_some_iff.mp h
 have h' : itrOf d S1 = some ((k, nx), S') := h
 clear h
 unfold itrOf at h'
 split at h'
 ·cases h'
  refine .inr (.inl (he env S _ _ e1 r σ H _ A fun r1 H1 v s1 l1 q1 => ?_))
  cases q1 with
  | tup ht hl => exact ⟨_, rfl, ⟨_, ht.sq⟩, hq r1 H1 _ s1 l1 (itT ht hl)⟩
 ·cases h'
  refine .inr (.inl (he env S _ _ e1 r σ H _ A fun r1 H1 v s1 l1 q1 => ?_))
  cases q1 with
  | ktup ht hl => exact ⟨_, rfl, ⟨_, ht.sq⟩, hq r1 H1 _ s1 l1 (itK ht hl)⟩
 ·cases h'
  refine .inr (.inl (he env S _ _ e1 r σ H _ A fun r1 H1 v s1 l1 q1 => ?_))
  cases q1 with
  | ptup ht hl => exact ⟨_, rfl, ⟨_, ht.sq⟩, hq r1 H1 _ s1 l1 (itPt ht hl)⟩
 ·cases h'
  refine .inr (.inr (he env S _ _ e1 r σ H _ A fun r1 H1 v s1 l1 q1 => ?_))
  cases q1
  exact ⟨_, rfl, hq r1 H1 _ s1 l1 itS⟩
 ·obtain ⟨xs, e2, h'⟩ := Option.bind_eq_some_iff.mp h'
  cases h'
  refine .inl (he env S _ _ e1 r σ H _ A fun r1 H1 v s1 l1 q1 => ?_)
  cases q1 with
  | ref ea =>
   obtain ⟨vs, h1, _⟩ := seqAt_ok (X := X) s1 ea e2
   exact ⟨_, rfl, ⟨vs, h1⟩, hq r1 H1 _ s1 l1 (itL ea)⟩
 ·cases h'
def r1Of (ds : List D) (S : Sto) : Option ((Nat × Nxt) × Sto) := match ds with
 | [.int j] => if -(2 ^ 62) ≤ j ∧ j < 2 ^ 62 then some ((j.toNat + 1, nxR 0 j.toNat), S) else none
 | _ => none
def mR1 (a : MA) : MI := fun env S => (a env S).bind fun p => r1Of p.1 p.2
theorem cI_r1 {tg a : Expr} {m : MA} {p pos : Pos} (hg : Gl X "range") (hm : X.mg "range" = none) (ha : CA X [a] m) (hs : starEach [a] X.env = [(false, eval a X.env)] := by rfl) : CI X tg (.Call (.Name "range" p) [a] [] pos) (mR1 m) := by
 refine ⟨_, pi_range1 hg hm pa_tm hs, fun env S k nx S' h r σ H Q A hq => ?_⟩
 obtain ⟨⟨ds, S1⟩, e1, h⟩ := Option.bind_eq_some_iff.mp h
 have h' : r1Of ds S1 = some ((k, nx), S') := h
 clear h
 unfold r1Of at h'
 split at h'
 ·rename_i j
  split at h'
  ·rename_i hj
   cases h'
   refine ha env S _ _ e1 r σ H _ A fun r1 H1 vs s1 l1 q1 => ?_
   obtain ⟨v, rfl, z⟩ := RepL.inv1 q1
   cases z; exact ⟨j, rfl, hj.1, hj.2, hq r1 H1 _ s1 l1 itR⟩
  ·cases h'
 ·cases h'
def r2Of (ds : List D) (S : Sto) : Option ((Nat × Nxt) × Sto) := match ds with
 | [.int i, .int j] => if -(2 ^ 62) ≤ i ∧ i < 2 ^ 62 ∧ -(2 ^ 62) ≤ j ∧ j < 2 ^ 62 then some (((j - i).toNat + 1, nxR i (j - i).toNat), S) else none
 | _ => none
def mR2 (a : MA) : MI := fun env S => (a env S).bind fun p => r2Of p.1 p.2
theorem cI_r2 {tg a b : Expr} {m : MA} {p pos : Pos} (hg : Gl X "range") (hm : X.mg "range" = none) (ha : CA X [a, b] m) (hs : starEach [a, b] X.env = [(false, eval a X.env), (false, eval b X.env)] := by rfl) (hs2 : starEach [b] X.env = [(false, eval b X.env)] := by rfl) : CI X tg (.Call (.Name "range" p) [a, b] [] pos) (mR2 m) := by
 refine ⟨_, pi_range2 hg hm pa_tm hs hs2, fun env S k nx S' h r σ H Q A hq => ?_⟩
 obtain ⟨⟨ds, S1⟩, e1, h⟩ := Option.bind_eq_some_iff.mp h
 have h' : r2Of ds S1 = some ((k, nx), S') := h
 clear h
 unfold r2Of at h'
 split at h'
 ·rename_i i j
  split at h'
  ·rename_i hj
   cases h'
   refine ha env S _ _ e1 r σ H _ A fun r1 H1 vs s1 l1 q1 => ?_
   obtain ⟨v, w, rfl, z, z2⟩ := RepL.inv2 q1
   cases z; cases z2; exact ⟨i, j, rfl, hj, hq r1 H1 _ s1 l1 itR⟩
  ·cases h'
 ·cases h'
def TMts (X : Cx) (ifs : List Expr) : TT := fun σ H Q => ∃ t, PTs X ifs t ∧ t σ H Q
theorem pts_tm {ifs : List Expr} : PTs X ifs (TMts X ifs) := ⟨fun pins s σ H Q I ⟨_, pt, q⟩ => pt.run pins s σ H Q I q⟩
structure CTs (X : Cx) (ifs : List Expr) (m : MT) : Prop where
 run : ∀ env S b S', m env S = some (b, S') → ∀ r σ H (Q : Bool → Hp → Prop), At X r env S σ H → (∀ r' H', Sim X.K X.mg r' S' H' → Lat r H r' H' → Q b H') → TMts X ifs σ H Q
instance {X : Cx} {ifs : List Expr} {m : MT} : CoeFun (CTs X ifs m) (fun _ => ∀ env S b S', m env S = some (b, S') → ∀ r σ H (Q : Bool → Hp → Prop), At X r env S σ H → (∀ r' H', Sim X.K X.mg r' S' H' → Lat r H r' H' → Q b H') → TMts X ifs σ H Q
) := ⟨CTs.run⟩
def mYes : MT := fun _ S => some (true, S)
theorem cTs_nil : CTs X [] mYes := ⟨fun env S b S' h r σ H Q A hq => by
 cases h
 exact ⟨_, pts_nil, hq r H A.sim .refl⟩⟩
abbrev bX (X : Cx) (scope : Scope) (s : Shared) (H : Hp) (C : Addr) (cl : List (Str × Addr)) (fp : List Addr) : Cx := X.blk s H scope (compEnvC scope cl C X.env) fp
def bTE (X : Cx) (sc : Scope) (e : Expr) : TE := fun σ H Q => ∀ s H0 C cl fp, TM (bX X sc s H0 C cl fp) e σ H Q
def bTG (X : Cx) (sc : Scope) (e : Expr) : TG := fun v σ H Q => ∀ s H0 C cl fp, TMg (bX X sc s H0 C cl fp) e v σ H Q
def bTT (X : Cx) (sc : Scope) (es : List Expr) : TT := fun σ H Q => ∀ s H0 C cl fp, TMts (bX X sc s H0 C cl fp) es σ H Q
def wipeE (env : Env) : List Nat → Env
 | [] => env
 | v :: vs => (wipeE env vs).set v none
theorem wipeE_len (env : Env) : ∀ vs : List Nat, (wipeE env vs).length = env.length
 | [] => rfl
 | v :: vs => by unfold wipeE; rw [List.length_set, wipeE_len env vs]
theorem wipeE_some {env : Env} {i : Nat} {x : D} : ∀ {vs : List Nat}, (wipeE env vs)[i]? = some (some x) → env[i]? = some (some x) ∧ i ∉ vs
 | [], h => ⟨h, by simp⟩
 | v :: vs, h => by
  unfold wipeE at h
  by_cases hi : v = i
  ·subst hi
   by_cases hv : v < (wipeE env vs).length
   ·rw [List.getElem?_set_self hv] at h; cases h
   ·rw [List.getElem?_eq_none (by simpa using hv)] at h; cases h
  ·rw [List.getElem?_set_ne hi] at h
   obtain ⟨h1, h2⟩ := wipeE_some h
   exact ⟨h1, by simp only [List.mem_cons, not_or]; exact ⟨fun e => hi e.symm, h2⟩⟩
theorem REnv.wipe {K : PySem.W.Frag} {mg : Str → Option Value} {r : List Addr} {H : Hp} {env : Env} {σ : L2.St} (h : REnv K mg r H env σ) (vs : List Nat) : REnv K mg r H (wipeE env vs) (wipe σ vs) := by
 refine ⟨by rw [wipe_length, wipeE_len, h.len], fun i d e => ?_⟩
 obtain ⟨e1, e2⟩ := wipeE_some e
 obtain ⟨v, h1, q⟩ := h.at_ i d e1
 refine ⟨v, ?_, q⟩
 rw [wipe_get, if_pos (List.getElem?_eq_some_iff.mp h1).1, if_neg e2]
 exact h1
theorem wipe_wipe (σ : L2.St) (vs : List Nat) : wipe (wipe σ vs) vs = wipe σ vs := by
 apply List.ext_getElem?
 intro j
 rw [wipe_get, wipe_get, wipe_length]
 by_cases hj : j < σ.length
 ·by_cases hv : j ∈ vs
  ·simp [hj, hv]
  ·simp [hj, hv]
 ·simp [hj]
def mLcL (nx : Nxt) (g : MG) (t : MT) (e : ME) (n : Nat) : Nat → Nat → Env → Sto → Option Sto
 | 0, _, _, _ => none
 | k + 1, i, env, S => (nx i S).bind fun o => match o with
  | none => some S
  | some d => (g d env S).bind fun p => (t p.1 p.2).bind fun c => if c.1 = true then (e p.1 c.2).bind fun q => match q.2[n]? with
    | some (.lst acc) => if acc.length < sizeLine then mLcL nx g t e n k (i + 1) env (q.2.set n (.lst (acc ++ [q.1]))) else none
    | _ => none
   else mLcL nx g t e n k (i + 1) env c.2
def mLc (it : MI) (g : MG) (t : MT) (e : ME) (vs : List Nat) : ME := fun env S => (it env S).bind fun p => (mLcL p.1.2 g t e p.2.length p.1.1 0 (wipeE env vs) (p.2 ++ [.lst []])).bind fun S' => some (.ref p.2.length, S')
theorem lc_ok {tg elt : Expr} {ifs : List Expr} {it : MI} {wi : TI} {g : MG} {t : MT} {me : ME} {L vs : List Nat} {scope : Scope}
  (hi : ∀ env S k nx S', it env S = some ((k, nx), S') → ∀ r σ H (Q : It → Hp → Prop), At X r env S σ H → (∀ r' H' J, Sim X.K X.mg r' S' H' → Lat r H r' H' → ItOk X J r' H' nx → Q J H') → wi σ H Q)
  (hL : ∀ i ∈ L, i ∈ vs) (hg : ∀ s H C cl fp, CG (bX X scope s H C cl fp) tg L g) (ht : ∀ s H C cl fp, CTs (bX X scope s H C cl fp) ifs t) (he : ∀ s H C cl fp, CE (bX X scope s H C cl fp) elt me)
  {env : Env} {S : Sto} {d : D} {S' : Sto} (h : mLc it g t me vs env S = some (d, S')) {r : List Addr} {σ : L2.St} {H : Hp} {Q : VK} (A : At X r env S σ H)
  (hq : ∀ r' H' v, Sim X.K X.mg r' S' H' → Lat r H r' H' → RepV X.K X.mg r' H' d v → Q v H') : tLc wi (bTG X scope tg) (bTT X scope ifs) (bTE X scope elt) vs σ H Q := by
 obtain ⟨⟨⟨k, nx⟩, S0⟩, e0, h⟩ := Option.bind_eq_some_iff.mp h
 obtain ⟨Sf, e1, h⟩ := Option.bind_eq_some_iff.mp h
 cases h
 refine hi env S k nx S0 e0 r σ H _ A fun r0 H0 J s0 l0 ok p np => ?_
 obtain ⟨s1, l1, q1⟩ := newL_ok (X := X) (d := .ref S0.length) s0 np .nil rfl
 have pn : (r0 ++ [p])[S0.length]? = some p := by
  rw [← s0.len, List.getElem?_append_right (Nat.le_refl _), Nat.sub_self]
  rfl
 refine ⟨fun i m H1 => ∃ r1 S1, Sim X.K X.mg r1 S1 H1 ∧ Lat (r0 ++ [p]) (upd H0 p (.lst [])) r1 H1 ∧ mLcL nx g t me S0.length m i (wipeE env vs) S1 = some S', ⟨k, r0 ++ [p], _, s1, .refl, e1⟩, ?_⟩
 rintro i m H1 ⟨r1, S1, s2, l2, h1⟩
 have l02 : Lat r0 H0 r1 H1 := l1.trans l2
 cases m with
 | zero => cases h1
 | succ m =>
  obtain ⟨o, e2, h1⟩ := Option.bind_eq_some_iff.mp h1
  cases o with
  | none =>
   cases h1
   exact .inl ⟨ok.stop i _ r1 H1 s2 l02 e2, hq r1 H1 _ s2 (l0.trans l02) (.ref (l2.pre _ _ pn))⟩
  | some d1 =>
   refine .inr ⟨ok.go i S1 r1 H1 d1 s2 l02 e2, fun H' => ∃ m', m' < m + 1 ∧ ∃ r1 S1, Sim X.K X.mg r1 S1 H' ∧ Lat (r0 ++ [p]) (upd H0 p (.lst [])) r1 H' ∧ mLcL nx g t me S0.length m' (i + 1) (wipeE env vs) S1 = some S', fun H' z => z, fun x H' y => ?_⟩
   obtain ⟨s3, l3, q3⟩ := ok.yld i S1 r1 H1 d1 x H' s2 l02 e2 y
   obtain ⟨⟨env4, S4⟩, e4, h1⟩ := Option.bind_eq_some_iff.mp h1
   obtain ⟨⟨c, S5⟩, e5, h1⟩ := Option.bind_eq_some_iff.mp h1
   have A3 : At X r1 (wipeE env vs) S1 (wipe σ vs) H' := ⟨s3, (A.env.lat ((l0.trans l02).trans l3)).wipe vs⟩
   intro bs bH bC bcl bfp
   refine hg bs bH bC bcl bfp d1 (wipeE env vs) S1 env4 S4 e4 r1 (wipe σ vs) H' x _ ⟨A3.sim, A3.env⟩ q3 fun r4 σ4 H4 A4 l4 w4 => ⟨?_, ?_⟩
   ·rw [w4 vs hL, wipe_wipe]
   ·intro bs bH bC bcl bfp
    refine ht bs bH bC bcl bfp env4 S4 c S5 e5 r4 σ4 H4 _ ⟨A4.sim, A4.env⟩ fun r5 H5 s5 l5 => ?_
    have l25 := ((l2.trans l3).trans l4).trans l5
    cases c with
    | false => exact iteF ⟨m, Nat.lt_succ_self m, r5, S5, s5, l25, h1⟩
    | true =>
     refine iteT ?_
     obtain ⟨⟨d6, S6⟩, e6, h1⟩ := Option.bind_eq_some_iff.mp h1
     intro bs bH bC bcl bfp
     refine he bs bH bC bcl bfp env4 S5 d6 S6 e6 r5 σ4 H5 _ ⟨s5, A4.env.lat l5⟩ fun r6 H6 v s6 l6 q6 => ?_
     split at h1
     ·rename_i acc ea
      have hp6 : r6[S0.length]? = some p := l6.pre _ _ (l25.pre _ _ pn)
      obtain ⟨ws, e7, q7⟩ := s6.ob _ _ p ea hp6
      split at h1
      ·rename_i hz
       have qn : RepL X.K X.mg r6 H6 (acc ++ [d6]) (ws ++ [v]) := q7.append (.cons q6 .nil)
       have L7 : Lat r6 H6 r6 (upd H6 p (.lst (ws ++ [v]))) := lat_upd e7 trivial
       obtain ⟨s8, l8⟩ := s6.put (o' := .lst (acc ++ [d6])) (v := .lst (ws ++ [v])) ea hp6 rfl rfl ⟨_, upd_same, qn.lat L7⟩
       exact ⟨ws, e7, by rw [← q7.length]; exact hz, m, Nat.lt_succ_self m, r6, _, s8, (l25.trans l6).trans l8, h1⟩
      ·cases h1
     ·cases h1
theorem cE_lc {elt tg iter : Expr} {ifs : List Expr} {scope : Scope} {own : List (Str × Nat)} {pos : Pos} {it : MI} {g : MG} {t : MT} {me : ME} {L : List Nat} (hc : X.calm = true) (hN : X.N.Nodup) (hi : CI X tg iter it) (ok : BlkOk X.N X.env.scope scope own)
  (hL : ∀ i ∈ L, i ∈ own.map (·.2)) (hg : ∀ s H C cl fp, CG (bX X scope s H C cl fp) tg L g) (ht : ∀ s H C cl fp, CTs (bX X scope s H C cl fp) ifs t) (he : ∀ s H C cl fp, CE (bX X scope s H C cl fp) elt me)
  (hs : ∀ x, foldedSetIterable iter X.env x = pure x := by intro _; rfl) : CE X (.ListComp elt [⟨tg, iter, ifs, 0⟩] scope pos) (mLc it g t me (own.map (·.2))) := by
 obtain ⟨wi, pw, hi⟩ := hi
 refine ⟨?_⟩
 intro env S d S' h r σ H Q A hq
 refine tm_of (pe_lc (own := own) (g := bTG X scope tg) (tt := bTT X scope ifs) (te := bTE X scope elt) hc hN pw ok (fun s H C cl fp => ⟨fun pins s' σ H v u Q I rv q => q _ _ _ _ _ pins s' u I rv⟩) (fun s H C cl fp => ⟨fun pins s' σ H Q I q => pts_tm.run pins s' σ H Q I (q _ _ _ _ _)⟩) (fun s H C cl fp => ⟨fun pins s' σ H Q I q => q _ _ _ _ _ pins s' I⟩) hs)
  (lc_ok hi hL hg ht he h A hq)
theorem cS_setLc {i : Nat} {y : Str} {py : Pos} {elt tg iter : Expr} {ifs : List Expr} {scope : Scope} {own : List (Str × Nat)} {pos spos : Pos} {it : MI} {g : MG} {t : MT} {me : ME} {L : List Nat} (hc : X.calm = true) (hN : X.N.Nodup) (hy : X.N[i]? = some y) (hyl : X.env.scope.names.lookup y = some .local)
  (hsw : swapsWith (.ListComp elt [⟨tg, iter, ifs, 0⟩] scope pos) (some (.Name y py)) spos.line X.env = pure true) (hi : CI X tg iter it) (ok : BlkOk X.N X.env.scope scope own)
  (hL : ∀ i ∈ L, i ∈ own.map (·.2)) (hg : ∀ s H C cl fp, CG (bX X scope s H C cl fp) tg L g) (ht : ∀ s H C cl fp, CTs (bX X scope s H C cl fp) ifs t) (he : ∀ s H C cl fp, CE (bX X scope s H C cl fp) elt me)
  (hs : ∀ x, foldedSetIterable iter X.env x = pure x := by intro _; rfl) : CS X (.Assign [.Name y py] (.ListComp elt [⟨tg, iter, ifs, 0⟩] scope pos) spos) (mAsg (mLc it g t me (own.map (·.2))) (gN i)) := by
 obtain ⟨wi, pw, hi⟩ := hi
 refine ⟨?_⟩
 intro env S f env' S' h r σ H D A hq
 obtain ⟨⟨d, S1⟩, e1, h⟩ := Option.bind_eq_some_iff.mp h
 cases h
 refine tms_of (ps_setLc (own := own) (g := bTG X scope tg) (tt := bTT X scope ifs) (te := bTE X scope elt) hc hN hy hyl hsw pw ok (fun s H C cl fp => ⟨fun pins s' σ H v u Q I rv q => q _ _ _ _ _ pins s' u I rv⟩) (fun s H C cl fp => ⟨fun pins s' σ H Q I q => pts_tm.run pins s' σ H Q I (q _ _ _ _ _)⟩) (fun s H C cl fp => ⟨fun pins s' σ H Q I q => q _ _ _ _ _ pins s' I⟩) hs)
  (lc_ok (Q := fun x H1 => gName i x σ H1 D.nx) hi hL hg ht he e1 A fun r1 H1 v s1 l1 q1 => hq r1 _ H1 ⟨s1, (A.env.lat l1).set q1⟩ l1)
def startE (n : Nat) (ds : List D) : Env := ds.map some ++ List.replicate (n - ds.length) none
def mBody (n : Nat) (b : MS) : MF := fun ds S => (b (startE n ds) S).bind fun p => match p.1 with
 | .nx => some (.non, p.2.2)
 | .rt d => some (d, p.2.2)
 | _ => none
theorem startE_ok {K : PySem.W.Frag} {mg : Str → Option Value} {r : List Addr} {H : Hp} {ds : List D} {vs : List V} (N : List Str) (q : RepL K mg r H ds vs) : REnv K mg r H (startE N.length ds) (L2.start N vs) := by
 have hl := q.length
 refine ⟨by unfold startE L2.start; simp [hl], fun i d e => ?_⟩
 unfold startE at e
 unfold L2.start
 by_cases hi : i < ds.length
 ·rw [List.getElem?_append_left (by simpa using hi), List.getElem?_map] at e
  obtain ⟨d', h1, h2⟩ := Option.map_eq_some_iff.mp e
  cases h2
  obtain ⟨v, h3, q3⟩ := q.get h1
  exact ⟨v, by rw [List.getElem?_append_left (by simpa [← hl] using hi), List.getElem?_map, h3]; rfl, q3⟩
 ·rw [List.getElem?_append_right (by simpa using hi), List.getElem?_replicate] at e
  split at e <;> cases e
end
end PL
end
section
namespace PL
open PySem PySem.Spec PyProof.Rows L2
variable [Tbl]
section
variable {X : Cx}
def alt (g h : D → D → Sto → R) : D → D → Sto → R := fun x y S => (g x y S).orElse fun _ => h x y S
theorem OpS.alt {a b : R2} {g h : D → D → Sto → R} (ha : OpS X a g) (hb : OpS X b h) : OpS X (fun x y H Q => a x y H Q ∨ b x y H Q) (PL.alt g h) := fun x y S d S' e r H u v Q s q1 q2 hq => by
 unfold PL.alt at e
 cases eg : g x y S with
 | some z => rw [eg] at e; exact .inl (ha x y S d S' (by rw [eg]; exact e) r H u v Q s q1 q2 hq)
 | none => rw [eg] at e; exact .inr (hb x y S d S' e r H u v Q s q1 q2 hq)
def iiI (c : Int → Int → Bool) (f : Int → Int → Int) : D → D → Sto → R
 | .int i, .int j, S => if c i j = true then some (.int (f i j), S) else none
 | _, _, _ => none
def iiB (f : Int → Int → Bool) : D → D → Sto → R
 | .int i, .int j, S => some (.bl (f i j), S)
 | _, _, _ => none
theorem opS_iiI {C : Int → Int → Prop} {c : Int → Int → Bool} {f : Int → Int → Int} (h : ∀ i j, c i j = true → C i j) : OpS X (rI C fun i j => .int (f i j)) (iiI c f) := by
 intro x y S d S' e r H u v Q s q1 q2 hq
 unfold iiI at e
 split at e
 ·rename_i i j _
  split at e
  ·rename_i hc
   cases e
   cases q1
   cases q2
   exact ⟨_, _, rfl, rfl, h _ _ hc, hq r H _ s .refl (.int _)⟩
  ·cases e
 ·cases e
theorem opS_iiI0 {f : Int → Int → Int} : OpS X (rI0 fun i j => .int (f i j)) (iiI (fun _ _ => true) f) := by
 intro x y S d S' e r H u v Q s q1 q2 hq
 unfold iiI at e
 split at e
 ·rename_i i j _
  split at e
  ·cases e
   cases q1
   cases q2
   exact ⟨_, _, rfl, rfl, hq r H _ s .refl (.int _)⟩
  ·cases e
 ·cases e
theorem opS_iiB {f : Int → Int → Bool} : OpS X (rI0 fun i j => .bl (f i j)) (iiB f) := by
 intro x y S d S' e r H u v Q s q1 q2 hq
 unfold iiB at e
 split at e
 ·rename_i i j _
  cases e
  cases q1
  cases q2
  exact ⟨_, _, rfl, rfl, hq r H _ s .refl (.bl _)⟩
 ·cases e
def ssS : D → D → Sto → R
 | .str i, .str j, S => if i.length + j.length ≤ sizeLine then some (.str (i ++ j), S) else none
 | _, _, _ => none
def ssB (f : Str → Str → Bool) : D → D → Sto → R
 | .str i, .str j, S => some (.bl (f i j), S)
 | _, _, _ => none
theorem opS_ssB {f : Str → Str → Bool} : OpS X (fun x y H Q => ∃ i j, x = .str i ∧ y = .str j ∧ Q (.bl (f i j)) H) (ssB f) := by
 intro x y S d S' e r H u v Q s q1 q2 hq
 unfold ssB at e
 split at e
 ·rename_i i j _
  cases e
  cases q1
  cases q2
  exact ⟨_, _, rfl, rfl, hq r H _ s .refl (.bl _)⟩
 ·cases e
theorem opS_ssS : OpS X (fun x y H Q => ∃ i j, x = .str i ∧ y = .str j ∧ i.length + j.length ≤ sizeLine ∧ Q (.str (i ++ j)) H) ssS := by
 intro x y S d S' e r H u v Q s q1 q2 hq
 unfold ssS at e
 split at e
 ·rename_i i j _
  split at e
  ·rename_i hz
   cases e
   cases q1
   cases q2
   exact ⟨_, _, rfl, rfl, hz, hq r H _ s .refl (.str _)⟩
  ·cases e
 ·cases e
def ttT : D → D → Sto → R
 | .tup xs, .tup ys, S => if xs.length + ys.length ≤ sizeLine then some (.tup (xs ++ ys), S) else none
 | .tup xs, .ptup ys, S => if xs.length + ys.length ≤ sizeLine then some (if xs.isEmpty = true then .ptup ys else .tup (xs ++ ys), S) else none
 | .ptup xs, .tup ys, S => if xs.length + ys.length ≤ sizeLine then some (if xs.isEmpty = true then .tup ys else if ys.isEmpty = true then .ptup xs else .tup (xs ++ ys), S) else none
 | .ptup xs, .ptup ys, S => if xs.length + ys.length ≤ sizeLine then some (if xs.isEmpty = true then .ptup ys else if ys.isEmpty = true then .ptup xs else .tup (xs ++ ys), S) else none
 | _, _, _ => none
theorem emp_no {K : PySem.W.Frag} {mg : Str → Option Value} {r : List Addr} {H : Hp} {xs : List D} {vs : List V} (l : RepL K mg r H xs vs) (h : ¬ vs = []) : ¬ xs.isEmpty = true := fun e => by
 have := l.length
 cases xs with
 | nil =>
  cases vs with
  | nil => exact h rfl
  | cons => simp at this
 | cons => simp at e
theorem opS_ttT : OpS X (rCatA X.K) ttT := by
 intro x y S d S' e r H u v Q s q1 q2 hq
 unfold ttT at e
 split at e
 ·rename_i xs ys _
  split at e
  ·rename_i hz
   cases e
   cases q1 with
   | tup t1 l1 =>
    cases q2 with
    | tup t2 l2 =>
     rename_i a vs b ws
     have n1 := l1.length
     have n2 := l2.length
     refine ⟨a, b, vs, ws, rfl, rfl, t1.sq, t2.sq, by omega, fun e0 => ?_, fun h0 e0 => ?_, fun h0 h1 p np => ?_⟩
     ·subst e0
      cases l1
      exact hq r H _ s .refl (.tup t2 l2)
     ·subst e0
      cases l2
      rw [List.append_nil] at hq
      exact hq r H _ s .refl (.tup t1 l1)
     ·exact hq r _ _ (s.tup np) (lat_tup np) (.tup upd_same ((l1.append l2).lat (lat_tup np)))
  ·cases e
 ·split at e
  ·rename_i hz
   cases e
   cases q1 with
   | tup t1 l1 =>
    cases q2 with
    | ptup t2 l2 =>
     rename_i a vs b ws
     have n1 := l1.length
     have n2 := l2.length
     refine ⟨a, b, vs, ws, rfl, rfl, t1.sq, t2.sq, by omega, fun e0 => ?_, fun h0 e0 => ?_, fun h0 h1 p np => ?_⟩
     ·subst e0
      cases l1
      simp only [List.isEmpty_nil, if_true] at hq
      exact hq r H _ s .refl (.ptup t2 l2)
     ·subst e0
      cases l2
      rw [if_neg (emp_no l1 h0), List.append_nil] at hq
      exact hq r H _ s .refl (.tup t1 l1)
     ·rw [if_neg (emp_no l1 h0)] at hq
      exact hq r _ _ (s.tup np) (lat_tup np) (.tup upd_same ((l1.append l2).lat (lat_tup np)))
  ·cases e
 ·split at e
  ·rename_i hz
   cases e
   cases q1 with
   | ptup t1 l1 =>
    cases q2 with
    | tup t2 l2 =>
     rename_i a vs b ws
     have n1 := l1.length
     have n2 := l2.length
     refine ⟨a, b, vs, ws, rfl, rfl, t1.sq, t2.sq, by omega, fun e0 => ?_, fun h0 e0 => ?_, fun h0 h1 p np => ?_⟩
     ·subst e0
      cases l1
      simp only [List.isEmpty_nil, if_true] at hq
      exact hq r H _ s .refl (.tup t2 l2)
     ·subst e0
      cases l2
      rw [if_neg (emp_no l1 h0)] at hq
      simp only [List.isEmpty_nil, if_true] at hq
      exact hq r H _ s .refl (.ptup t1 l1)
     ·rw [if_neg (emp_no l1 h0), if_neg (emp_no l2 h1)] at hq
      exact hq r _ _ (s.tup np) (lat_tup np) (.tup upd_same ((l1.append l2).lat (lat_tup np)))
  ·cases e
 ·split at e
  ·rename_i hz
   cases e
   cases q1 with
   | ptup t1 l1 =>
    cases q2 with
    | ptup t2 l2 =>
     rename_i a vs b ws
     have n1 := l1.length
     have n2 := l2.length
     refine ⟨a, b, vs, ws, rfl, rfl, t1.sq, t2.sq, by omega, fun e0 => ?_, fun h0 e0 => ?_, fun h0 h1 p np => ?_⟩
     ·subst e0
      cases l1
      simp only [List.isEmpty_nil, if_true] at hq
      exact hq r H _ s .refl (.ptup t2 l2)
     ·subst e0
      cases l2
      rw [if_neg (emp_no l1 h0)] at hq
      simp only [List.isEmpty_nil, if_true] at hq
      exact hq r H _ s .refl (.ptup t1 l1)
     ·rw [if_neg (emp_no l1 h0), if_neg (emp_no l2 h1)] at hq
      exact hq r _ _ (s.tup np) (lat_tup np) (.tup upd_same ((l1.append l2).lat (lat_tup np)))
  ·cases e
 ·cases e
def llL : D → D → Sto → R
 | .ref a, .ref b, S => match S[a]?, S[b]? with
  | some (.lst xs), some (.lst ys) => if xs.length + ys.length ≤ sizeLine then newL (xs ++ ys) S else none
  | _, _ => none
 | _, _, _ => none
theorem opS_llL : OpS X rCat llL := by
 intro x y S d S' e r H u v Q s q1 q2 hq
 unfold llL at e
 split at e
 ·rename_i a b _
  split at e
  ·rename_i xs ys ex ey
   split at e
   ·rename_i hz
    cases q1 with
    | ref ea =>
     cases q2 with
     | ref eb =>
      obtain ⟨vs, h1, l1⟩ := s.ob _ _ _ ex ea
      obtain ⟨ws, h2, l2⟩ := s.ob _ _ _ ey eb
      have n1 := l1.length
      have n2 := l2.length
      refine ⟨_, _, vs, ws, rfl, rfl, h1, h2, by omega, fun p np => ?_⟩
      obtain ⟨a1, a2, a3⟩ := newL_ok (X := X) s np (l1.append l2) e
      exact hq _ _ _ a1 a2 a3
   ·cases e
  ·cases e
 ·cases e
theorem RepL.rep {K : PySem.W.Frag} {mg : Str → Option Value} {r : List Addr} {H : Hp} {xs : List D} {vs : List V} (q : RepL K mg r H xs vs) : ∀ n : Nat, RepL K mg r H (List.replicate n xs).flatten (List.replicate n vs).flatten
 | 0 => .nil
 | n + 1 => by
  rw [List.replicate_succ, List.replicate_succ, List.flatten_cons, List.flatten_cons]
  exact q.append (RepL.rep q n)
instance decNil (xs : List D) : Decidable (xs ≠ []) := by
 cases xs with
 | nil => exact .isFalse fun h => h rfl
 | cons a b => exact .isTrue (by simp)
def tiT' : D → D → Sto → R
 | .tup (x :: xs), .int k, S => if 2 ≤ k ∧ k ≤ 1000 ∧ xs.length < 1000 then some (.tup (List.replicate k.toNat (x :: xs)).flatten, S) else none
 | _, _, _ => none
theorem opS_tiT : OpS X (rRepT X.K) tiT' := by
 intro x y S d S' e r H u v Q s q1 q2 hq
 unfold tiT' at e
 split at e
 ·rename_i z xs k _
  split at e
  ·rename_i hz
   cases e
   cases q1 with
   | tup t1 l1 =>
    cases q2
    rename_i a vs
    have n1 := l1.length
    rw [List.length_cons] at n1
    refine ⟨a, _, vs, rfl, rfl, t1.sq, (fun z => by subst z; cases n1), hz.1, hz.2.1, by omega, fun p np => ?_⟩
    exact hq r _ _ (s.tup np) (lat_tup np) (.tup upd_same ((l1.rep _).lat (lat_tup np)))
  ·cases e
 ·cases e
mutual
def pyD : D → Option PyData
 | .non => some .none
 | .bl b => some (.bool b)
 | .int i => some (.int i)
 | .str x => some (.str x)
 | .tup xs => (pyDs xs).map .tuple
 | .ktup xs => (pyDs xs).map .tuple
 | .ptup xs => (pyDs xs).map .tuple
 | _ => none
def pyDs : List D → Option (List PyData)
 | [] => some []
 | d :: ds => (pyD d).bind fun a => (pyDs ds).map (a :: ·)
end
def pyT (S : Sto) : D → Option PyData
 | .ref n => (seqAt n S).bind fun xs => (pyDs xs).map .list
 | d => pyD d
mutual
theorem pyD_ok {K : PySem.W.Frag} {mg : Str → Option Value} {r : List Addr} {H : Hp} : ∀ {d : D} {v : V} {p : PyData}, RepV K mg r H d v → pyD d = some p → Dp K H v p
 | .non, _, _, q, h => by cases q; cases h; exact .non
 | .bl b, _, _, q, h => by cases q; cases h; exact .bl b
 | .int i, _, _, q, h => by cases q; cases h; exact .int i
 | .str x, _, _, q, h => by cases q; cases h; exact .str x
 | .tup xs, _, _, q, h => by
  cases q with
  | tup t l =>
   simp only [pyD] at h
   obtain ⟨ps, e1, e2⟩ := Option.map_eq_some_iff.mp h
   subst e2
   exact .tup t.sq (pyDs_ok l e1)
 | .ktup xs, _, _, q, h => by
  cases q with
  | ktup t l =>
   simp only [pyD] at h
   obtain ⟨ps, e1, e2⟩ := Option.map_eq_some_iff.mp h
   subst e2
   exact .tup t.sq (pyDs_ok l e1)
 | .ptup xs, _, _, q, h => by
  cases q with
  | ptup t l =>
   simp only [pyD] at h
   obtain ⟨ps, e1, e2⟩ := Option.map_eq_some_iff.mp h
   subst e2
   exact .tup t.sq (pyDs_ok l e1)
 | .ref _, _, _, _, h => by simp [pyD] at h
 | .fn _, _, _, _, h => by simp [pyD] at h
 | .ty _, _, _, _, h => by simp [pyD] at h
 | .exc _ _ _ _ _, _, _, _, h => by simp [pyD] at h
theorem pyDs_ok {K : PySem.W.Frag} {mg : Str → Option Value} {r : List Addr} {H : Hp} : ∀ {ds : List D} {vs : List V} {ps : List PyData}, RepL K mg r H ds vs → pyDs ds = some ps → DpAll K H vs ps
 | [], _, _, q, h => by cases q; simp [pyDs] at h; subst h; exact .nil
 | d :: ds, _, _, q, h => by
  cases q with
  | cons q1 q2 =>
   simp only [pyDs] at h
   obtain ⟨a, e1, h⟩ := Option.bind_eq_some_iff.mp h
   obtain ⟨as, e2, e3⟩ := Option.map_eq_some_iff.mp h
   subst e3
   exact .cons (pyD_ok q1 e1) (pyDs_ok q2 e2)
end
theorem pyT_ok {r : List Addr} {S : Sto} {H : Hp} {d : D} {v : V} {p : PyData} (s : Sim X.K X.mg r S H) (q : RepV X.K X.mg r H d v) (h : pyT S d = some p) : Dp X.K H v p := by
 cases d with
 | ref n =>
  simp only [pyT] at h
  cases q with
  | ref ea =>
   obtain ⟨xs, e1, h⟩ := Option.bind_eq_some_iff.mp h
   obtain ⟨ps, e2, e3⟩ := Option.map_eq_some_iff.mp h
   subst e3
   obtain ⟨vs, h1, l1⟩ := seqAt_ok (X := X) s ea e1
   exact .lst h1 (pyDs_ok l1 e2)
 | _ => exact pyD_ok q h
def deepB (f : Bool → Bool) : D → D → Sto → R := fun x y S => (pyT S x).bind fun p => (pyT S y).bind fun q => if (SeqAt.shaped p && SeqAt.shaped q) = true then some (.bl (f (PyData.eqv p q)), S) else none
theorem deepB_ok {f : Bool → Bool} {x y : D} {S S' : Sto} {d : D} (e : deepB f x y S = some (d, S')) {r : List Addr} {H : Hp} {u v : V} (s : Sim X.K X.mg r S H) (q1 : RepV X.K X.mg r H x u) (q2 : RepV X.K X.mg r H y v) :
  ∃ p q, Dp X.K H u p ∧ Dp X.K H v q ∧ SeqAt.shaped p = true ∧ SeqAt.shaped q = true ∧ d = .bl (f (PyData.eqv p q)) ∧ S' = S := by
 obtain ⟨p, e1, e⟩ := Option.bind_eq_some_iff.mp e
 obtain ⟨q, e2, e⟩ := Option.bind_eq_some_iff.mp e
 split at e
 ·rename_i hs
  cases e
  rw [Bool.and_eq_true] at hs
  exact ⟨p, q, pyT_ok s q1 e1, pyT_ok s q2 e2, hs.1, hs.2, rfl, rfl⟩
 ·cases e
theorem opS_deepEq : OpS X (rEqD X.K) (deepB id) := by
 intro x y S d S' e r H u v Q s q1 q2 hq
 obtain ⟨p, q, h1, h2, s1, s2, rfl, rfl⟩ := deepB_ok (X := X) e s q1 q2
 exact ⟨p, q, h1, h2, s1, s2, hq r H _ s .refl (.bl _)⟩
theorem opS_deepNe : OpS X (rNeD X.K) (deepB not) := by
 intro x y S d S' e r H u v Q s q1 q2 hq
 obtain ⟨p, q, h1, h2, s1, s2, rfl, rfl⟩ := deepB_ok (X := X) e s q1 q2
 exact ⟨p, q, h1, h2, s1, s2, hq r H _ s .refl (.bl _)⟩
def sEq (f : Bool → Bool) : D → D → Sto → R
 | .int i, .int j, S => some (.bl (f (decide (i = j))), S)
 | .str i, .str j, S => some (.bl (f (decide (i = j))), S)
 | .bl i, .bl j, S => some (.bl (f (decide (i = j))), S)
 | .non, .non, S => some (.bl (f true), S)
 | .non, .str _, S => some (.bl (f false), S)
 | .str _, .non, S => some (.bl (f false), S)
 | _, _, _ => none
theorem opS_sEq : OpS X rEq (sEq id) := by
 intro x y S d S' e r H u v Q s q1 q2 hq
 unfold sEq at e
 split at e <;> first | cases e | skip
 ·cases q1; cases q2; refine ⟨rfl, ?_⟩; rw [show ∀ i j : Int, decide (V.int i = V.int j) = decide (i = j) from fun i j => by simp]; exact hq r H _ s .refl (.bl _)
 ·cases q1; cases q2; refine ⟨rfl, ?_⟩; rw [show ∀ i j : Str, decide (V.str i = V.str j) = decide (i = j) from fun i j => by simp]; exact hq r H _ s .refl (.bl _)
 ·cases q1; cases q2; refine ⟨rfl, ?_⟩; rw [show ∀ i j : Bool, decide (V.bl i = V.bl j) = decide (i = j) from fun i j => by simp]; exact hq r H _ s .refl (.bl _)
 ·cases q1; cases q2; exact ⟨rfl, by simpa using hq r H _ s .refl (.bl _)⟩
 ·cases q1; cases q2; exact ⟨rfl, by simpa using hq r H _ s .refl (.bl _)⟩
 ·cases q1; cases q2; exact ⟨rfl, by simpa using hq r H _ s .refl (.bl _)⟩
theorem opS_sNe : OpS X rNe (sEq not) := by
 intro x y S d S' e r H u v Q s q1 q2 hq
 unfold sEq at e
 split at e <;> first | cases e | skip
 ·cases q1; cases q2; refine ⟨rfl, ?_⟩; rw [show ∀ i j : Int, decide (V.int i = V.int j) = decide (i = j) from fun i j => by simp]; exact hq r H _ s .refl (.bl _)
 ·cases q1; cases q2; refine ⟨rfl, ?_⟩; rw [show ∀ i j : Str, decide (V.str i = V.str j) = decide (i = j) from fun i j => by simp]; exact hq r H _ s .refl (.bl _)
 ·cases q1; cases q2; refine ⟨rfl, ?_⟩; rw [show ∀ i j : Bool, decide (V.bl i = V.bl j) = decide (i = j) from fun i j => by simp]; exact hq r H _ s .refl (.bl _)
 ·cases q1; cases q2; exact ⟨rfl, by simpa using hq r H _ s .refl (.bl _)⟩
 ·cases q1; cases q2; exact ⟨rfl, by simpa using hq r H _ s .refl (.bl _)⟩
 ·cases q1; cases q2; exact ⟨rfl, by simpa using hq r H _ s .refl (.bl _)⟩
def isN (f : Bool → Bool) : D → D → Sto → R
 | .non, .non, S => some (.bl (f true), S)
 | .bl _, .non, S => some (.bl (f false), S)
 | .int _, .non, S => some (.bl (f false), S)
 | .str _, .non, S => some (.bl (f false), S)
 | .tup _, .non, S => some (.bl (f false), S)
 | .ref _, .non, S => some (.bl (f false), S)
 | .fn _, .non, S => some (.bl (f false), S)
 | .ktup _, .non, S => some (.bl (f false), S)
 | _, _, _ => none
theorem opS_isN : OpS X (fun x y H Q => y = .non ∧ Q (.bl (decide (x = .non))) H) (isN id) := by
 intro x y S d S' e r H u v Q s q1 q2 hq
 unfold isN at e
 split at e <;> first | cases e | skip
 all_goals (cases q2; cases q1; exact ⟨rfl, by simpa using hq r H _ s .refl (.bl _)⟩)
def bbB (f : Bool → Bool → Bool) : D → D → Sto → R
 | .bl a, .bl b, S => some (.bl (f a b), S)
 | _, _, _ => none
theorem opS_isB : OpS X rIsB (bbB fun a b => decide (a = b)) := by
 intro x y S d S' e r H u v Q s q1 q2 hq
 unfold bbB at e
 split at e
 ·cases e; cases q1; cases q2; exact ⟨_, _, rfl, rfl, hq r H _ s .refl (.bl _)⟩
 ·cases e
def flatD : D → Option V
 | .non => some .non
 | .bl b => some (.bl b)
 | .int i => some (.int i)
 | .str x => some (.str x)
 | _ => none
def flatDs : List D → Option (List V)
 | [] => some []
 | d :: ds => (flatD d).bind fun v => (flatDs ds).map (v :: ·)
theorem flatD_ok {K : PySem.W.Frag} {mg : Str → Option Value} {r : List Addr} {H : Hp} {d : D} {v w : V} (q : RepV K mg r H d v) (h : flatD d = some w) : v = w ∧ flatV v = true := by
 cases q <;> first | (cases h; exact ⟨rfl, rfl⟩) | cases h
theorem flatDs_ok {K : PySem.W.Frag} {mg : Str → Option Value} {r : List Addr} {H : Hp} : ∀ {ds : List D} {vs ws : List V}, RepL K mg r H ds vs → flatDs ds = some ws → vs = ws ∧ vs.all flatV = true
 | _, _, _, .nil, h => by simp [flatDs] at h; subst h; exact ⟨rfl, rfl⟩
 | _, _, _, .cons q1 q2, h => by
  simp only [flatDs] at h
  obtain ⟨a, e1, h⟩ := Option.bind_eq_some_iff.mp h
  obtain ⟨as, e2, e3⟩ := Option.map_eq_some_iff.mp h
  subst e3
  obtain ⟨h1, h2⟩ := flatD_ok q1 e1
  obtain ⟨h3, h4⟩ := flatDs_ok q2 e2
  subst h1
  subst h3
  exact ⟨rfl, by simp [h2, h4]⟩
def seqD (S : Sto) : D → Option (List D)
 | .tup xs => some xs
 | .ktup xs => some xs
 | .ptup xs => some xs
 | .ref n => seqAt n S
 | _ => none
def inSeq (f : Bool → Bool) : D → D → Sto → R := fun x y S => (flatD x).bind fun v => (seqD S y).bind fun xs => (flatDs xs).bind fun ws => some (.bl (f (inV v ws)), S)
theorem opS_inSeq {neg : Bool} {f : Bool → Bool} (hf : ∀ b, f b = if neg then !b else b) : OpS X (rIn X.K neg) (inSeq f) := by
 intro x y S d S' e r H u v Q s q1 q2 hq
 obtain ⟨w, e1, e⟩ := Option.bind_eq_some_iff.mp e
 obtain ⟨xs, e2, e⟩ := Option.bind_eq_some_iff.mp e
 obtain ⟨ws, e3, e⟩ := Option.bind_eq_some_iff.mp e
 cases e
 obtain ⟨rfl, fu⟩ := flatD_ok q1 e1
 rw [hf] at hq
 cases y with
 | tup ys =>
  cases e2
  cases q2 with
  | tup t l =>
   obtain ⟨rfl, fs⟩ := flatDs_ok l e3
   refine ⟨_, _, rfl, .inr t.sq, fu, fs, ?_⟩
   have := hq r H _ s .refl (.bl _)
   cases neg <;> simpa using this
 | ktup ys =>
  cases e2
  cases q2 with
  | ktup t l =>
   obtain ⟨rfl, fs⟩ := flatDs_ok l e3
   refine ⟨_, _, rfl, .inr t.sq, fu, fs, ?_⟩
   have := hq r H _ s .refl (.bl _)
   cases neg <;> simpa using this
 | ptup ys =>
  cases e2
  cases q2 with
  | ptup t l =>
   obtain ⟨rfl, fs⟩ := flatDs_ok l e3
   refine ⟨_, _, rfl, .inr t.sq, fu, fs, ?_⟩
   have := hq r H _ s .refl (.bl _)
   cases neg <;> simpa using this
 | ref n =>
  cases q2 with
  | ref ea =>
   obtain ⟨vs, h1, l⟩ := seqAt_ok (X := X) s ea e2
   obtain ⟨rfl, fs⟩ := flatDs_ok l e3
   refine ⟨_, _, rfl, .inl h1, fu, fs, ?_⟩
   have := hq r H _ s .refl (.bl _)
   cases neg <;> simpa using this
 | _ => cases e2
def keyD : D → Option Key
 | .int i => some (.inl i)
 | .str x => some (.inr x)
 | _ => none
def keysD : List D → Option (List Key)
 | [] => some []
 | d :: ds => (keyD d).bind fun v => (keysD ds).map (v :: ·)
theorem keyD_ok {K : PySem.W.Frag} {mg : Str → Option Value} {r : List Addr} {H : Hp} {d : D} {v : V} {k : Key} (q : RepV K mg r H d v) (h : keyD d = some k) : v = kV k := by
 cases q <;> first | (cases h; rfl) | cases h
theorem keysD_ok {K : PySem.W.Frag} {mg : Str → Option Value} {r : List Addr} {H : Hp} : ∀ {ds : List D} {vs : List V} {ks : List Key}, RepL K mg r H ds vs → keysD ds = some ks → vs = ks.map kV
 | _, _, _, .nil, h => by simp [keysD] at h; subst h; rfl
 | _, _, _, .cons q1 q2, h => by
  simp only [keysD] at h
  obtain ⟨a, e1, h⟩ := Option.bind_eq_some_iff.mp h
  obtain ⟨as, e2, e3⟩ := Option.map_eq_some_iff.mp h
  subst e3
  rw [keyD_ok q1 e1, keysD_ok q2 e2]
  rfl
def valD {k : Type} [DecidableEq k] (kvs : List (k × D)) (x : k) : Option D := (kvs.find? fun kv => decide (kv.1 = x)).map (·.2)
def putD {k : Type} [DecidableEq k] (kvs : List (k × D)) (x : k) (v : D) : List (k × D) := if (kvs.any fun kv => decide (kv.1 = x)) = true then kvs.map (fun kv => if kv.1 = x then (kv.1, v) else kv) else kvs ++ [(x, v)]
theorem valD_ok {K : PySem.W.Frag} {mg : Str → Option Value} {r : List Addr} {H : Hp} {k : Type} [DecidableEq k] {x : k} : ∀ {kvs : List (k × D)} {ws : List (k × V)}, RepKs K mg r H kvs ws →
  (valD kvs x = none ∧ valV ws x = none) ∨ ∃ d v, valD kvs x = some d ∧ valV ws x = some v ∧ RepV K mg r H d v
 | _, _, .nil => .inl ⟨rfl, rfl⟩
 | (a, d) :: kvs, (b, v) :: ws, .cons ⟨e, q⟩ t => by
  have e' : a = b := e
  subst e'
  by_cases h : a = x
  ·refine .inr ⟨d, v, by simp [valD, List.find?_cons, h], by simp [valV, List.find?_cons, h], q⟩
  ·have ih := valD_ok (x := x) t
   simp only [valD, valV, List.find?_cons, h, decide_false] at ih ⊢
   exact ih
end
end PL
end
section
namespace PL
open PySem PySem.Spec PyProof.Rows L2
variable [Tbl]
section
variable {X : Cx}
theorem PE.or {e : Expr} {a b : TE} (h : PE X e a) (g : PE X e b) : PE X e (fun σ H Q => a σ H Q ∨ b σ H Q) := ⟨fun pins s σ H Q I q => q.elim (h.run pins s σ H Q I) (g.run pins s σ H Q I)⟩
def ixSeq : D → D → Sto → R
 | .str z, .int i, S => if z.length ≤ sizeLine then (atI z.cps.toList i).map fun c => (.str ⟨#[c]⟩, S) else none
 | x, .int i, S => (seqD S x).bind fun xs => (atI xs i).map fun d => (d, S)
 | _, _, _ => none
theorem RepL.atI {K : PySem.W.Frag} {mg : Str → Option Value} {r : List Addr} {H : Hp} {xs : List D} {vs : List V} {i : Int} {d : D} (q : RepL K mg r H xs vs) (h : L2.atI xs i = some d) : ∃ v, L2.atI vs i = some v ∧ RepV K mg r H d v := by
 unfold L2.atI at h ⊢
 rw [q.length] at h
 obtain ⟨j, e1, e2⟩ := Option.bind_eq_some_iff.mp h
 obtain ⟨v, e3, q3⟩ := q.get e2
 exact ⟨v, by rw [e1]; exact e3, q3⟩
theorem seqD_ok {r : List Addr} {S : Sto} {H : Hp} {d : D} {v : V} {xs : List D} (s : Sim X.K X.mg r S H) (q : RepV X.K X.mg r H d v) (h : seqD S d = some xs) : ∃ a vs, v = .ref a ∧ (SqL X.K H a vs ∨ SqT X.K H a vs) ∧ RepL X.K X.mg r H xs vs := by
 cases q with
 | tup t l => cases h; exact ⟨_, _, rfl, .inr t.sq, l⟩
 | ktup t l => cases h; exact ⟨_, _, rfl, .inr t.sq, l⟩
 | ptup t l => cases h; exact ⟨_, _, rfl, .inr t.sq, l⟩
 | ref ea =>
  obtain ⟨vs, h1, l⟩ := seqAt_ok (X := X) s ea h
  exact ⟨_, vs, rfl, .inl h1, l⟩
 | _ => cases h
theorem opS_ixSeq : OpS X (rIx X.K) ixSeq := by
 intro x y S d S' e r H u v Q s q1 q2 hq
 unfold ixSeq at e
 split at e
 ·split at e
  ·rename_i hz
   obtain ⟨c, e1, e2⟩ := Option.map_eq_some_iff.mp e
   cases e2
   cases q1
   cases q2
   exact .inr (.inr ⟨_, _, c, rfl, rfl, hz, e1, hq r H _ s .refl (.str _)⟩)
  ·cases e
 ·obtain ⟨xs, e1, e⟩ := Option.bind_eq_some_iff.mp e
  obtain ⟨d', e2, e3⟩ := Option.map_eq_some_iff.mp e
  cases e3
  obtain ⟨a, vs, rfl, hs, l⟩ := seqD_ok (X := X) s q1 e1
  obtain ⟨w, e4, q4⟩ := l.atI e2
  cases q2
  rcases hs with hs | hs
  ·exact .inl ⟨a, vs, _, w, rfl, rfl, hs, e4, hq r H w s .refl q4⟩
  ·exact .inr (.inl ⟨a, vs, _, w, rfl, rfl, hs, e4, hq r H w s .refl q4⟩)
 ·cases e
theorem dget_ok {r : List Addr} {S : Sto} {H : Hp} {n : Nat} {a : Addr} {y : D} {v : V} {o : Option D} (s : Sim X.K X.mg r S H) (ea : r[n]? = some a) (q2 : RepV X.K X.mg r H y v)
  (h : (∃ kvs k, S[n]? = some (.dK kvs) ∧ keyD y = some k ∧ o = valD kvs k) ∨ ∃ kvs ds k, S[n]? = some (.dT kvs) ∧ y = .tup ds ∧ keysD ds = some k ∧ o = valD kvs k) :
  (o = none ∧ DGet H a v none) ∨ ∃ d w, o = some d ∧ DGet H a v (some w) ∧ RepV X.K X.mg r H d w := by
 rcases h with ⟨kvs, k, e1, e2, rfl⟩ | ⟨kvs, ds, k, e1, rfl, e2, rfl⟩
 ·obtain ⟨ws, h1, q⟩ := s.ob n _ a e1 ea
  have hv := keyD_ok q2 e2
  rcases valD_ok (x := k) q with ⟨z1, z2⟩ | ⟨d, w, z1, z2, z3⟩
  ·exact .inl ⟨z1, .inl ⟨ws, k, .inl h1, hv, z2.symm⟩⟩
  ·exact .inr ⟨d, w, z1, .inl ⟨ws, k, .inl h1, hv, z2.symm⟩, z3⟩
 ·obtain ⟨ws, h1, q⟩ := s.ob n _ a e1 ea
  cases q2 with
  | tup t l =>
   have hv := keysD_ok l e2
   subst hv
   rcases valD_ok (x := k) q with ⟨z1, z2⟩ | ⟨d, w, z1, z2, z3⟩
   ·exact .inl ⟨z1, .inr ⟨ws, k, _, .inl h1, rfl, t, z2.symm⟩⟩
   ·exact .inr ⟨d, w, z1, .inr ⟨ws, k, _, .inl h1, rfl, t, z2.symm⟩, z3⟩
def dictAt (n : Nat) (y : D) (S : Sto) : Option (Option D) := match S[n]? with
 | some (.dK kvs) => (keyD y).map fun k => valD kvs k
 | some (.dT kvs) => match y with
  | .tup ds => (keysD ds).map fun k => valD kvs k
  | _ => none
 | _ => none
theorem dictAt_ok {r : List Addr} {S : Sto} {H : Hp} {n : Nat} {a : Addr} {y : D} {v : V} {o : Option D} (s : Sim X.K X.mg r S H) (ea : r[n]? = some a) (q2 : RepV X.K X.mg r H y v) (h : dictAt n y S = some o) :
  (o = none ∧ DGet H a v none) ∨ ∃ d w, o = some d ∧ DGet H a v (some w) ∧ RepV X.K X.mg r H d w := by
 unfold dictAt at h
 split at h
 ·rename_i kvs e1
  obtain ⟨k, e2, e3⟩ := Option.map_eq_some_iff.mp h
  exact dget_ok s ea q2 (.inl ⟨kvs, k, e1, e2, e3.symm⟩)
 ·rename_i kvs e1
  split at h
  ·rename_i ds
   obtain ⟨k, e2, e3⟩ := Option.map_eq_some_iff.mp h
   exact dget_ok s ea q2 (.inr ⟨kvs, ds, k, e1, rfl, e2, e3.symm⟩)
  ·cases h
 ·cases h
def ixD : D → D → Sto → R
 | .ref n, y, S => (dictAt n y S).bind fun o => o.map fun d => (d, S)
 | _, _, _ => none
def ixA : D → D → Sto → R := fun x y S => (ixSeq x y S).orElse fun _ => ixD x y S
theorem cE_ixA {a b : Expr} {ma mb : ME} {pos : Pos} (hu : X.A.units + 1 < cLine) (ha : CE X a ma) (hb : CE X b mb) (hs : PlainIx b) : CE X (.Subscript a b pos) (mBin ixA ma mb) := by
 refine ⟨?_⟩
 intro env S d S' h r σ H Q A hq
 obtain ⟨⟨x, S1⟩, e1, h⟩ := Option.bind_eq_some_iff.mp h
 obtain ⟨⟨y, S2⟩, e2, h⟩ := Option.bind_eq_some_iff.mp h
 have h' : (ixSeq x y S2).orElse (fun _ => ixD x y S2) = some (d, S') := h
 cases eg : ixSeq x y S2 with
 | some z =>
  have hz : mBin ixSeq ma mb env S = some (d, S') := by
   show ((ma env S).bind fun p => (mb env p.2).bind fun q => ixSeq p.1 q.1 q.2) = _
   rw [e1]
   show ((mb env S1).bind fun q => ixSeq x q.1 q.2) = _
   rw [e2]
   show ixSeq x y S2 = _
   rw [eg] at h' ⊢
   exact h'
  exact cE_ix ix_seq opS_ixSeq ha hb hs env S d S' hz r σ H Q A hq
 | none =>
  rw [eg] at h'
  have h2 : ixD x y S2 = some (d, S') := h'
  unfold ixD at h2
  split at h2
  ·rename_i n
   obtain ⟨o, e3, h2⟩ := Option.bind_eq_some_iff.mp h2
   obtain ⟨d', e4, e5⟩ := Option.map_eq_some_iff.mp h2
   subst e4
   cases e5
   refine tm_of (pe_dget hu pe_tm pe_tm hs) (ha env S _ S1 e1 r σ H _ A fun r1 H1 u s1 l1 q1 => ?_)
   refine hb env S1 _ _ e2 r1 σ H1 _ (A.lat s1 l1) fun r2 H2 v s2 l2 q2 => ?_
   cases q1 with
   | ref ea =>
    rcases dictAt_ok (X := X) s2 (l2.pre _ _ ea) q2 e3 with ⟨z, _⟩ | ⟨d2, w, z1, z2, z3⟩
    ·cases z
    ·cases z1
     exact ⟨_, w, rfl, z2, hq r2 H2 w s2 (l1.trans l2) z3⟩
  ·cases h2
def inD (f : Bool → Bool) : D → D → Sto → R
 | y, .ref n, S => (dictAt n y S).map fun o => (.bl (f o.isSome), S)
 | _, _, _ => none
def inA (f : Bool → Bool) : D → D → Sto → R := fun x y S => (inSeq f x y S).orElse fun _ => (ssB (fun i j => f (!(Builtin.Str.occurrences j i 0 j.length 1).isEmpty)) x y S).orElse fun _ => inD f x y S
theorem inA_ok {a b : Expr} {op : CmpOp} {ma mb : ME} {neg : Bool} {f : Bool → Bool} {t : TE} {pos : Pos} (hf : ∀ b, f b = if neg then !b else b) (ho : OpR X (compareOp op) (rIn X.K neg))
  (hs : OpR X (compareOp op) (fun x y H Q => ∃ i j, x = .str i ∧ y = .str j ∧ Q (.bl (f (!(Builtin.Str.occurrences j i 0 j.length 1).isEmpty))) H))
  (hd : PC X op a b (fun σ H Q => TM X a σ H fun y H1 => TM X b σ H1 fun x H2 => ∃ a o, x = .ref a ∧ DGet H2 a y o ∧ Q (.bl (f o.isSome)) H2))
  (ha : CE X a ma) (hb : CE X b mb) (hm : behindInMarks op b = false) : CE X (.Compare a [op] [b] pos) (mBin (inA f) ma mb) := by
 refine ⟨?_⟩
 intro env S d S' h r σ H Q A hq
 obtain ⟨⟨x, S1⟩, e1, h⟩ := Option.bind_eq_some_iff.mp h
 obtain ⟨⟨y, S2⟩, e2, h⟩ := Option.bind_eq_some_iff.mp h
 have two : ∀ g : D → D → Sto → R, g x y S2 = some (d, S') → mBin g ma mb env S = some (d, S') := fun g hg => by
  show ((ma env S).bind fun p => (mb env p.2).bind fun q => g p.1 q.1 q.2) = _
  rw [e1]
  show ((mb env S1).bind fun q => g x q.1 q.2) = _
  rw [e2]
  exact hg
 have h' : (inSeq f x y S2).orElse (fun _ => (ssB (fun i j => f (!(Builtin.Str.occurrences j i 0 j.length 1).isEmpty)) x y S2).orElse fun _ => inD f x y S2) = some (d, S') := h
 cases eg : inSeq f x y S2 with
 | some z =>
  rw [eg] at h'
  exact cE_cmp ho (opS_inSeq hf) ha hb hm env S d S' (two _ (by rw [eg]; exact h')) r σ H Q A hq
 | none =>
  rw [eg] at h'
  have h' : (ssB (fun i j => f (!(Builtin.Str.occurrences j i 0 j.length 1).isEmpty)) x y S2).orElse (fun _ => inD f x y S2) = some (d, S') := h'
  cases eh : ssB (fun i j => f (!(Builtin.Str.occurrences j i 0 j.length 1).isEmpty)) x y S2 with
  | some z =>
   rw [eh] at h'
   exact cE_cmp hs opS_ssB ha hb hm env S d S' (two _ (by rw [eh]; exact h')) r σ H Q A hq
  | none =>
   rw [eh] at h'
   have h2 : inD f x y S2 = some (d, S') := h'
   unfold inD at h2
   split at h2
   ·rename_i n _
    obtain ⟨o, e3, e4⟩ := Option.map_eq_some_iff.mp h2
    cases e4
    refine tm_of (pe_cmp hd hm) (ha env S _ S1 e1 r σ H _ A fun r1 H1 u s1 l1 q1 => ?_)
    refine hb env S1 _ _ e2 r1 σ H1 _ (A.lat s1 l1) fun r2 H2 v s2 l2 q2 => ?_
    cases q2 with
    | ref ea =>
     rcases dictAt_ok (X := X) s2 ea (q1.lat l2) e3 with ⟨rfl, z⟩ | ⟨d2, w, rfl, z2, z3⟩
     ·exact ⟨_, none, rfl, z, hq r2 H2 _ s2 (l1.trans l2) (.bl _)⟩
     ·exact ⟨_, some w, rfl, z2, hq r2 H2 _ s2 (l1.trans l2) (.bl _)⟩
   ·cases h2
theorem cE_in {a b : Expr} {ma mb : ME} {pos : Pos} (hu : X.A.units + 1 < cLine) (ha : CE X a ma) (hb : CE X b mb) (hm : behindInMarks .In b = false) : CE X (.Compare a [.In] [b] pos) (mBin (inA id) ma mb) :=
 inA_ok (neg := false) (t := TM X a) (fun _ => rfl) op_in_seq op_in_str (pc_din hu pe_tm pe_tm) ha hb hm
def cutD (xs : List D) (lo hi : Option Int) : List D := (xs.drop (HT.sIx xs.length 0 lo)).take (HT.sIx xs.length xs.length hi - HT.sIx xs.length 0 lo)
theorem RepL.cut {K : PySem.W.Frag} {mg : Str → Option Value} {r : List Addr} {H : Hp} {xs : List D} {vs : List V} (q : RepL K mg r H xs vs) (lo hi : Option Int) : RepL K mg r H (cutD xs lo hi) (cutV vs lo hi) := by
 unfold cutD cutV
 rw [q.length]
 exact (q.drop _).take _
def slA : D → Option Int → Option Int → Sto → R
 | .tup xs, lo, hi, S => some (.tup (cutD xs lo hi), S)
 | .ptup xs, lo, hi, S => some (if HT.sIx xs.length 0 lo = 0 ∧ HT.sIx xs.length xs.length hi = xs.length then .ptup xs else .tup (cutD xs lo hi), S)
 | .str z, lo, hi, S => if z.length ≤ sizeLine then some (.str (cutS z lo hi), S) else none
 | .ref n, lo, hi, S => (seqAt n S).bind fun xs => newL (cutD xs lo hi) S
 | _, _, _, _ => none
theorem cut_allD {xs : List D} {lo hi : Option Int} (h : HT.sIx xs.length 0 lo = 0 ∧ HT.sIx xs.length xs.length hi = xs.length) : cutD xs lo hi = xs := by
 unfold cutD
 rw [h.1, h.2]
 simp
theorem slS_A : SlS X (fun x lo hi H Q => rSlL X.K x lo hi H Q ∨ (rSlA X.K x lo hi H Q ∨ rSlS x lo hi H Q)) slA := by
 intro x lo hi S d S' e r H u Q s q1 hq
 unfold slA at e
 split at e
 ·rename_i xs _
  cases e
  cases q1 with
  | tup t l =>
   refine .inr (.inl ⟨_, _, rfl, t.sq, fun hw => ?_, fun hw p np => ?_⟩)
   ·rw [← l.length] at hw
    rw [cut_allD hw] at hq
    exact hq r H _ s .refl (.tup t l)
   ·exact hq r _ _ (s.tup np) (lat_tup np) (.tup upd_same ((l.cut lo hi).lat (lat_tup np)))
 ·rename_i xs _
  cases e
  cases q1 with
  | ptup t l =>
   refine .inr (.inl ⟨_, _, rfl, t.sq, fun hw => ?_, fun hw p np => ?_⟩)
   ·rw [← l.length] at hw
    rw [if_pos hw] at hq
    exact hq r H _ s .refl (.ptup t l)
   ·rw [← l.length] at hw
    rw [if_neg hw] at hq
    exact hq r _ _ (s.tup np) (lat_tup np) (.tup upd_same ((l.cut lo hi).lat (lat_tup np)))
 ·split at e
  ·rename_i hz
   cases e
   cases q1
   exact .inr (.inr ⟨_, rfl, hz, hq r H _ s .refl (.str _)⟩)
  ·cases e
 ·obtain ⟨xs, e1, e⟩ := Option.bind_eq_some_iff.mp e
  cases q1 with
  | ref ea =>
   obtain ⟨vs, h1, l⟩ := seqAt_ok (X := X) s ea e1
   refine .inl ⟨_, vs, rfl, h1, fun p np => ?_⟩
   obtain ⟨a1, a2, a3⟩ := newL_ok (X := X) s np (l.cut lo hi) e
   exact hq _ _ _ a1 a2 a3
 ·cases e
theorem cE_slA {e : Expr} {lo hi : Option Expr} {p2 pos : Pos} {m : ME} {a b : MO} (he : CE X e m) (ha : CO X lo a) (hb : CO X hi b) : CE X (.Subscript e (.Slice lo hi none p2) pos) (mSl slA m a b) :=
 cE_sl (sl_list.or (sl_tupA.or sl_str)) slS_A he ha hb
def setSeq : D → D → D → Sto → Option Sto
 | .ref n, .int k, d, S => match S[n]? with
  | some (.lst xs) => (ixN xs.length k).map fun j => S.set n (.lst (xs.set j d))
  | some (.dK kvs) => if kvs.length < sizeLine then some (S.set n (.dK (putD kvs (.inl k) d))) else none
  | _ => none
 | .ref n, .str k, d, S => match S[n]? with
  | some (.dK kvs) => if kvs.length < sizeLine then some (S.set n (.dK (putD kvs (.inr k) d))) else none
  | _ => none
 | .ref n, .tup ds, d, S => match S[n]? with
  | some (.dT kvs) => (keysD ds).bind fun k => if kvs.length < sizeLine then some (S.set n (.dT (putD kvs k d))) else none
  | _ => none
 | _, _, _, _ => none
theorem any_ok {K : PySem.W.Frag} {mg : Str → Option Value} {r : List Addr} {H : Hp} {k : Type} [DecidableEq k] {x : k} : ∀ {kvs : List (k × D)} {ws : List (k × V)}, RepKs K mg r H kvs ws → (kvs.any fun kv => decide (kv.1 = x)) = (ws.any fun kv => decide (kv.1 = x))
 | _, _, .nil => rfl
 | (a, d) :: kvs, (b, v) :: ws, .cons ⟨e, q⟩ t => by
  have e' : a = b := e
  subst e'
  rw [List.any_cons, List.any_cons, any_ok t]
theorem map_ok {K : PySem.W.Frag} {mg : Str → Option Value} {r : List Addr} {H : Hp} {k : Type} [DecidableEq k] {x : k} {d : D} {v : V} (qd : RepV K mg r H d v) : ∀ {kvs : List (k × D)} {ws : List (k × V)}, RepKs K mg r H kvs ws →
  RepKs K mg r H (kvs.map (fun kv => if kv.1 = x then (kv.1, d) else kv)) (ws.map (fun kv => if kv.1 = x then (kv.1, v) else kv))
 | _, _, .nil => .nil
 | (a, d') :: kvs, (b, v') :: ws, .cons ⟨e, q⟩ t => by
  have e' : a = b := e
  subst e'
  refine .cons ?_ (map_ok qd t)
  by_cases h : a = x
  ·simp only [h, if_true]; exact ⟨trivial, qd⟩
  ·simp only [h, if_false]; exact ⟨trivial, q⟩
theorem app_ok {K : PySem.W.Frag} {mg : Str → Option Value} {r : List Addr} {H : Hp} {k : Type} : ∀ {kvs kvs' : List (k × D)} {ws ws' : List (k × V)}, RepKs K mg r H kvs ws → RepKs K mg r H kvs' ws' → RepKs K mg r H (kvs ++ kvs') (ws ++ ws')
 | _, _, _, _, .nil, q => q
 | _, _, _, _, .cons h t, q => .cons h (app_ok t q)
theorem putD_ok {K : PySem.W.Frag} {mg : Str → Option Value} {r : List Addr} {H : Hp} {k : Type} [DecidableEq k] {x : k} {d : D} {v : V} {kvs : List (k × D)} {ws : List (k × V)} (q : RepKs K mg r H kvs ws) (qd : RepV K mg r H d v) : RepKs K mg r H (putD kvs x d) (putK ws x v) := by
 unfold putD putK
 rw [any_ok q]
 split
 ·exact map_ok qd q
 ·exact app_ok q (.cons ⟨rfl, qd⟩ .nil)
theorem dkput {r : List Addr} {S : Sto} {H : Hp} {n : Nat} {a : Addr} {kvs : List (Key × D)} {ws : List (Key × V)} {k : Key} {d : D} {w : V} (s : Sim X.K X.mg r S H) (ex : S[n]? = some (.dK kvs)) (ea : r[n]? = some a) (h1 : H a = some (.dK ws)) (l : RepKs X.K X.mg r H kvs ws) (q3 : RepV X.K X.mg r H d w) :
  Sim X.K X.mg r (S.set n (.dK (putD kvs k d))) (upd H a (.dK (putK ws k w))) ∧ Lat r H r (upd H a (.dK (putK ws k w))) := by
 have L : Lat r H r (upd H a (.dK (putK ws k w))) := lat_upd h1 trivial
 exact s.put ex ea rfl rfl ⟨_, upd_same, (putD_ok l q3).lat L⟩
theorem setS_A : SetS X (fun o i v H Q => rSetL o i v H Q ∨ rSetD o i v H Q) setSeq := by
 intro o i d S S' e r H u v w Q s q1 q2 q3 hq
 unfold setSeq at e
 split at e
 ·skip
  split at e
  ·rename_i xs ex
   obtain ⟨j, e1, e2⟩ := Option.map_eq_some_iff.mp e
   subst e2
   cases q1 with
   | ref ea =>
    cases q2
    obtain ⟨vs, h1, l⟩ := s.ob _ _ _ ex ea
    refine .inl ⟨_, vs, _, j, rfl, rfl, h1, by rw [← l.length]; exact e1, ?_⟩
    have L : Lat r H r (upd H _ (.lst (vs.set j w))) := lat_upd h1 trivial
    obtain ⟨s8, l8⟩ := s.put (o' := .lst (xs.set j d)) (v := .lst (vs.set j w)) ex ea rfl rfl ⟨_, upd_same, ((l.set q3 j).lat L)⟩
    exact hq r _ s8 l8
  ·rename_i kvs ex
   split at e
   ·rename_i hz
    cases e
    cases q1 with
    | ref ea =>
     cases q2
     obtain ⟨ws, h1, l⟩ := s.ob _ _ _ ex ea
     obtain ⟨s8, l8⟩ := dkput (X := X) s ex ea h1 l q3
     exact .inr ⟨_, _, rfl, .inl ⟨ws, .inl _, h1, rfl, by rw [← Paired.len l]; exact hz, rfl⟩, hq r _ s8 l8⟩
   ·cases e
  ·cases e
 ·skip
  split at e
  ·rename_i kvs ex
   split at e
   ·rename_i hz
    cases e
    cases q1 with
    | ref ea =>
     cases q2
     obtain ⟨ws, h1, l⟩ := s.ob _ _ _ ex ea
     obtain ⟨s8, l8⟩ := dkput (X := X) s ex ea h1 l q3
     exact .inr ⟨_, _, rfl, .inl ⟨ws, .inr _, h1, rfl, by rw [← Paired.len l]; exact hz, rfl⟩, hq r _ s8 l8⟩
   ·cases e
  ·cases e
 ·skip
  split at e
  ·rename_i kvs ex
   obtain ⟨k, e1, e⟩ := Option.bind_eq_some_iff.mp e
   split at e
   ·rename_i hz
    cases e
    cases q1 with
    | ref ea =>
     cases q2 with
     | tup t lk =>
      have hv := keysD_ok lk e1
      subst hv
      obtain ⟨ws, h1, l⟩ := s.ob _ _ _ ex ea
      have L : Lat r H r (upd H _ (.dT (putK ws k w))) := lat_upd h1 trivial
      obtain ⟨s8, l8⟩ := s.put (o' := .dT (putD kvs k d)) (v := .dT (putK ws k w)) ex ea rfl rfl ⟨_, upd_same, (putD_ok l q3).lat L⟩
      exact .inr ⟨_, _, rfl, .inr ⟨ws, k, _, h1, rfl, t, by rw [← Paired.len l]; exact hz, rfl⟩, hq r _ s8 l8⟩
   ·cases e
  ·cases e
 ·cases e
theorem PSet.or {a b : TSet} (h : PSet X a) (g : PSet X b) : PSet X (fun o i v H Q => a o i v H Q ∨ b o i v H Q) := fun pins s σ H o i v ov iv u Q I r1 r2 r3 q => q.elim (h pins s σ H o i v ov iv u Q I r1 r2 r3) (g pins s σ H o i v ov iv u Q I r1 r2 r3)
def mPairs : List (ME × ME) → Env → Sto → Option (List (D × D) × Sto)
 | [], _, S => some ([], S)
 | (a, b) :: ms, env, S => (a env S).bind fun p => (b env p.2).bind fun q => (mPairs ms env q.2).bind fun t => some ((p.1, q.1) :: t.1, t.2)
def RepP (K : PySem.W.Frag) (mg : Str → Option Value) (r : List Addr) (H : Hp) : List (D × D) → List (V × V) → Prop := Paired fun p q => RepV K mg r H p.1 q.1 ∧ RepV K mg r H p.2 q.2
theorem RepP.lat {K : PySem.W.Frag} {mg : Str → Option Value} {r r' : List Addr} {H H' : Hp} {ks : List (D × D)} {ws : List (V × V)} (l : Lat r H r' H') (h : RepP K mg r H ks ws) : RepP K mg r' H' ks ws := Paired.mapP h fun _ _ q => ⟨q.1.lat l, q.2.lat l⟩
structure CPs (X : Cx) (pos : Pos) (keys : List (Option Expr)) (vals : List Expr) (ms : List (ME × ME)) : Prop where
 run : ∃ trs, PPs X pos keys vals trs ∧ ∀ env S ps S', mPairs ms env S = some (ps, S') → ∀ r σ H (Q : List (V × V) → Hp → Prop), At X r env S σ H →
 (∀ r' H' vs, Sim X.K X.mg r' S' H' → Lat r H r' H' → RepP X.K X.mg r' H' ps vs → Q vs H') → tPairs trs σ H Q
theorem cPs_nil {pos : Pos} : CPs X pos [] [] [] := ⟨[], pps_nil, fun env S ps S' h r σ H Q A hq => by cases h; exact hq r H [] A.sim .refl .nil⟩
theorem cPs_cons {pos : Pos} {k v : Expr} {ks : List (Option Expr)} {vs : List Expr} {mk mv : ME} {ms : List (ME × ME)} (hk : CE X k mk) (hv : CE X v mv) (hr : CPs X pos ks vs ms) : CPs X pos (some k :: ks) (v :: vs) ((mk, mv) :: ms) := by
 obtain ⟨trs, pt, hr⟩ := hr
 refine ⟨_, pps_cons pe_tm pe_tm pt, fun env S ps S' h r σ H Q A hq => ?_⟩
 obtain ⟨⟨d1, S1⟩, e1, h⟩ := Option.bind_eq_some_iff.mp h
 obtain ⟨⟨d2, S2⟩, e2, h⟩ := Option.bind_eq_some_iff.mp h
 obtain ⟨⟨ps', S3⟩, e3, h⟩ := Option.bind_eq_some_iff.mp h
 cases h
 refine hk env S d1 S1 e1 r σ H _ A fun r1 H1 v1 s1 l1 q1 => ?_
 refine hv env S1 d2 S2 e2 r1 σ H1 _ (A.lat s1 l1) fun r2 H2 v2 s2 l2 q2 => ?_
 refine hr env S2 ps' S3 e3 r2 σ H2 _ ((A.lat s1 l1).lat s2 l2) fun r3 H3 vs3 s3 l3 q3 => ?_
 exact hq r3 H3 ((v1, v2) :: vs3) s3 (l1.trans (l2.trans l3)) (.cons ⟨q1.lat (l2.trans l3), q2.lat l3⟩ q3)
def keyPs : List (D × D) → Option (List (Key × D))
 | [] => some []
 | (a, b) :: ps => (keyD a).bind fun k => (keyPs ps).map ((k, b) :: ·)
theorem keyPs_ok {K : PySem.W.Frag} {mg : Str → Option Value} {r : List Addr} {H : Hp} : ∀ {ps : List (D × D)} {vs : List (V × V)} {kvs : List (Key × D)}, RepP K mg r H ps vs → keyPs ps = some kvs → ∃ ws : List (Key × V), vs = ws.map (fun kv => (kV kv.1, kv.2)) ∧ RepKs K mg r H kvs ws
 | _, _, _, .nil, h => by simp [keyPs] at h; subst h; exact ⟨[], rfl, .nil⟩
 | (a, b) :: ps, (v, w) :: vs, _, .cons ⟨q1, q2⟩ t, h => by
  simp only [keyPs] at h
  obtain ⟨k, e1, h⟩ := Option.bind_eq_some_iff.mp h
  obtain ⟨ks, e2, e3⟩ := Option.map_eq_some_iff.mp h
  subst e3
  obtain ⟨ws, h1, h2⟩ := keyPs_ok t e2
  refine ⟨(k, w) :: ws, ?_, .cons ⟨rfl, q2⟩ h2⟩
  have hv : v = kV k := keyD_ok q1 e1
  rw [h1, hv]
  rfl
def mergeD (kvs more : List (Key × D)) : List (Key × D) := more.foldl (fun acc kv => putD acc kv.1 kv.2) kvs
theorem mergeD_ok {K : PySem.W.Frag} {mg : Str → Option Value} {r : List Addr} {H : Hp} : ∀ {more : List (Key × D)} {ms : List (Key × V)} {kvs : List (Key × D)} {ws : List (Key × V)}, RepKs K mg r H more ms → RepKs K mg r H kvs ws → RepKs K mg r H (mergeD kvs more) (mergeK ws ms)
 | _, _, _, _, .nil, q => q
 | (a, d) :: more, (b, v) :: ms, kvs, ws, .cons ⟨e, q1⟩ t, q => by
  have e' : a = b := e
  subst e'
  exact mergeD_ok (more := more) (ms := ms) t (putD_ok q q1)
def mDisp (ms : List (ME × ME)) : ME := fun env S => (mPairs ms env (S ++ [.dK []])).bind fun p => match p.2[S.length]? with
 | some (.dK []) => (keyPs p.1).bind fun kvs => if kvs.length ≤ 15 then some (.ref S.length, p.2.set S.length (.dK (mergeD [] kvs))) else none
 | _ => none
theorem cE_disp {keys : List (Option Expr)} {vals : List Expr} {ms : List (ME × ME)} {pos : Pos} (h : CPs X pos keys vals ms) (hall : keys.all (·.isSome) = true) (hl : keys.length = vals.length) (h0 : keys ≠ []) (h15 : keys.length ≤ 15) : CE X (.Dict keys vals pos) (mDisp ms) := by
 obtain ⟨trs, pt, h⟩ := h
 refine ⟨?_⟩
 intro env S d S' hm r σ H Q A hq
 obtain ⟨⟨ps, S1⟩, e1, hm⟩ := Option.bind_eq_some_iff.mp hm
 split at hm
 ·rename_i ek
  obtain ⟨kvs, e2, hm⟩ := Option.bind_eq_some_iff.mp hm
  split at hm
  ·rename_i hz
   cases hm
   refine tm_of (pe_disp pt hall hl h0 h15) fun p np => ?_
   have s0 : Sim X.K X.mg (r ++ [p]) (S ++ [.dK []]) (upd H p (.dK [])) := A.sim.new np ⟨[], upd_same, .nil⟩
   have pn : (r ++ [p])[S.length]? = some p := by
    rw [← A.sim.len, List.getElem?_append_right (Nat.le_refl _), Nat.sub_self]
    rfl
   refine h env _ ps S1 e1 (r ++ [p]) σ _ _ (A.lat s0 (lat_new np)) fun r1 H1 vs s1 l1 q1 => ?_
   have pn1 := l1.pre _ _ pn
   obtain ⟨ws0, z1, z2⟩ := s1.ob _ _ p ek pn1
   cases z2
   obtain ⟨ws, hw, hk⟩ := keyPs_ok q1 e2
   have L : Lat r1 H1 r1 (upd H1 p (.dK (mergeK [] ws))) := lat_upd z1 trivial
   obtain ⟨s8, l8⟩ := s1.put (o' := .dK (mergeD [] kvs)) (v := .dK (mergeK [] ws)) ek pn1 rfl rfl ⟨_, upd_same, (mergeD_ok hk .nil).lat L⟩
   exact ⟨z1, ws, hw, by rw [← Paired.len hk]; exact hz, hq r1 _ _ s8 ((lat_new np).trans (l1.trans l8)) (.ref pn1)⟩
  ·cases hm
 ·cases hm
def gAppend : D → List D → Sto → R
 | .ref n, [d], S => match S[n]? with
  | some (.lst xs) => if xs.length < sizeLine then some (.non, S.set n (.lst (xs ++ [d]))) else none
  | _ => none
 | _, _, _ => none
theorem mtS_append {T : String} : MtS X T rAppend gAppend := by
 intro x xs S d S' e r H u vs Q s q1 q2 hq
 unfold gAppend at e
 split at e
 ·rename_i n d1
  split at e
  ·rename_i ys ex
   split at e
   ·rename_i hz
    cases e
    cases q1 with
    | ref ea =>
     obtain ⟨v, rfl, z⟩ := RepL.inv1 q2
     obtain ⟨ws, h1, l⟩ := s.ob _ _ _ ex ea
     have L : Lat r H r (upd H _ (.lst (ws ++ [v]))) := lat_upd h1 trivial
     obtain ⟨s8, l8⟩ := s.put (o' := .lst (ys ++ [d1])) (v := .lst (ws ++ [v])) ex ea rfl rfl ⟨_, upd_same, ((l.append (.cons z .nil)).lat L)⟩
     exact ⟨_, ws, v, rfl, rfl, h1, by rw [← l.length]; exact hz, hq r _ _ s8 l8 .non⟩
   ·cases e
  ·cases e
 ·cases e
def gExtend : D → List D → Sto → R
 | .ref n, [.ref m], S => match S[n]?, S[m]? with
  | some (.lst xs), some (.lst ys) => if xs.length + ys.length ≤ sizeLine then some (.non, S.set n (.lst (xs ++ ys))) else none
  | _, _ => none
 | _, _, _ => none
theorem mtS_extend {T : String} : MtS X T rExtend gExtend := by
 intro x xs S d S' e r H u vs Q s q1 q2 hq
 unfold gExtend at e
 split at e
 ·split at e
  ·rename_i ys zs ex ez
   split at e
   ·rename_i hz
    cases e
    cases q1 with
    | ref ea =>
     obtain ⟨v, rfl, z⟩ := RepL.inv1 q2
     cases z with
     | ref eb =>
     obtain ⟨ws, h1, l⟩ := s.ob _ _ _ ex ea
     obtain ⟨us, h2, l2⟩ := s.ob _ _ _ ez eb
     have L : Lat r H r (upd H _ (.lst (ws ++ us))) := lat_upd h1 trivial
     obtain ⟨s8, l8⟩ := s.put (o' := .lst (ys ++ zs)) (v := .lst (ws ++ us)) ex ea rfl rfl ⟨_, upd_same, ((l.append l2).lat L)⟩
     exact ⟨_, _, ws, us, rfl, rfl, h1, h2, by rw [← l.length, ← l2.length]; exact hz, hq r _ _ s8 l8 .non⟩
   ·cases e
  ·cases e
 ·cases e
def gLen : List D → Sto → R
 | [.str z], S => if z.length ≤ sizeLine then some (.int z.length, S) else none
 | [d], S => (seqD S d).map fun xs => (.int xs.length, S)
 | _, _ => none
theorem callS_len : CallS X (fun xs H Q => (∃ p ys, xs = [.ref p] ∧ (SqL X.K H p ys ∨ SqT X.K H p ys) ∧ Q (.int ys.length) H) ∨ (∃ z, xs = [.str z] ∧ z.length ≤ sizeLine ∧ Q (.int z.length) H)) gLen := by
 intro xs S d S' e r H vs Q s q hq
 unfold gLen at e
 split at e
 ·split at e
  ·rename_i hz
   cases e
   obtain ⟨v, rfl, z⟩ := RepL.inv1 q
   cases z; exact .inr ⟨_, rfl, hz, hq r H _ s .refl (.int _)⟩
  ·cases e
 ·obtain ⟨ys, e1, e2⟩ := Option.map_eq_some_iff.mp e
  cases e2
  obtain ⟨v, rfl, z⟩ := RepL.inv1 q
  obtain ⟨a, ws, rfl, hs, l⟩ := seqD_ok (X := X) s z e1
  refine .inl ⟨a, ws, rfl, hs, ?_⟩
  rw [← l.length]
  exact hq r H _ s .refl (.int _)
 ·cases e
def gTuple : List D → Sto → R
 | [.tup xs], S => some (.tup xs, S)
 | [.ref n], S => (seqAt n S).map fun xs => (.tup xs, S)
 | _, _ => none
theorem callS_tuple : CallS X (fun xs H Q => ∃ p ys, xs = [.ref p] ∧ ((SqL X.K H p ys ∧ ∀ l, H l = none → Q (.ref l) (upd H l (.tup ys))) ∨ (SqT X.K H p ys ∧ Q (.ref p) H))) gTuple := by
 intro xs S d S' e r H vs Q s q hq
 unfold gTuple at e
 split at e
 ·cases e
  obtain ⟨v, rfl, z⟩ := RepL.inv1 q
  cases z with
   | tup t l => exact ⟨_, _, rfl, .inr ⟨t.sq, hq r H _ s .refl (.tup t l)⟩⟩
 ·obtain ⟨ys, e1, e2⟩ := Option.map_eq_some_iff.mp e
  cases e2
  obtain ⟨v, rfl, z⟩ := RepL.inv1 q
  cases z with
   | ref ea =>
    obtain ⟨ws, h1, l⟩ := seqAt_ok (X := X) s ea e1
    exact ⟨_, ws, rfl, .inl ⟨h1, fun p np => hq r _ _ (s.tup np) (lat_tup np) (.tup upd_same (l.lat (lat_tup np)))⟩⟩
 ·cases e
def gList : List D → Sto → R
 | [d], S => (seqD S d).bind fun xs => newL xs S
 | _, _ => none
theorem callS_list : CallS X (fun xs H Q => ∃ p ys, xs = [.ref p] ∧ (SqL X.K H p ys ∨ SqT X.K H p ys) ∧ ∀ l, H l = none → Q (.ref l) (upd H l (.lst ys))) gList := by
 intro xs S d S' e r H vs Q s q hq
 unfold gList at e
 split at e
 ·obtain ⟨ys, e1, e⟩ := Option.bind_eq_some_iff.mp e
  obtain ⟨v, rfl, z⟩ := RepL.inv1 q
  obtain ⟨a, ws, rfl, hs, l⟩ := seqD_ok (X := X) s z e1
  refine ⟨a, ws, rfl, hs, fun p np => ?_⟩
  obtain ⟨a1, a2, a3⟩ := newL_ok (X := X) s np l e
  exact hq _ _ _ a1 a2 a3
 ·cases e
end
end PL
end
section
namespace PL
open PySem PySem.Spec PyProof.Rows L2
variable [Tbl]
section
variable {X : Cx}
theorem cV (i : Nat) {x : Str} {pos : Pos} (hN : X.N[i]? = some x := by rfl) (hv : Vis X.env.scope x := by first | exact Or.inl rfl | exact Or.inr (Or.inl rfl) | exact Or.inr (Or.inr rfl)) (hd : (x == ("__debug__" : Str)) = false := by decide)
  (hcd : (x == ("__classdict__" : Str)) = false := by decide) : CE X (.Name x pos) (mVar i) := cE_var hN hv hd hcd
theorem cGn (i : Nat) {x : Str} {pos : Pos} (hN : X.N.Nodup) (hi : X.N[i]? = some x := by rfl) (hx : L2.Loc X.env.scope x := by first | exact Or.inl rfl | exact Or.inr rfl) (hf : X.fn x = true ∨ X.env.scope.names.lookup x = some .local := by first | exact .inl rfl | exact .inr rfl | assumption) : CG X (.Name x pos) [i] (gN i) := cG_name hN hi hx hf
def cMulB (i j : Int) : Bool := decide (-(2 ^ 64) < i ∧ i < 2 ^ 64) || decide (-(2 ^ 64) < j ∧ j < 2 ^ 64)
theorem opS_mul : OpS X (rI CMul fun i j => .int (i * j)) (iiI cMulB (· * ·)) := opS_iiI fun i j h => by
 unfold cMulB at h
 rw [Bool.or_eq_true, decide_eq_true_eq, decide_eq_true_eq] at h
 exact h
instance (i j : Int) : Decidable (CDiv i j) := inferInstanceAs (Decidable (0 < j ∧ j < 1073741824))
instance (i j : Int) : Decidable (CPow i j) := inferInstanceAs (Decidable (0 ≤ j ∧ j ≤ 1000000 ∧ i.natAbs < 2 ^ 64))
def cDivB (i j : Int) : Bool := decide (0 < j ∧ j < 1073741824)
theorem opS_fdiv : OpS X (rI CDiv fun i j => .int (i / j)) (iiI cDivB (· / ·)) := opS_iiI fun i j h => of_decide_eq_true h
theorem opS_mod : OpS X (rI (fun _ j => 0 < j) fun i j => .int (i % j)) (iiI (fun _ j => decide (0 < j)) (· % ·)) := opS_iiI fun i j h => of_decide_eq_true h
def cPowB (i j : Int) : Bool := decide (0 ≤ j ∧ j ≤ 1000000 ∧ i.natAbs < 2 ^ 64)
theorem opS_pow : OpS X (rI CPow fun i j => .int (i ^ j.toNat)) (iiI cPowB fun i j => i ^ j.toNat) := opS_iiI fun i j h => of_decide_eq_true h
def dAdd : D → D → Sto → R := alt (iiI (fun _ _ => true) (· + ·)) (alt ssS (alt ttT llL))
def dSub : D → D → Sto → R := iiI (fun _ _ => true) (· - ·)
def dDiv : D → D → Sto → R := iiI cDivB (· / ·)
def dMod : D → D → Sto → R := iiI (fun _ j => decide (0 < j)) (· % ·)
def dPow : D → D → Sto → R := iiI cPowB fun i j => i ^ j.toNat
def dEq : D → D → Sto → R := alt (sEq id) (deepB id)
def dNe : D → D → Sto → R := alt (sEq not) (deepB not)
def dIsO : D → D → Sto → R := alt (isN id) (bbB fun a b => decide (a = b))
def mNeg (a : ME) : ME := fun env S => (a env S).bind fun p => match p.1 with
 | .int i => some (.int (-i), p.2)
 | _ => none
theorem cE_neg {a : Expr} {m : ME} {pos : Pos} (ha : CE X a m) : CE X (.UnaryOp .USub a pos) (mNeg m) := by
 refine ⟨?_⟩
 intro env S d S' h r σ H Q A hq
 obtain ⟨⟨x, S1⟩, e1, h⟩ := Option.bind_eq_some_iff.mp h
 split at h
 ·rename_i i ei
  have ei' : x = .int i := ei
  subst ei'
  cases h
  refine tm_of (pe_un un_neg pe_tm) (ha env S _ _ e1 r σ H _ A fun r1 H1 v s1 l1 q1 => ?_)
  cases q1
  exact ⟨i, rfl, hq r1 H1 _ s1 l1 (.int _)⟩
 ·cases h
def mChain (g h : D → D → Sto → R) (a b c : ME) : ME := fun env S => (a env S).bind fun p => (b env p.2).bind fun q => (g p.1 q.1 q.2).bind fun t => match t.1 with
 | .bl true => (c env t.2).bind fun u => h q.1 u.1 u.2
 | .bl false => some (.bl false, t.2)
 | _ => none
theorem chain_ok {a b c : Expr} {ma mb mc : ME} {rr rr' : R2} {g h : D → D → Sto → R} (ha : CE X a ma) (hb : CE X b mb) (hc : CE X c mc) (hg : OpS X rr g) (hh : OpS X rr' h) {env : Env} {S : Sto} {d : D} {S' : Sto} (hm : mChain g h ma mb mc env S = some (d, S')) {r : List Addr} {σ : L2.St} {H : Hp} {Q : VK} (A : At X r env S σ H)
  (hq : ∀ r' H' v, Sim X.K X.mg r' S' H' → Lat r H r' H' → RepV X.K X.mg r' H' d v → Q v H') : tChain rr rr' (TM X a) (TM X b) (TM X c) σ H Q := by
 obtain ⟨⟨x, S1⟩, e1, hm⟩ := Option.bind_eq_some_iff.mp hm
 obtain ⟨⟨y, S2⟩, e2, hm⟩ := Option.bind_eq_some_iff.mp hm
 obtain ⟨⟨t, S3⟩, e3, hm⟩ := Option.bind_eq_some_iff.mp hm
 refine ha env S x S1 e1 r σ H _ A fun r1 H1 u s1 l1 q1 => ?_
 refine hb env S1 y S2 e2 r1 σ H1 _ (A.lat s1 l1) fun r2 H2 v s2 l2 q2 => ?_
 refine hg x y S2 t S3 e3 r2 H2 u v _ s2 (q1.lat l2) q2 fun r3 H3 z s3 l3 q3 => ?_
 split at hm
 ·rename_i et
  have et' : t = .bl true := et
  subst et'
  cases q3
  obtain ⟨⟨w, S4⟩, e4, hm⟩ := Option.bind_eq_some_iff.mp hm
  refine ⟨true, rfl, iteT ?_⟩
  refine hc env S3 w S4 e4 r3 σ H3 _ ((A.lat s1 l1).lat s3 (l2.trans l3)) fun r4 H4 z4 s4 l4 q4 => ?_
  exact hh y w S4 d S' hm r4 H4 v z4 Q s4 ((q2.lat l3).lat l4) q4 fun r5 H5 z5 s5 l5 q5 => hq r5 H5 z5 s5 (l1.trans (l2.trans (l3.trans (l4.trans l5)))) q5
 ·rename_i et
  have et' : t = .bl false := et
  subst et'
  cases q3
  cases hm
  exact ⟨false, rfl, iteF (hq r3 H3 _ s3 (l1.trans (l2.trans l3)) (.bl _))⟩
 ·cases hm
theorem cT_chain {a b c : Expr} {op op' : CmpOp} {ma mb mc : ME} {rr rr' : R2} {g h : D → D → Sto → R} {pos : Pos} (ho : OpR X (compareOp op) rr) (hg : OpS X rr g) (ho' : OpR X (compareOp op') rr') (hh : OpS X rr' h) (ha : CE X a ma) (hb : CE X b mb) (hc : CE X c mc)
  (hm : lastMarks [op, op'] [b, c] = false := by with_unfolding_all rfl) : CT X (.Compare a [op, op'] [b, c] pos) (asB (mChain g h ma mb mc)) := by
 refine ⟨?_⟩
 intro env S k S' h' r σ H Q A hq
 obtain ⟨⟨d, S1⟩, e1, h'⟩ := Option.bind_eq_some_iff.mp h'
 split at h'
 ·rename_i b' eb
  cases h'
  have eb' : d = .bl k := eb
  subst eb'
  refine tmt_of (pt_chain ho ho' pe_tm pe_tm pe_tm hm) (chain_ok (Q := fun x H' => ∃ k, x = .bl k ∧ Q k H') ha hb hc hg hh e1 A fun r' H' v s l q => ?_)
  cases q
  exact ⟨k, rfl, hq r' H' s l⟩
 ·cases h'
theorem inT_ok {a b : Expr} {op : CmpOp} {ma mb : ME} {neg : Bool} {f : Bool → Bool} {pos : Pos} (hf : ∀ b, f b = if neg then !b else b) (ho : OpR X (compareOp op) (rIn X.K neg))
  (hs : OpR X (compareOp op) (fun x y H Q => ∃ i j, x = .str i ∧ y = .str j ∧ Q (.bl (f (!(Builtin.Str.occurrences j i 0 j.length 1).isEmpty))) H))
  (hd : PC X op a b (fun σ H Q => TM X a σ H fun y H1 => TM X b σ H1 fun x H2 => ∃ a o, x = .ref a ∧ DGet H2 a y o ∧ Q (.bl (f o.isSome)) H2))
  (ha : CE X a ma) (hb : CE X b mb) (hm : behindInMarks op b = false) : CT X (.Compare a [op] [b] pos) (asB (mBin (inA f) ma mb)) := by
 refine ⟨?_⟩
 intro env S c S' h r σ H Q A hq
 obtain ⟨⟨d, S0⟩, e0, h⟩ := Option.bind_eq_some_iff.mp h
 split at h
 case h_2 => cases h
 rename_i b' eb
 cases h
 have eb' : d = .bl c := eb
 subst eb'
 have hq' : ∀ r' H' v, Sim X.K X.mg r' S0 H' → Lat r H r' H' → RepV X.K X.mg r' H' (.bl c) v → ∃ k, v = .bl k ∧ Q k H' := fun r' H' v s l q => by
  cases q
  exact ⟨c, rfl, hq r' H' s l⟩
 obtain ⟨⟨x, S1⟩, e1, h⟩ := Option.bind_eq_some_iff.mp e0
 obtain ⟨⟨y, S2⟩, e2, h⟩ := Option.bind_eq_some_iff.mp h
 have two : ∀ g : D → D → Sto → R, g x y S2 = some (.bl c, S0) → mBin g ma mb env S = some (.bl c, S0) := fun g hg => by
  show ((ma env S).bind fun p => (mb env p.2).bind fun q => g p.1 q.1 q.2) = _
  rw [e1]
  show ((mb env S1).bind fun q => g x q.1 q.2) = _
  rw [e2]
  exact hg
 have h' : (inSeq f x y S2).orElse (fun _ => (ssB (fun i j => f (!(Builtin.Str.occurrences j i 0 j.length 1).isEmpty)) x y S2).orElse fun _ => inD f x y S2) = some (.bl c, S0) := h
 cases eg : inSeq f x y S2 with
 | some z =>
  rw [eg] at h'
  exact tmt_of (pt_cmpR ho pe_tm pe_tm hm) (bin_ok (Q := fun x H' => ∃ k, x = .bl k ∧ Q k H') ha hb (opS_inSeq hf) (two _ (by rw [eg]; exact h')) A hq')
 | none =>
  rw [eg] at h'
  have h' : (ssB (fun i j => f (!(Builtin.Str.occurrences j i 0 j.length 1).isEmpty)) x y S2).orElse (fun _ => inD f x y S2) = some (.bl c, S0) := h'
  cases eh : ssB (fun i j => f (!(Builtin.Str.occurrences j i 0 j.length 1).isEmpty)) x y S2 with
  | some z =>
   rw [eh] at h'
   exact tmt_of (pt_cmpR hs pe_tm pe_tm hm) (bin_ok (Q := fun x H' => ∃ k, x = .bl k ∧ Q k H') ha hb opS_ssB (two _ (by rw [eh]; exact h')) A hq')
  | none =>
   rw [eh] at h'
   have h2 : inD f x y S2 = some (.bl c, S0) := h'
   unfold inD at h2
   split at h2
   ·rename_i n _
    obtain ⟨o, e3, e4⟩ := Option.map_eq_some_iff.mp h2
    cases e4
    refine tmt_of (pt_cmp hd hm) (ha env S _ S1 e1 r σ H _ A fun r1 H1 u s1 l1 q1 => ?_)
    refine hb env S1 _ _ e2 r1 σ H1 _ (A.lat s1 l1) fun r2 H2 v s2 l2 q2 => ?_
    cases q2 with
    | ref ea =>
     rcases dictAt_ok (X := X) s2 ea (q1.lat l2) e3 with ⟨rfl, z⟩ | ⟨d2, w, rfl, z2, z3⟩
     ·exact ⟨_, none, rfl, z, _, rfl, hq r2 H2 s2 (l1.trans l2)⟩
     ·exact ⟨_, some w, rfl, z2, _, rfl, hq r2 H2 s2 (l1.trans l2)⟩
   ·cases h2
theorem cT_in {a b : Expr} {ma mb : ME} {pos : Pos} (hu : X.A.units + 1 < cLine) (ha : CE X a ma) (hb : CE X b mb) (hm : behindInMarks .In b = false) : CT X (.Compare a [.In] [b] pos) (asB (mBin (inA id) ma mb)) :=
 inT_ok (neg := false) (fun _ => rfl) op_in_seq op_in_str (pc_din hu pe_tm pe_tm) ha hb hm
theorem cT_notIn {a b : Expr} {ma mb : ME} {pos : Pos} (hu : X.A.units + 1 < cLine) (ha : CE X a ma) (hb : CE X b mb) (hm : behindInMarks .NotIn b = false) : CT X (.Compare a [.NotIn] [b] pos) (asB (mBin (inA not) ma mb)) :=
 inT_ok (neg := true) (fun _ => rfl) op_notIn_seq op_notin_str (pc_dnotin hu pe_tm pe_tm) ha hb hm
structure DefAt (K : PySem.W.Frag) (mg : Str → Option Value) (x : Str) (st : Stmt) (ps : List Str) (f : Addr) (fd : FuncData) : Prop where
 fn : Fun K x x st f fd
 mg : mg x = some (.ref f)
 bi : Binds K fd ps []
end
structure FnG (P : Program) (w : World) (K : PySem.W.Frag) (mg : Str → Option Value) (base : Heap) (k : Nat) (f : Addr) (fd : FuncData) (ps : List Str) (sp : Sp) : Prop where
 len : ∀ vs H Q E, sp vs H Q E → vs.length = ps.length
 run : ∀ (A : Around) (outer : List PySem.Env) (s : Shared) (H : Hp) (args : Args) (us : List Value) (vs : List V) (Q : VK) (E : XK), Room k A → A.guards = some [] →
  Env0 P w K mg base A outer s H → BindsTo s fd args (ps.zip us) → Vals vs us → sp vs H Q E → codeAny (model P w) A (.call (.ref f) args) (CR CX0 outer P w H s Q E) s
section
variable {X : Cx} {k n : Nat} {f : Addr} {fd : FuncData} {ps : List Str} {m : MF}
theorem FnG.call {pins : List (Addr × Obj)} {σ : L2.St} {H : Hp} {s : Shared} {Q : VK} {us : List Value} {vs : List V} {sp : Sp} (F : FnG X.prog X.w X.K X.mg X.base k f fd ps sp) (hr : Room k X.A) (hgd : X.A.guards = some []) (hb : Binds X.K fd ps [])
  (I : Inv X pins σ H s) (rv : Vals vs us) (h : sp vs H Q E0) : wpAny (model X.prog X.w) X.A (call (.ref f) us) (EP X pins σ Q) X.xe s := by
 have n1 : us.length = ps.length := rv.length.symm.trans (F.len _ _ _ _ h)
 have b1 := hb s us I.kIn (by rw [List.append_nil]; exact n1)
 rw [List.append_nil] at b1
 refine wpAny_call ?_
 refine codeAny_mono (F.run X.A X.stack s H ⟨us, []⟩ us vs Q E0 hr hgd I.env0 b1 rv h) ?_
 intro res s' got
 match res, got with
 | .error _, got => exact absurd got id
 | .ok (.ret _), got => exact I.after got
 | .ok .next, got => exact absurd got id
 | .ok .brk, got => exact absurd got id
 | .ok .cont, got => exact absurd got id
theorem cE_callG {x : Str} {p pos : Pos} {e : Expr} {es : List Expr} {a : MA} (F : FnG X.prog X.w X.K X.mg X.base k f fd ps (spM X.K X.mg n m)) (hr : Room k X.A) (hgd : X.A.guards = some []) (hg : Gl X x) (hm : X.mg x = some (.ref f))
  (hk : PySem.W.keepIn X.K (.ref f) = true) (hb : Binds X.K fd ps []) (ha : CA X (e :: es) a) (hdb : (x == ("__debug__" : Str)) = false := by decide) (he : starEach (e :: es) X.env = (false, eval e X.env) :: starEach es X.env := by rfl)
  (hpl : (backTo pos (starEach es X.env)).any (·.1) = false := by rfl) : CE X (.Call (.Name x p) (e :: es) [] pos) (mCall n m a) := by
 refine ⟨?_⟩
 intro env S d S' h r σ H Q A hq
 obtain ⟨⟨ds, S1⟩, e1, h⟩ := Option.bind_eq_some_iff.mp h
 split at h
 case isFalse => cases h
 rename_i hl
 intro pins s I
 refine wpAny_Call_Name_kw (ld_glob I hg hm ?_ hdb)
 have args := ha env S ds S1 e1 r σ H (fun vs H1 => spM X.K X.mg n m vs H1 Q E0) A fun r1 H1 vs s1 l1 q1 => ⟨r1, S1, ds, d, S', hl, s1, q1, h, fun r2 H2 v s2 l2 q2 => hq r2 H2 v s2 (l1.trans l2) q2⟩
 refine PySem.W.callWith_K (h₀ := X.base) I.ok.mod.kin hk (thn (args pos pins s I) ?_) he hpl
 rintro us s1 ⟨vs, H1, I1, rv, q⟩
 exact ⟨I1.kIn, F.call hr hgd hb I1 rv q⟩
end
theorem fnG_none {P : Program} {w : World} {K : PySem.W.Frag} {mg : Str → Option Value} {base : Heap} {k n : Nat} {f : Addr} {fd : FuncData} {ps : List Str} : FnG P w K mg base k f fd ps (spM K mg n fun _ _ => none) :=
 ⟨fun _ _ _ _ ⟨_, _, _, _, _, _, _, _, z, _⟩ => (nomatch z), fun _ _ _ _ _ _ _ _ _ _ _ _ _ _ ⟨_, _, _, _, _, _, _, _, z, _⟩ => (nomatch z)⟩
theorem fnG_ok {P : Program} {w : World} {K : PySem.W.Frag} {mg : Str → Option Value} {base : Heap} {x qual : Str} {st : Stmt} {f : Addr} {fd : FuncData} {N ps : List Str} {k n : Nat} {b : MS} (F : Fun K x qual st f fd) (S : FnScope N ps (defScope st)) (hn : ps.length = n)
  (hb : ∀ (cdv : Value) (A : Around) (outer : List PySem.Env) (s : Shared) (H : Hp) (E : XK), Room k (A.deeper (envOfC qual (defScope st) s.heap.objs.size f cdv)) → A.guards = some [] → CSs (cxOf CX0 P w K mg base N qual (defScope st) f cdv A outer s H E).nox (defBody st) b) :
  FnG P w K mg base (k + 1) f fd ps (spM K mg n (mBody N.length b)) := by
 have lens : ∀ vs H Q E, spM K mg n (mBody N.length b) vs H Q E → vs.length = ps.length := by
  rintro vs H Q E ⟨r, S0, ds, d, S', hl, _, q, _⟩
  rw [← q.length, hl, hn]
 refine ⟨lens, ?_⟩
 intro A outer s H args us vs Q E hr hgd e0 hbd rv hsp
 obtain ⟨oc, od, kV, doc, pm, an, cdv, ct, osl, rfl, lk, hcd⟩ := F.ex
 have hl := lens _ _ _ _ hsp
 have KX : K.In s.heap := e0.mod.kin.keeps fun c o e => (e0.bs c o e).1
 have nolim : s.heap.NoLimit := e0.mod.nolimit.keeps fun c o e => (e0.bs c o e).1
 have kinds : ∀ y ∈ ps.zip us, (defScope st).names.lookup y.1 = some .local ∨ ((defScope st).names.lookup y.1 = some .cell ∧ ((cellsFrom (s.heap.objs.size + 1) (defScope st).names []).lookup y.1).isSome = true) := by
  rintro ⟨z, u⟩ hz
  exact (S.par z (List.of_mem_zip hz).1).imp id fun c => ⟨c, PySem.W.cellsFrom_some _ _ _ (.inl c)⟩
 refine codeAny_call_function hr.depth (KX f _ lk) rfl S.co S.gen rfl (PySem.W.codeRec_of KX hcd) (hbd _ _ _ _ ?_)
 refine wpAny_newFunctionEnv_cells S.kind kinds ?_
 rintro env rfl s1 ic
 refine ⟨nolim.keeps ic.toInCall.keep, codeAny_func ?_⟩
 have I := inv_start (CX := CX0) (E := E) (P := P) (w := w) (K := K) (mg := mg) (base := base) (cd := cdv) (qual := qual) S hr.hd e0 hl rv ic
 obtain ⟨r, S0, ds, d, S', _, s0, q, h, hq⟩ := hsp
 obtain ⟨⟨fl, env', S1⟩, e1, h⟩ := Option.bind_eq_some_iff.mp h
 have body : TMss (cxOf CX0 P w K mg base N qual (defScope st) f cdv A outer s H E).nox (defBody st) { nx := fun _ H' => Q .non H', rt := Q } (L2.start N vs) H := by
  refine hb cdv A outer s H E (hr.deeper _) hgd _ S0 fl env' S1 e1 r _ H _ ⟨s0, startE_ok N q⟩ ?_
  match fl, h with
  | .nx, h => cases h; exact fun r' σ' H' A' l' => hq r' H' .non A'.sim l' .non
  | .rt d1, h => cases h; exact fun r' H' v s' l' q' => hq r' H' v s' l' q'
  | .bk, h => cases h
  | .ct, h => cases h
 refine wpAny_mono ((pss_tm (X := cxOf CX0 P w K mg base N qual (defScope st) f cdv A outer s H E) (st := defBody st)).run [] s1 (L2.start N vs) H { nx := fun _ H' => Q .non H', rt := Q } I ?_) ?_ fun _ _ z => z
 ·exact fun pins s' I' => (PSs.nox (X := cxOf CX0 P w K mg base N qual (defScope st) f cdv A outer s H E) (pss_tm (st := defBody st))).run pins s' _ _ _ I' body
 ·intro fl s' got
  match fl, got with
  | .ret u, ⟨v, σ', H', J, rv', q'⟩ => exact ⟨v, H', J.os, J.bare, J.base, J.hok, rv', q'⟩
  | .next, ⟨σ', H', J, q'⟩ => exact ⟨V.non, H', J.os, J.bare, J.base, J.hok, (rfl : RelV V.non Value.none), q'⟩
  | .brk, ⟨_, _, _, q'⟩ => exact absurd q' id
  | .cont, ⟨_, _, _, q'⟩ => exact absurd q' id
section
variable {X : Cx}
def reprOk (p : PyData) : Bool := PyData.showable p && !PyData.hasDict p && decide (PyData.depth p ≤ 40) && decide ((PyData.shown p).length ≤ sizeLine)
def rRepr (K : PySem.W.Frag) : List V → Hp → VK → Prop := fun vs H Q => ∃ a p, vs = [.ref a] ∧ Dp K H (.ref a) p ∧ reprOk p = true ∧ Q (.str (PyData.shown p)) H
theorem callR_repr (hgd : X.A.guards = some []) (hu : X.A.units + 64 < cLine) : CallR X (.builtin "repr") (rRepr X.K) := by
 intro pins s σ H vs us Q I rv h
 obtain ⟨a, p, rfl, hd, ok, q⟩ := h
 cases rv with
 | cons r1 r2 =>
  cases r2
  obtain ⟨as, rd⟩ := Dp.reads I p _ _ hd r1
  cases r1
  unfold reprOk at ok
  simp only [Bool.and_eq_true, Bool.not_eq_true', decide_eq_true_eq] at ok
  obtain ⟨⟨⟨o1, o2⟩, o3⟩, o4⟩ := ok
  refine repr_of_reads' rd o1 (PyData.noDict_hsm o2) hgd (by omega) (fun _ _ e => e) (fun h' u tk kp => ?_) o4
  exact ⟨.str _, H, I.kept (t' := tk) kp, ⟨_, rfl⟩, q⟩
end
theorem repInts {K : PySem.W.Frag} {mg : Str → Option Value} {r : List Addr} {H : Hp} : ∀ ns : List Int, RepL K mg r H (ns.map D.int) (ns.map V.int)
 | [] => .nil
 | c :: cs => .cons (.int c) (repInts cs)
end PL
end
section
namespace PL
open PySem PySem.Spec PyProof.Rows L2
variable [Tbl]
def nS : Expr → Bool
 | .Starred _ _ => false
 | _ => true
def nSs : List Expr → Bool
 | [] => true
 | e :: es => nS e && nSs es
def nC : Expr → Bool
 | .ListComp _ _ _ _ => false
 | .SetComp _ _ _ _ => false
 | .DictComp _ _ _ _ _ => false
 | _ => true
def nSl : Expr → Bool
 | .Slice _ _ _ _ => false
 | _ => true
def nT : Expr → Bool
 | .UnaryOp .Not _ _ => false
 | .BoolOp _ _ _ => false
 | .IfExp _ _ _ _ => false
 | .Compare _ _ _ _ => false
 | _ => true
def nSet : Expr → Bool
 | .Set _ _ _ => false
 | _ => true
def nCall : Expr → Bool
 | .Call _ _ _ _ => false
 | _ => true
def nTup : Expr → Bool
 | .Tuple _ _ _ => false
 | .List _ _ => false
 | _ => true
theorem star_cons {e : Expr} {es : List Expr} {env : PySem.Env} (h : nS e = true) : starEach (e :: es) env = (false, eval e env) :: starEach es env := by
 cases e <;> first | (cases h; done) | simp only [starEach]
theorem star_plain {pos : Pos} {env : PySem.Env} : ∀ {es : List Expr}, nSs es = true → (backTo pos (starEach es env)).any (·.1) = false
 | [], _ => by simp [starEach, backTo]
 | e :: es, h => by
  have h' : (nS e && nSs es) = true := h
  rw [Bool.and_eq_true] at h'
  rw [star_cons h'.1]
  have ih := star_plain (pos := pos) (env := env) h'.2
  show (false || (backTo pos (starEach es env)).any (·.1)) = false
  rw [Bool.false_or]
  exact ih
theorem star_all {pos : Pos} {env : PySem.Env} : ∀ {es : List Expr}, nSs es = true → (backTo pos (starEach es env)).all (fun x => !x.1) = true
 | [], _ => by simp [starEach, backTo]
 | e :: es, h => by
  have h' : (nS e && nSs es) = true := h
  rw [Bool.and_eq_true] at h'
  rw [star_cons h'.1]
  have ih := star_all (pos := pos) (env := env) h'.2
  show (true && (backTo pos (starEach es env)).all (fun x => !x.1)) = true
  rw [Bool.true_and]
  exact ih
theorem nSs_cons {e : Expr} {es : List Expr} (h : nSs (e :: es) = true) : nS e = true ∧ nSs es = true := by
 have h' : (nS e && nSs es) = true := h
 rwa [Bool.and_eq_true] at h'
theorem sw_no {e : Expr} {t : Option Expr} {l : Nat} {env : PySem.Env} (h : nC e = true) : swapsWith e t l env = pure false := by
 cases e <;> first | (cases h; done) | rfl
theorem base_no {o : Expr} {n : Str} {env : PySem.Env} (h : nCall o = true) : attributeBase o n env (eval o env) = eval o env := by
 cases o <;> first | (cases h; done) | rfl
theorem plain_ix {b : Expr} (h : nSl b = true) : PlainIx b := by
 intro o i
 cases b <;> first | (cases h; done) | rfl
theorem truth_of {a : Expr} {env : PySem.Env} (h : nT a = true) : ∀ whole, PySem.isTrue a env whole = (do let v ← whole; standAt a.pos; holding [v] (truthy v)) := by
 intro whole
 cases a <;> first | (cases h; done) | (simp only [PySem.isTrue]; done) | skip
 rename_i op x p
 cases op <;> first | (cases h; done) | simp only [PySem.isTrue]
theorem fold_no {e : Expr} {env : PySem.Env} (h : nSet e = true) : ∀ x, foldedSetIterable e env x = pure x := by
 intro x
 cases e <;> first | (cases h; done) | rfl
theorem mark_no {op : CmpOp} {b : Expr} (h : nSet b = true) : behindInMarks op b = false := by
 cases b <;> first | (cases h; done) | rfl
theorem sws_no {t e : Expr} {l : Nat} {env : PySem.Env} (h : nC e = true) : swapsWithSole [t] e l env = pure false := sw_no h
theorem swst_no {t e : Expr} {env : PySem.Env} (h : nTup t = true) : swappedStores [t] e env = pure none := by
 cases t <;> first | (cases h; done) | rfl
theorem swse_no {t e : Expr} {env : PySem.Env} (h : nTup e = true) : swappedStores [t] e env = pure none := by
 cases t <;> first | rfl | (cases e <;> first | (cases h; done) | rfl)
theorem asg_one {t : Expr} {env : PySem.Env} (h : nS t = true) : (assignEach [t] env).map (·.2) = [assign t env] := by
 cases t <;> first | (cases h; done) | simp only [assignEach, List.map]
theorem asg_cons {t : Expr} {ts : List Expr} {env : PySem.Env} (h : nS t = true) : (assignEach (t :: ts) env).map (·.2) = assign t env :: (assignEach ts env).map (·.2) := by
 cases t <;> first | (cases h; done) | simp only [assignEach, List.map]
theorem asg_len {env : PySem.Env} : ∀ {ts : List Expr}, (assignEach ts env).length = ts.length
 | [] => by simp only [assignEach, List.length_nil]
 | t :: ts => by
  have ih := asg_len (env := env) (ts := ts)
  cases t <;> simp only [assignEach, List.length_cons, ih]
theorem asg_star {env : PySem.Env} : ∀ {ts : List Expr}, nSs ts = true → (assignEach ts env).findIdx? (·.1) = none
 | [], _ => by simp only [assignEach, List.findIdx?_nil]
 | t :: ts, h => by
  obtain ⟨h1, h2⟩ := nSs_cons h
  have ih := asg_star (env := env) h2
  cases t <;> first | (cases h1; done) | (simp only [assignEach, List.findIdx?_cons, ih]; rfl)
theorem asg_sub {o i : Expr} {pos : Pos} {env : PySem.Env} (h : nSl i = true) : ∀ v, assign (.Subscript o i pos) env v = (do
   let ov ← holding [v] (eval o env)
   let iv ← holding [v, ov] (eval i env)
   standAt pos
   holding [v, ov, iv] (setItem ov iv v)
   release [v, ov, iv] []) := by
 intro v
 cases i <;> first | (cases h; done) | simp only [assign]
section
variable {X : Cx}
theorem kA {e : Expr} {es : List Expr} {a : ME} {b : MA} (ha : CE X e a) (hb : CA X es b) (h : nS e = true := by rfl) : CA X (e :: es) (mCons a b) := cA_cons ha hb (star_cons h)
theorem kCall {k n : Nat} {f : Addr} {fd : FuncData} {ps : List Str} {m : MF} {x : Str} {p pos : Pos} {e : Expr} {es : List Expr} {a : MA} (F : FnG X.prog X.w X.K X.mg X.base k f fd ps (spM X.K X.mg n m)) (hr : Room k X.A) (hgd : X.A.guards = some [])
  (hk : PySem.W.keepIn X.K (.ref f) = true) (hb : Binds X.K fd ps []) (hm : X.mg x = some (.ref f)) (ha : CA X (e :: es) a) (hg : Gl X x := by rfl) (hdb : (x == ("__debug__" : Str)) = false := by decide) (h : nSs (e :: es) = true := by rfl) : CE X (.Call (.Name x p) (e :: es) [] pos) (mCall n m a) :=
 cE_callG F hr hgd hg hm hk hb ha hdb (star_cons (nSs_cons h).1) (star_plain (nSs_cons h).2)
section
variable {x : Str} {p pos : Pos} {e : Expr} {es : List Expr} {a : MA} {rr : List V → Hp → VK → Prop} {g : List D → Sto → R} {id T : String}
theorem kB (hc : CallR X (.builtin id) rr) (hs : CallS X rr g) (hm : X.mg x = none) (hv : bootBuiltins x = some (.builtin id)) (ha : CA X (e :: es) a) (hg : Gl X x := by rfl) (hn : x ≠ "__name__" := by decide) (hdb : (x == ("__debug__" : Str)) = false := by decide)
  (h : nSs (e :: es) = true := by rfl) : CE X (.Call (.Name x p) (e :: es) [] pos) (mBlt g a) := cE_callB hc hs hg hm hv ha hn hdb (star_cons (nSs_cons h).1) (star_plain (nSs_cons h).2)
theorem kTy (hc : CallR X (.type T) rr) (hs : CallS X rr g) (hm : X.mg x = none) (hv : bootBuiltins x = some (.type T)) (ha : CA X (e :: es) a) (hg : Gl X x := by rfl) (hn : x ≠ "__name__" := by decide) (hdb : (x == ("__debug__" : Str)) = false := by decide)
  (h : nSs (e :: es) = true := by rfl) : CE X (.Call (.Name x p) (e :: es) [] pos) (mBlt g a) := cE_callTy hc hs hg hm hv ha hn hdb (star_cons (nSs_cons h).1) (star_plain (nSs_cons h).2)
end
section
variable {T id : String} {name : Str} {apos cpos : Pos} {o e : Expr} {es : List Expr} {a : MA} {mo : ME} {rr : V → List V → Hp → VK → Prop} {g : D → List D → Sto → R}
theorem kMt0 (pa : PlainAttrs T) (slot : Slot T name id) (hty : typeOf (.builtin id) = pure (.type "method_descriptor")) (hm : MtR X id rr) (hs : MtS X T rr g) (ho : CE X o mo) (h : nCall o = true := by rfl) (hline : (apos.endLine == cpos.line) = true := by rfl) :
  CE X (.Call (.Attribute o name apos) [] [] cpos) (mMt T g mo mNil) := cE_mt0 pa slot hty hm hs ho (base_no h) hline
theorem kMt (pa : PlainAttrs T) (slot : Slot T name id) (hty : typeOf (.builtin id) = pure (.type "method_descriptor")) (hm : MtR X id rr) (hs : MtS X T rr g) (ho : CE X o mo) (ha : CA X (e :: es) a) (h : nCall o = true := by rfl) (hS : nSs (e :: es) = true := by rfl)
  (hline : (apos.endLine == cpos.line) = true := by rfl) (hlen : decide ((e :: es).length < 30) = true := by rfl) : CE X (.Call (.Attribute o name apos) (e :: es) [] cpos) (mMt T g mo a) := by
 refine cE_mt pa slot hty hm hs ho ha (base_no h) ?_ hline (star_cons (nSs_cons hS).1) (star_plain (nSs_cons hS).2)
 rw [star_all hS]
 have hl : (e :: es).length < 30 := of_decide_eq_true hlen
 simp only [keywordEach, backToKw, List.map_nil, List.all_nil, Bool.true_and, decide_eq_true_eq, List.isEmpty_nil, if_true, List.length_nil, Nat.add_zero]
 exact hl
end
theorem kIx {a b : Expr} {ma mb : ME} {pos : Pos} (hu : X.A.units + 1 < cLine) (ha : CE X a ma) (hb : CE X b mb) (h : nSl b = true := by rfl) : CE X (.Subscript a b pos) (mBin ixA ma mb) := cE_ixA hu ha hb (plain_ix h)
theorem kTru {a : Expr} {m : ME} (ha : CE X a m) (h : nT a = true := by rfl) : CT X a (mTru m) := cT_tru ha (truth_of h)
theorem kIn {a b : Expr} {ma mb : ME} {pos : Pos} (hu : X.A.units + 1 < cLine) (ha : CE X a ma) (hb : CE X b mb) (h : nSet b = true := by rfl) : CE X (.Compare a [.In] [b] pos) (mBin (inA id) ma mb) := cE_in hu ha hb (mark_no h)
theorem kInT {a b : Expr} {ma mb : ME} {pos : Pos} (hu : X.A.units + 1 < cLine) (ha : CE X a ma) (hb : CE X b mb) (h : nSet b = true := by rfl) : CT X (.Compare a [.In] [b] pos) (asB (mBin (inA id) ma mb)) := cT_in hu ha hb (mark_no h)
theorem kNotInT {a b : Expr} {ma mb : ME} {pos : Pos} (hu : X.A.units + 1 < cLine) (ha : CE X a ma) (hb : CE X b mb) (h : nSet b = true := by rfl) : CT X (.Compare a [.NotIn] [b] pos) (asB (mBin (inA not) ma mb)) := cT_notIn hu ha hb (mark_no h)
theorem kCmp {a b : Expr} {op : CmpOp} {pos : Pos} {ma mb : ME} {rr : R2} {g : D → D → Sto → R} (ho : OpR X (compareOp op) rr) (hg : OpS X rr g) (ha : CE X a ma) (hb : CE X b mb) (h : nSet b = true := by rfl) : CE X (.Compare a [op] [b] pos) (mBin g ma mb) := cE_cmp ho hg ha hb (mark_no h)
theorem kCmpT {a b : Expr} {op : CmpOp} {pos : Pos} {ma mb : ME} {rr : R2} {g : D → D → Sto → R} (ho : OpR X (compareOp op) rr) (hg : OpS X rr g) (ha : CE X a ma) (hb : CE X b mb) (h : nSet b = true := by rfl) : CT X (.Compare a [op] [b] pos) (asB (mBin g ma mb)) := cT_cmp ho hg ha hb (mark_no h)
theorem kChainT {a b c : Expr} {op op' : CmpOp} {ma mb mc : ME} {rr rr' : R2} {g h : D → D → Sto → R} {pos : Pos} (ho : OpR X (compareOp op) rr) (hg : OpS X rr g) (ho' : OpR X (compareOp op') rr') (hh : OpS X rr' h) (ha : CE X a ma) (hb : CE X b mb) (hc : CE X c mc)
  (hs : nSet c = true := by rfl) : CT X (.Compare a [op, op'] [b, c] pos) (asB (mChain g h ma mb mc)) := cT_chain ho hg ho' hh ha hb hc (mark_no hs)
theorem kExpr {e : Expr} {m : ME} {pos : Pos} (he : CE X e m) (h : nC e = true := by rfl) : CS X (.Expr e pos) (mDrop m) := cS_expr he (sw_no h)
theorem kSet (i : Nat) {x : Str} {e : Expr} {m : ME} {pos pos' : Pos} (hN : X.N.Nodup) (he : CE X e m) (hi : X.N[i]? = some x := by rfl) (hx : L2.Loc X.env.scope x := by first | exact Or.inl rfl | exact Or.inr rfl) (h : nC e = true := by rfl) (hf : X.fn x = true ∨ X.env.scope.names.lookup x = some .local := by first | exact .inl rfl | exact .inr rfl | assumption) :
  CS X (.Assign [.Name x pos'] e pos) (mAsg m (gN i)) := cS_set hN hi hx he (sw_no h) hf
theorem kAsg {tg e : Expr} {m : ME} {g : MG} {L : List Nat} {pos : Pos} (he : CE X e m) (hg : CG X tg L g) (h : nC e = true := by rfl) (ht : nTup e = true := by rfl) (hS : nS tg = true := by rfl) : CS X (.Assign [tg] e pos) (mAsg m g) := cS_asg he hg (sws_no h) (swse_no ht) (asg_one hS)
theorem kAsgT {tg e : Expr} {m : ME} {g : MG} {L : List Nat} {pos : Pos} (he : CE X e m) (hg : CG X tg L g) (h : nC e = true := by rfl) (ht : nTup tg = true := by rfl) (hS : nS tg = true := by rfl) : CS X (.Assign [tg] e pos) (mAsg m g) := cS_asg he hg (sws_no h) (swst_no ht) (asg_one hS)
theorem kAsgC {tg e : Expr} {m : ME} {g : MG} {L : List Nat} {pos : Pos} (he : CE X e m) (hg : CG X tg L g) (hw : swappedStores [tg] e X.env = pure none) (h : nC e = true := by rfl) (hS : nS tg = true := by rfl) : CS X (.Assign [tg] e pos) (mAsg m g) := cS_asg he hg (sws_no h) hw (asg_one hS)
theorem kGc {e : Expr} {es : List Expr} {L M : List Nat} {a : MG} {b : List D → Env → Sto → Option (Env × Sto)} (ha : CG X e L a) (hb : CGs X es M b) (h : nS e = true := by rfl) : CGs X (e :: es) (L ++ M) (gsC a b) := cGs_cons ha hb (asg_cons h)
theorem kGt {es : List Expr} {k n : Nat} {L : List Nat} {pos : Pos} {b : List D → Env → Sto → Option (Env × Sto)} (hc : X.calm = true) (hb : CGs X es L b) (hn : es.length = n := by rfl) (h : nSs es = true := by rfl) : CG X (.Tuple es k pos) L (gT n b) := cG_tup hc hb (asg_len.trans hn) (asg_star h)
theorem kGs {o i : Expr} {mo mi : ME} {pos : Pos} (hu : X.A.units + 1 < cLine) (ho : CE X o mo) (hi : CE X i mi) (h : nSl i = true := by rfl) : CG X (.Subscript o i pos) [] (gSubM mo mi setSeq) := cG_sub (PSet.or set_list (set_dict hu)) setS_A ho hi (asg_sub h)
theorem kFor {tg iter : Expr} {body : List Stmt} {it : MI} {g : MG} {b : MS} {L : List Nat} {pos : Pos} (hp : PassesOwn (model X.prog X.w) X.A X.env X.xe) (hc : X.calm = true) (hi : CI X tg iter it) (hg : CG X tg L g) (hb : CSs X body b) (h : nSet iter = true := by rfl) : CS X (.For tg iter body [] pos) (mFor it g b) :=
 cS_for hp hc hi hg hb (fold_no h)
theorem kR1 {tg a : Expr} {m : MA} {p pos : Pos} (hm : X.mg "range" = none) (ha : CA X [a] m) (hg : Gl X "range" := by rfl) (h : nS a = true := by rfl) : CI X tg (.Call (.Name "range" p) [a] [] pos) (mR1 m) := cI_r1 hg hm ha (by rw [star_cons h]; simp only [starEach])
theorem kR2 {tg a b : Expr} {m : MA} {p pos : Pos} (hm : X.mg "range" = none) (ha : CA X [a, b] m) (hg : Gl X "range" := by rfl) (h : nSs [a, b] = true := by rfl) : CI X tg (.Call (.Name "range" p) [a, b] [] pos) (mR2 m) :=
 cI_r2 hg hm ha (by rw [star_cons (nSs_cons h).1, star_cons (nSs_cons (nSs_cons h).2).1]; simp only [starEach]) (by rw [star_cons (nSs_cons (nSs_cons h).2).1]; simp only [starEach])
theorem kLc {elt tg iter : Expr} {ifs : List Expr} {scope : Scope} {own : List (Str × Nat)} {pos : Pos} {it : MI} {g : MG} {t : MT} {me : ME} {L : List Nat} (hc : X.calm = true) (hN : X.N.Nodup) (hi : CI X tg iter it) (ok : blkC X.N X.env.scope scope own = true)
  (hL : ∀ i ∈ L, i ∈ own.map (·.2)) (hg : ∀ s H C cl fp, CG (bX X scope s H C cl fp) tg L g) (ht : ∀ s H C cl fp, CTs (bX X scope s H C cl fp) ifs t) (he : ∀ s H C cl fp, PL.CE (bX X scope s H C cl fp) elt me)
  (h : nSet iter = true := by rfl) : PL.CE X (.ListComp elt [⟨tg, iter, ifs, 0⟩] scope pos) (mLc it g t me (own.map (·.2))) := cE_lc hc hN hi (blkOk_by ok) hL hg ht he (fold_no h)
theorem kSetLc {i : Nat} {y : Str} {py : Pos} {elt tg iter : Expr} {ifs : List Expr} {scope : Scope} {own : List (Str × Nat)} {pos spos : Pos} {it : MI} {g : MG} {t : MT} {me : ME} {L : List Nat} (hc : X.calm = true) (hN : X.N.Nodup) (hy : X.N[i]? = some y) (hyl : X.env.scope.names.lookup y = some .local)
  (hl : (py.line == pos.line) = true) (hown : (scope.names.any fun (n, k) => n == y && (k == .local || k == .cell)) = false) (hk : X.env.scope.kind = .function) (hi : CI X tg iter it) (ok : blkC X.N X.env.scope scope own = true)
  (hL : ∀ i ∈ L, i ∈ own.map (·.2)) (hg : ∀ s H C cl fp, CG (bX X scope s H C cl fp) tg L g) (ht : ∀ s H C cl fp, CTs (bX X scope s H C cl fp) ifs t) (he : ∀ s H C cl fp, PL.CE (bX X scope s H C cl fp) elt me)
  (h : nSet iter = true := by rfl) : CS X (.Assign [.Name y py] (.ListComp elt [⟨tg, iter, ifs, 0⟩] scope pos) spos) (mAsg (mLc it g t me (own.map (·.2))) (gN i)) :=
 cS_setLc hc hN hy hyl (sw_true hk hyl hl hown) hi (blkOk_by ok) hL hg ht he (fold_no h)
end
end PL
end
section
namespace PL
open PySem PySem.Spec PyProof.Rows L2
variable [Tbl]
section
variable {X : Cx}
end
end PL
end
section
namespace PL
open PySem PySem.Spec PyProof.Rows L2
variable [Tbl]
section
variable {X : Cx}
abbrev Tri := D × V × PyData
def tri : List D → List V → List PyData → List Tri
 | d :: ds, v :: vs, p :: ps => (d, v, p) :: tri ds vs ps
 | _, _, _ => []
def blsOf : List D → Option (List Bool)
 | [] => some []
 | .bl b :: ds => (blsOf ds).map (b :: ·)
 | _ => none
theorem blsOf_ok {K : PySem.W.Frag} {mg : Str → Option Value} {r : List Addr} {H : Hp} : ∀ {ds : List D} {vs : List V} {bs : List Bool}, RepL K mg r H ds vs → blsOf ds = some bs → vs = bs.map V.bl
 | [], _, _, q, h => by cases q; cases h; rfl
 | d :: ds, _, _, q, h => by
  cases q with
  | cons q1 q2 =>
   cases d with
   | bl b =>
    obtain ⟨a, e1, e2⟩ := Option.map_eq_some_iff.mp (show (blsOf ds).map (b :: ·) = _ from h)
    subst e2
    cases q1
    rw [blsOf_ok q2 e1]; rfl
   | _ => cases h
def gAll : List D → Sto → R
 | [.ref n], S => (seqAt n S).bind fun xs => (blsOf xs).bind fun bs => some (.bl (bs.all id), S)
 | _, _ => none
theorem callS_all : CallS X (rAll X.K) gAll := by
 intro xs S d S' e r H vs Q s q hq
 unfold gAll at e
 split at e
 case h_2 => cases e
 obtain ⟨ys, e1, e⟩ := Option.bind_eq_some_iff.mp e
 obtain ⟨bs, e2, e⟩ := Option.bind_eq_some_iff.mp e
 cases e
 obtain ⟨v, rfl, z⟩ := RepL.inv1 q
 cases z with
 | ref hz =>
  obtain ⟨ws, hs, l⟩ := seqAt_ok (X := X) s hz e1
  have := blsOf_ok l e2
  subst this
  exact ⟨_, bs, rfl, hs, hq r H _ s .refl (.bl _)⟩
def tyD (S : Sto) : D → Option String
 | .non => some "NoneType"
 | .bl _ => some "bool"
 | .int _ => some "int"
 | .str _ => some "str"
 | .tup _ => some "tuple"
 | .ktup _ => some "tuple"
 | .ptup _ => some "tuple"
 | .ref n => match S[n]? with
  | some (.lst _) => some "list"
  | some (.cst _) => some "list"
  | some (.dK _) => some "dict"
  | some (.dT _) => some "dict"
  | _ => none
 | _ => none
theorem tyD_ok {r : List Addr} {S : Sto} {H : Hp} {d : D} {v : V} {t : String} (s : Sim X.K X.mg r S H) (q : RepV X.K X.mg r H d v) (h : tyD S d = some t) : TyX X.K H v (.type t) := by
 cases q with
 | non => cases h; exact .base .non
 | bl b => cases h; exact .base (.bl b)
 | int b => cases h; exact .base (.int b)
 | str b => cases h; exact .base (.str b)
 | ty b => cases h
 | fn b => cases h
 | exc _ _ => cases h
 | ptup a b =>
  cases h
  obtain ⟨o, e, _⟩ := a
  exact .fTuple e
 | tup a b => cases h; exact .base (.tup a)
 | ktup a b =>
  cases h
  obtain ⟨o, its, n, a1, a2, _⟩ := a
  exact .kTuple a1 a2
 | ref ea =>
  simp only [tyD] at h
  split at h
  ·rename_i ys e
   cases h
   obtain ⟨vs, e1, q⟩ := s.ob _ _ _ e ea
   exact .base (.lst e1)
  ·rename_i ys e
   cases h
   obtain ⟨vs, e1, q⟩ := s.ob _ _ _ e ea
   rcases e1 with ⟨o, e1⟩ | ⟨o, its, n, a1, a2, _⟩
   ·exact .base (.frz e1)
   ·exact .kList a1 a2
  ·rename_i ys e
   cases h
   obtain ⟨vs, e1, q⟩ := s.ob _ _ _ e ea
   exact .base (.dK e1)
  ·rename_i ys e
   cases h
   obtain ⟨vs, e1, q⟩ := s.ob _ _ _ e ea
   exact .base (.dT e1)
  ·cases h
def gIsi : List D → Sto → R
 | [d, .ty u], S => (tyD S d).bind fun t => (kitB t u).bind fun b => some (.bl b, S)
 | _, _ => none
theorem callS_isi : CallS X (rIsi X.K) gIsi := by
 intro xs S d S' e r H vs Q s q hq
 unfold gIsi at e
 split at e
 case h_2 => cases e
 obtain ⟨t, e1, e⟩ := Option.bind_eq_some_iff.mp e
 obtain ⟨b, e2, e⟩ := Option.bind_eq_some_iff.mp e
 cases e
 obtain ⟨v, w, rfl, z, z2⟩ := RepL.inv2 q
 cases z2
 exact ⟨_, _, _, _, b, rfl, .ty _, tyD_ok s z e1, kit_ty e2, hq r H _ s .refl (.bl _)⟩
end
end PL
end
section
namespace PL
open PySem PySem.Spec PyProof.Rows L2
variable [Tbl]
section
variable {K : PySem.W.Frag} {mg : Str → Option Value}
structure TupKeep (H H' : Hp) : Prop where
 tup : ∀ a xs, H a = some (.tup xs) → H' a = some (.tup xs)
 ptu : ∀ a o xs, H a = some (.frz o (.tup xs)) → H' a = some (.frz o (.tup xs))
 xd : ∀ a xs, H a = some (.xd xs) → H' a = some (.xd xs)
mutual
theorem RepV.mono {r r' : List Addr} {H H' : Hp} (hp : ∀ (n : Nat) (a : Addr), r[n]? = some a → r'[n]? = some a) (ht : TupKeep H H') : ∀ {d : D} {v : V}, RepV K mg r H d v → RepV K mg r' H' d v
 | _, _, .non => .non
 | _, _, .bl b => .bl b
 | _, _, .int i => .int i
 | _, _, .str x => .str x
 | _, _, .ty n => .ty n
 | _, _, .tup h q => .tup (ht.tup _ _ h) (RepL.mono hp ht q)
 | _, _, .ktup h q => .ktup h (RepL.mono hp ht q)
 | _, _, .ptup h q => .ptup (let ⟨o, e, z⟩ := h; ⟨o, ht.ptu _ _ _ e, z⟩) (RepL.mono hp ht q)
 | _, _, .ref h => .ref (hp _ _ h)
 | _, _, .fn h => .fn h
 | _, _, .exc h q => .exc (ht.xd _ _ h) (RepL.mono hp ht q)
theorem RepL.mono {r r' : List Addr} {H H' : Hp} (hp : ∀ (n : Nat) (a : Addr), r[n]? = some a → r'[n]? = some a) (ht : TupKeep H H') : ∀ {ds : List D} {vs : List V}, RepL K mg r H ds vs → RepL K mg r' H' ds vs
 | _, _, .nil => .nil
 | _, _, .cons h q => .cons (RepV.mono hp ht h) (RepL.mono hp ht q)
end
theorem RepKs.mono {k : Type} {r : List Addr} {H H' : Hp} (ht : TupKeep H H') {ks : List (k × D)} {ws : List (k × V)} (h : RepKs K mg r H ks ws) : RepKs K mg r H' ks ws :=
 Paired.mapP h fun _ _ q => ⟨q.1, q.2.mono (fun _ _ e => e) ht⟩
end
section
variable {X : Cx}
theorem RepKs.get {k : Type} {r : List Addr} {H : Hp} : ∀ {ks : List (k × D)} {ws : List (k × V)} {i : Nat} {p : k × D}, RepKs X.K X.mg r H ks ws → ks[i]? = some p → ∃ w, ws[i]? = some (p.1, w) ∧ RepV X.K X.mg r H p.2 w
 | _, _, _, _, .nil, e => by simp at e
 | _, _, 0, _, .cons (b := b) h _, e => by
  simp at e; subst e
  obtain ⟨z1, z2⟩ := h
  obtain ⟨b1, b2⟩ := b
  simp only at z1 z2
  subst z1
  exact ⟨_, rfl, z2⟩
 | _, _, i + 1, p, .cons _ q, e => by
  obtain ⟨w, h1, h2⟩ := RepKs.get (i := i) (p := p) q (by simpa using e)
  exact ⟨w, by simpa using h1, h2⟩
end
end PL
end
section
namespace PL
open PySem PySem.Spec PyProof.Rows L2
variable [Tbl]
section
variable {X : Cx}
theorem cE_bty {x : Str} {T : String} {pos : Pos} (hm : X.mg x = none) (hv : bootBuiltins x = some (.type T)) (hg : Gl X x := by rfl) (hn : x ≠ "__name__" := by decide) (hd : (x == ("__debug__" : Str)) = false := by decide) : CE X (.Name x pos) (mC (.ty T)) :=
 cE_const (pe_bltn hg hm hv (v := .ty T) rfl hn hd) fun _ _ => .ty T
end
end PL
end
section
namespace PL
open PySem PySem.Spec PyProof.Rows L2
variable [Tbl]
section
variable {P : Program} {w : World} {Kt : Type} [DecidableEq Kt] {knd : PySem.KeyKind P w Kt} {kf : Value → Kt}
def keysE (kf : Value → Kt) (es : Array (Int × Value)) : List Kt := es.toList.map fun e => kf e.2
def SetX (knd : PySem.KeyKind P w Kt) (kf : Value → Kt) (h : Heap) (a : Addr) (L : List Kt) (c : Nat) : Prop := ∃ o es ep t, h.get? a = some o ∧ o.ExactSet ∧ o.data = Data.set es ep t ∧
 ElemsOf knd es.toList ∧ (keysE kf es).Nodup ∧ (∀ k, k ∈ L ↔ k ∈ keysE kf es) ∧ es.size ≤ c ∧ t.fits es.size = true ∧ Ris t.place.toList ∧ (w.params.followText "set-order" = true ∨ t.led = true)
theorem SetX.at {h h' : Heap} {a : Addr} {L : List Kt} {c : Nat} (R : SetX knd kf h a L c) (hh : ∀ o, h.get? a = some o → h'.get? a = some o) : SetX knd kf h' a L c := by
 obtain ⟨o, es, ep, t, ho, r⟩ := R
 exact ⟨o, es, ep, t, hh o ho, r⟩
end
end PL
end
section
namespace PL
open PySem PySem.Spec PyProof.Rows L2
variable [Tbl]
section
variable {P : Program} {w : World} {Kt : Type} [DecidableEq Kt] {knd : PySem.KeyKind P w Kt} {kf : Value → Kt}
end
end PL
end
section
namespace PL
open PySem PySem.Spec PyProof.Rows L2
variable [Tbl]
section
variable {P : Program} {w : World}
end
end PL
end
section
namespace PL
open PySem PySem.Spec PyProof.Rows L2
variable [Tbl]
section
variable {X : Cx}
def strsD : List D → Option (List Str)
 | [] => some []
 | .str x :: ds => (strsD ds).map (x :: ·)
 | _ => none
end
end PL
end
section
namespace PL
open PySem PySem.Spec PyProof.Rows L2
variable [Tbl]
section
variable {X : Cx}
end
end PL
end
section
namespace PL
open PySem PySem.Spec PyProof.Rows L2
variable [Tbl]
section
variable {X : Cx}
def mOr (a b : ME) : ME := fun env S => (a env S).orElse fun _ => b env S
theorem CE.or {e : Expr} {a b : ME} (ha : CE X e a) (hb : CE X e b) : CE X e (mOr a b) := by
 refine ⟨?_⟩
 intro env S d S' h r σ H Q A hq
 unfold mOr at h
 cases eg : a env S with
 | some z =>
  rw [eg] at h
  cases h
  exact ha env S d S' eg r σ H Q A hq
 | none =>
  rw [eg] at h
  exact hb env S d S' h r σ H Q A hq
def mCallV (i : Nat) (fs : Str → Option (Nat × Nat)) (C : Nat → MF) (a : MA) : ME := fun env S => match env[i]? with
 | some (some (.fn x)) => match fs x with
  | some (j, n) => (a env S).bind fun p => if p.1.length = n then C j p.1 p.2 else none
  | none => none
 | _ => none
theorem cE_callV {k i : Nat} {fs : Str → Option (Nat × Nat)} {C : Nat → MF} {x : Str} {p pos : Pos} {e : Expr} {es : List Expr} {a : MA}
  (hT : ∀ y j n, fs y = some (j, n) → ∃ (f : Addr) (fd : FuncData) (ps : List Str), X.mg y = some (.ref f) ∧ FnG X.prog X.w X.K X.mg X.base k f fd ps (spM X.K X.mg n (C j)) ∧ PySem.W.keepIn X.K (.ref f) = true ∧ Binds X.K fd ps [])
  (hr : Room k X.A) (hgd : X.A.guards = some []) (hN : X.N[i]? = some x) (hv : Vis X.env.scope x) (ha : CA X (e :: es) a)
  (hdb : (x == ("__debug__" : Str)) = false := by decide) (hcd : (x == ("__classdict__" : Str)) = false := by decide)
  (he : starEach (e :: es) X.env = (false, eval e X.env) :: starEach es X.env := by rfl) (hpl : (backTo pos (starEach es X.env)).any (·.1) = false := by rfl) : CE X (.Call (.Name x p) (e :: es) [] pos) (mCallV i fs C a) := by
 refine ⟨?_⟩
 intro env S d S' h r σ H Q A hq
 unfold mCallV at h
 split at h
 case h_2 => cases h
 rename_i y ey
 split at h
 case h_2 => cases h
 rename_i j n ej
 obtain ⟨f, fd, ps, hm, F, hk, hb⟩ := hT y j n ej
 obtain ⟨⟨ds, S1⟩, e1, h⟩ := Option.bind_eq_some_iff.mp h
 split at h
 case isFalse => cases h
 rename_i hl
 obtain ⟨v, hs, qv⟩ := A.env.at_ i _ ey
 have hvf : v = .ref f := by
  cases qv with
  | fn z =>
   rw [hm] at z
   cases z
   rfl
 subst hvf
 intro pins s I
 refine wpAny_Call_Name_kw (thn ((pe_var (pos := p) hN hv hdb hcd).run pins s σ H (fun v H1 => v = .ref f ∧ H1 = H) I ⟨.ref f, hs, rfl, rfl⟩) fun u s1 ⟨v, H1, I1, r1, q1⟩ => ?_)
 obtain ⟨rfl, rfl⟩ := q1
 cases r1
 have args := ha env S ds S1 e1 r σ _ (fun vs H1 => spM X.K X.mg n (C j) vs H1 Q E0) A fun r1 H1 vs s1 l1 q1 => ⟨r1, S1, ds, d, S', hl, s1, q1, h, fun r2 H2 v s2 l2 q2 => hq r2 H2 v s2 (l1.trans l2) q2⟩
 refine PySem.W.callWith_K (h₀ := X.base) I1.ok.mod.kin hk (thn (args pos pins s1 I1) ?_) he hpl
 rintro us s2 ⟨vs, H1, I2, rv, q⟩
 exact ⟨I2.kIn, F.call hr hgd hb I2 rv q⟩
end
end PL
end
section
namespace PL
open PySem PySem.Spec PyProof.Rows L2
variable [Tbl]
section
variable {X : Cx}
def gOr (g g' : List D → Sto → R) : List D → Sto → R := fun xs S => (g xs S).orElse fun _ => g' xs S
theorem CallS.or {r r' : List V → Hp → VK → Prop} {g g' : List D → Sto → R} (h : CallS X r g) (h' : CallS X r' g') : CallS X (fun xs H Q => r xs H Q ∨ r' xs H Q) (gOr g g') := by
 intro xs S d S' e r1 H vs Q s q hq
 unfold gOr at e
 cases eg : g xs S with
 | some z =>
  rw [eg] at e
  cases e
  exact .inl (h xs S d S' eg r1 H vs Q s q hq)
 | none =>
  rw [eg] at e
  exact .inr (h' xs S d S' e r1 H vs Q s q hq)
def gReprS : List D → Sto → R
 | [.str x], S => if (reprText x).length ≤ sizeLine then some (.str (reprText x), S) else none
 | _, _ => none
def rReprS : List V → Hp → VK → Prop := fun vs H Q => ∃ x, vs = [.str x] ∧ (reprText x).length ≤ sizeLine ∧ Q (.str (reprText x)) H
theorem callR_reprS : CallR X (.builtin "repr") rReprS := by
 intro pins s σ H vs us Q I rv h
 obtain ⟨x, rfl, hz, q⟩ := h
 cases rv with
 | cons r1 r2 =>
  cases r2
  obtain ⟨t, rfl⟩ := r1
  exact P.repr_of_str (hsz := hz) ⟨.str _, H, I.tok _, ⟨_, rfl⟩, q⟩
theorem callS_reprS : CallS X rReprS gReprS := by
 intro xs S d S' e r H vs Q s q hq
 unfold gReprS at e
 split at e
 case h_2 => cases e
 split at e
 case isFalse => cases e
 rename_i ok
 cases e
 obtain ⟨v, rfl, z⟩ := RepL.inv1 q
 cases z
 exact ⟨_, rfl, ok, hq r H _ s .refl (.str _)⟩
end
end PL
end
section
namespace PL
open PySem PySem.Spec PyProof.Rows L2
variable [Tbl]
section
variable {X : Cx}
def mOrTT (a b : MT) : MT := fun env S => (a env S).orElse fun _ => b env S
theorem CT.or {e : Expr} {a b : MT} (ha : CT X e a) (hb : CT X e b) : CT X e (mOrTT a b) := by
 refine ⟨?_⟩
 intro env S d S' h r σ H Q A hq
 unfold mOrTT at h
 cases eg : a env S with
 | some z =>
  rw [eg] at h
  cases h
  exact ha env S d S' eg r σ H Q A hq
 | none =>
  rw [eg] at h
  exact hb env S d S' h r σ H Q A hq
def rInP (K : PySem.W.Frag) (neg : Bool) : R2 := fun x y H Q => ∃ d ps, Dp K H x d ∧ (Dp K H y (.list ps) ∨ Dp K H y (.tuple ps)) ∧ PyData.canLayAll0 ps = true ∧ d.canLay0 = true ∧ d.depth ≤ 40 ∧ Q (.bl (if neg then !(ps.any fun y => PyData.eqv y d) else ps.any fun y => PyData.eqv y d)) H
theorem op_inP (hu : X.A.units + 64 < cLine) : OpR X (compareOp .In) (rInP X.K false) := by
 intro pins s σ H x y v u Q I rx ry h
 obtain ⟨d, ps, hd, he, c1, c2, hz, q⟩ := h
 obtain ⟨as, r1⟩ := Dp.reads I d x v hd rx
 rcases he with he | he
 ·obtain ⟨bs, r2⟩ := Dp.reads I _ y u he ry
  exact SeqAt.in_list_reads r2 r1 c1 c2 (by omega) ⟨.bl _, H, I, rfl, q⟩
 ·obtain ⟨bs, r2⟩ := Dp.reads I _ y u he ry
  exact SeqAt.in_tuple_reads r2 r1 c1 c2 (by omega) ⟨.bl _, H, I, rfl, q⟩
theorem op_notInP (hu : X.A.units + 64 < cLine) : OpR X (compareOp .NotIn) (rInP X.K true) := by
 intro pins s σ H x y v u Q I rx ry h
 obtain ⟨d, ps, hd, he, c1, c2, hz, q⟩ := h
 obtain ⟨as, r1⟩ := Dp.reads I d x v hd rx
 rcases he with he | he
 ·obtain ⟨bs, r2⟩ := Dp.reads I _ y u he ry
  exact SeqAt.notIn_list_reads r2 r1 c1 c2 (by omega) ⟨.bl _, H, I, rfl, q⟩
 ·obtain ⟨bs, r2⟩ := Dp.reads I _ y u he ry
  exact SeqAt.notIn_tuple_reads r2 r1 c1 c2 (by omega) ⟨.bl _, H, I, rfl, q⟩
def inP (neg : Bool) : D → D → Sto → R := fun x y S => (pyD x).bind fun p => (pyT S y).bind fun q => match q with
 | .list ps => if (PyData.canLayAll0 ps && p.canLay0 && decide (p.depth ≤ 40)) = true then some (.bl (if neg then !(ps.any fun y => PyData.eqv y p) else ps.any fun y => PyData.eqv y p), S) else none
 | .tuple ps => if (PyData.canLayAll0 ps && p.canLay0 && decide (p.depth ≤ 40)) = true then some (.bl (if neg then !(ps.any fun y => PyData.eqv y p) else ps.any fun y => PyData.eqv y p), S) else none
 | _ => none
theorem opS_inP {neg : Bool} : OpS X (rInP X.K neg) (inP neg) := by
 intro x y S d S' e r H u v Q s q1 q2 hq
 obtain ⟨p, e1, e⟩ := Option.bind_eq_some_iff.mp e
 obtain ⟨q, e2, e⟩ := Option.bind_eq_some_iff.mp e
 have hd := pyD_ok q1 e1
 have ht := pyT_ok s q2 e2
 split at e
 ·rename_i ps
  split at e
  case isFalse => cases e
  rename_i c
  cases e
  simp only [Bool.and_eq_true, decide_eq_true_eq] at c
  exact ⟨p, ps, hd, .inl ht, c.1.1, c.1.2, c.2, hq r H _ s .refl (.bl _)⟩
 ·rename_i ps
  split at e
  case isFalse => cases e
  rename_i c
  cases e
  simp only [Bool.and_eq_true, decide_eq_true_eq] at c
  exact ⟨p, ps, hd, .inr ht, c.1.1, c.1.2, c.2, hq r H _ s .refl (.bl _)⟩
 ·cases e
theorem kInX {a b : Expr} {ma mb : ME} {pos : Pos} (hu : X.A.units + 64 < cLine) (ha : CE X a ma) (hb : CE X b mb) (h : nSet b = true := by rfl) : CE X (.Compare a [.In] [b] pos) (mOr (mBin (inA id) ma mb) (mBin (inP false) ma mb)) :=
 CE.or (kIn (by omega) ha hb h) (kCmp (op_inP hu) opS_inP ha hb h)
theorem kInXT {a b : Expr} {ma mb : ME} {pos : Pos} (hu : X.A.units + 64 < cLine) (ha : CE X a ma) (hb : CE X b mb) (h : nSet b = true := by rfl) : CT X (.Compare a [.In] [b] pos) (mOrTT (asB (mBin (inA id) ma mb)) (asB (mBin (inP false) ma mb))) :=
 CT.or (kInT (by omega) ha hb h) (kCmpT (op_inP hu) opS_inP ha hb h)
theorem kNotInXT {a b : Expr} {ma mb : ME} {pos : Pos} (hu : X.A.units + 64 < cLine) (ha : CE X a ma) (hb : CE X b mb) (h : nSet b = true := by rfl) : CT X (.Compare a [.NotIn] [b] pos) (mOrTT (asB (mBin (inA not) ma mb)) (asB (mBin (inP true) ma mb))) :=
 CT.or (kNotInT (by omega) ha hb h) (kCmpT (op_notInP hu) opS_inP ha hb h)
end
end PL
end
section
namespace PL
open PySem PySem.Spec PyProof.Rows L2
variable [Tbl]
section
variable {P : Program} {w : World} {A : Around} {E : Value → Shared → Prop} {s : Shared}
abbrev TpK (P : Program) (w : World) (h : Heap) (k : List Key) (b : Addr) : Prop := IsTupleKey (mixKind P w) h k b
abbrev hsh (P : Program) (w : World) (k : List Key) : Int := tupleKeyHash (mixKind P w) k
end
end PL
end
section
namespace PL
open PySem PySem.Spec PyProof.Rows L2
variable [Tbl]
abbrev TRow := Addr × List Key
section
variable {P : Program} {w : World} {A : Around} {E : Value → Shared → Prop} {s : Shared}
def entT (P : Program) (w : World) (p : TRow) : Int × Value := (hsh P w p.2, Value.ref p.1)
structure StT (P : Program) (w : World) (h : Heap) (a : Addr) (L : List TRow) (es : Array (Int × Value)) (ep : Nat) (t : SetTable) : Prop where
 obj : ∃ o, h.get? a = some o ∧ o.ExactSet ∧ o.data = .set es ep t
 ents : es.toList = L.map (entT P w)
 tab : TabOk t (L.map fun p => hsh P w p.2)
 unl : (L.map Prod.snd).Nodup
 keys : ∀ p ∈ L, TpK P w h p.2 p.1
 led : w.params.followText "set-order" = true ∨ t.led = true
 room : L.length * 5 < t.mask * 3
 few : L.length < 64
variable {a : Addr} {L : List TRow} {es : Array (Int × Value)} {ep : Nat} {t : SetTable}
theorem StT.sz (R : StT P w s.heap a L es ep t) : es.size = L.length := by
 rw [← Array.length_toList, R.ents, List.length_map]
theorem StT.get (R : StT P w s.heap a L es ep t) {i : Nat} {p : TRow} (h : L[i]? = some p) : es[i]? = some (entT P w p) := by
 rw [← Array.getElem?_toList, R.ents, List.getElem?_map, h]
 rfl
end
end PL
end
section
namespace PL
open PySem PySem.Spec PyProof.Rows L2
variable [Tbl]
section
variable {P : Program} {w : World} {A : Around} {E : Value → Shared → Prop} {s : Shared}
variable {a : Addr} {L : List TRow} {es : Array (Int × Value)} {ep : Nat} {t : SetTable}
end
end PL
end
section
namespace PL
open PySem PySem.Spec PyProof.Rows L2
variable [Tbl]
section
variable {P : Program} {w : World} {A : Around} {E : Value → Shared → Prop} {s : Shared}
variable {a : Addr} {L : List TRow} {es : Array (Int × Value)} {ep : Nat} {t : SetTable}
end
end PL
end
section
namespace PL
open PySem PySem.Spec PyProof.Rows L2
variable [Tbl]
section
variable {P : Program} {w : World}
def HasT (P : Program) (w : World) (h : Heap) (S : Addr) (ks : List TRow) (i : Nat) : Prop := ∃ L es ep t, StT P w h S L es ep t ∧ L.length ≤ i ∧ (∀ p ∈ L, p ∈ ks) ∧ ∀ k, k ∈ L.map Prod.snd ↔ k ∈ (ks.take i).map Prod.snd
theorem HasT.at {h h' : Heap} {S : Addr} {ks : List TRow} {i : Nat} (R : HasT P w h S ks i) (hS : ∀ o, h.get? S = some o → h'.get? S = some o) (ht : ∀ p ∈ ks, TpK P w h' p.2 p.1) : HasT P w h' S ks i := by
 obtain ⟨L, es, ep, t, R, r⟩ := R
 obtain ⟨o, ho, u⟩ := R.obj
 exact ⟨L, es, ep, t, ⟨⟨o, hS o ho, u⟩, R.ents, R.tab, R.unl, fun p hp => ht p (r.2.1 p hp), R.led, R.room, R.few⟩, r⟩
end
end PL
end
section
namespace PL
open PySem PySem.Spec PyProof.Rows L2
variable [Tbl]
section
variable {X : Cx}
end
end PL
end
section
namespace PL
open PySem PySem.Spec PyProof.Rows L2
variable [Tbl]
section
variable {X : Cx}
end
end PL
end
section
namespace PL
open PySem PySem.Spec PyProof.Rows L2
variable [Tbl]
section
variable {X : Cx}
end
end PL
end
section
namespace PL
open PySem PySem.Spec PyProof.Rows L2
variable [Tbl]
section
variable {X : Cx}
end
end PL
end
section
namespace PL
open PySem PySem.Spec PyProof.Rows L2
variable [Tbl]
section
variable {X : Cx}
end
end PL
end
section
namespace PL
open PySem PySem.Spec PyProof.Rows L2
variable [Tbl]
mutual
theorem reads_there {h : Heap} : ∀ {d : PyData} {v : Value} {as : List Addr}, d.hasDict = false → Reads h v d as → ∀ a ∈ as, ∃ o, h.get? a = some o
 | .none, _, _, _, r => by cases r; simp
 | .bool _, _, _, _, r => by cases r; simp
 | .int _, _, _, _, r => by cases r; simp
 | .str _, _, _, _, r => by cases r; simp
 | .list xs, _, _, hd, r => by
  cases r with
  | list h1 _ _ h4 =>
   intro a ha
   rcases List.mem_cons.mp ha with rfl | ha
   ·exact ⟨_, h1⟩
   ·exact readsAll_there (by simpa [PyData.hasDict] using hd) h4 a ha
 | .tuple xs, _, _, hd, r => by
  cases r with
  | tuple _ _ _ h4 => exact readsAll_there (by simpa [PyData.hasDict] using hd) h4
 | .dict kvs, _, _, hd, r => by simp [PyData.hasDict] at hd
theorem readsAll_there {h : Heap} : ∀ {ds : List PyData} {vs : List Value} {as : List Addr}, PyData.hasDictAll ds = false → ReadsAll h vs ds as → ∀ a ∈ as, ∃ o, h.get? a = some o
 | [], _, _, _, r => by cases r; simp
 | d :: ds, _, _, hd, r => by
  simp only [PyData.hasDictAll, Bool.or_eq_false_iff] at hd
  cases r with
  | cons r1 r2 =>
   intro a ha
   rcases List.mem_append.mp ha with ha | ha
   ·exact reads_there hd.1 r1 a ha
   ·exact readsAll_there hd.2 r2 a ha
end
section
variable {X : Cx}
end
end PL
end
section
namespace PL
open PySem PySem.Spec PyProof.Rows L2
variable [Tbl]
section
variable {K : PySem.W.Frag} {mg : Str → Option Value}
theorem lat_ext {r : List Addr} {H H' : Hp} (g : ∀ b o, H b = some o → H' b = some o) : Lat r H r H' := ⟨fun _ _ e => g _ _ e, fun _ _ h => h, fun _ _ e => g _ _ e, fun _ _ _ e => g _ _ e, fun _ _ e => g _ _ e⟩
theorem Sim.ext {r : List Addr} {S : Sto} {H H' : Hp} (h : Sim K mg r S H) (g : ∀ b o, H b = some o → H' b = some o) : Sim K mg r S H' := by
 refine ⟨h.tb.ext g, h.len, h.nd, fun n o a e1 e2 => ?_⟩
 have q := h.ob n o a e1 e2
 have L := lat_ext (r := r) g
 cases o with
 | cst xs => obtain ⟨ws, e, z⟩ := q; exact ⟨ws, e.lat L, z.lat L⟩
 | lst xs => obtain ⟨ws, e, z⟩ := q; exact ⟨ws, g _ _ e, z.lat L⟩
 | dK xs => obtain ⟨ws, e, z⟩ := q; exact ⟨ws, g _ _ e, z.lat L⟩
 | dT xs => obtain ⟨ws, e, z⟩ := q; exact ⟨ws, g _ _ e, z.lat L⟩
 | lkK xs => obtain ⟨od, ws, e, z⟩ := q; exact ⟨od, ws, g _ _ e, z.lat L⟩
 | ins c xs => obtain ⟨C, dx, ws, y, e, z⟩ := q; exact ⟨C, dx, ws, y, g _ _ e, z.lat L⟩
end
section
variable {X : Cx}
end
end PL
end
section
namespace PL
open PySem PySem.Spec PyProof.Rows L2 L2.DX
variable [Tbl]
section
variable {X : Cx}
end
end PL
end
section
namespace PL
open PySem PySem.Spec PyProof.Rows L2 L2.DX
variable [Tbl]
section
variable {X : Cx}
end
end PL
end
section
namespace PL
open PySem PySem.Spec PyProof.Rows L2
variable [Tbl]
section
variable {X : Cx}
theorem kCallV (i : Nat) {k : Nat} {fs : Str → Option (Nat × Nat)} {C : Nat → MF} {x : Str} {p pos : Pos} {e : Expr} {es : List Expr} {a : MA}
  (hT : ∀ y j n, fs y = some (j, n) → ∃ (f : Addr) (fd : FuncData) (ps : List Str), X.mg y = some (.ref f) ∧ FnG X.prog X.w X.K X.mg X.base k f fd ps (spM X.K X.mg n (C j)) ∧ PySem.W.keepIn X.K (.ref f) = true ∧ Binds X.K fd ps [])
  (hr : Room k X.A) (hgd : X.A.guards = some []) (ha : CA X (e :: es) a) (hN : X.N[i]? = some x := by rfl) (hv : Vis X.env.scope x := by first | exact Or.inl rfl | exact Or.inr (Or.inl rfl) | exact Or.inr (Or.inr rfl))
  (hdb : (x == ("__debug__" : Str)) = false := by decide) (hcd : (x == ("__classdict__" : Str)) = false := by decide) (h : nSs (e :: es) = true := by rfl) : CE X (.Call (.Name x p) (e :: es) [] pos) (mCallV i fs C a) :=
 cE_callV hT hr hgd hN hv ha hdb hcd (star_cons (nSs_cons h).1) (star_plain (nSs_cons h).2)
theorem hu70 {k : Nat} {A : Around} (hr : Room k A) : A.units + 70 < cLine := by
 have := hr.un
 omega
end
end PL
end
section
namespace PL
open PySem PySem.Spec PyProof.Rows L2
variable [Tbl]
section
variable {X : Cx}
def cmpOk (p q : PyData) : Bool := PySem.W.alike p q && (match p with | .none => false | _ => true) && decide (min p.depth q.depth ≤ 64)
def ordB (f : PyData → PyData → Bool) : D → D → Sto → R := fun x y S => (pyT S x).bind fun p => (pyT S y).bind fun q => if cmpOk p q = true then some (.bl (f p q), S) else none
def rOrdD (K : PySem.W.Frag) (f : PyData → PyData → Bool) : R2 := fun x y H Q => ∃ d e, Dp K H x d ∧ Dp K H y e ∧ cmpOk d e = true ∧ Q (.bl (f d e)) H
theorem opS_ord {f : PyData → PyData → Bool} : OpS X (rOrdD X.K f) (ordB f) := by
 intro x y S d S' e r H u v Q s q1 q2 hq
 obtain ⟨p, e1, e⟩ := Option.bind_eq_some_iff.mp e
 obtain ⟨q, e2, e⟩ := Option.bind_eq_some_iff.mp e
 split at e
 ·rename_i hs
  cases e
  exact ⟨p, q, pyT_ok s q1 e1, pyT_ok s q2 e2, hs, hq r H _ s .refl (.bl _)⟩
 ·cases e
theorem cmpOk_ok {p q : PyData} {n : Nat} (h : cmpOk p q = true) (hu : n + 64 < cLine) : PySem.W.alike p q = true ∧ p ≠ .none ∧ n + min p.depth q.depth < cLine := by
 unfold cmpOk at h
 simp only [Bool.and_eq_true, decide_eq_true_eq] at h
 refine ⟨h.1.1, fun e => ?_, by omega⟩
 rw [e] at h
 exact absurd h.1.2 (by simp)
theorem op_ltD (hu : X.A.units + 64 < cLine) : OpR X (compareOp .Lt) (rOrdD X.K fun p q => PySem.W.dataLt p q) := by
 intro pins s σ H x y v u Q I rx ry h
 obtain ⟨d, e, hd, he, c, q⟩ := h
 obtain ⟨as, r1⟩ := Dp.reads I d x v hd rx
 obtain ⟨bs, r2⟩ := Dp.reads I e y u he ry
 obtain ⟨c1, c2, c3⟩ := cmpOk_ok c hu
 exact PySem.W.lt_data r1 r2 c1 c2 c3 ⟨.bl _, H, I, rfl, q⟩
theorem op_gtD (hu : X.A.units + 64 < cLine) : OpR X (compareOp .Gt) (rOrdD X.K fun p q => PySem.W.dataLt q p) := by
 intro pins s σ H x y v u Q I rx ry h
 obtain ⟨d, e, hd, he, c, q⟩ := h
 obtain ⟨as, r1⟩ := Dp.reads I d x v hd rx
 obtain ⟨bs, r2⟩ := Dp.reads I e y u he ry
 obtain ⟨c1, c2, c3⟩ := cmpOk_ok c hu
 exact PySem.W.gt_data r1 r2 c1 c2 c3 ⟨.bl _, H, I, rfl, q⟩
theorem op_leD (hu : X.A.units + 64 < cLine) : OpR X (compareOp .LtE) (rOrdD X.K fun p q => !PySem.W.dataLt q p) := by
 intro pins s σ H x y v u Q I rx ry h
 obtain ⟨d, e, hd, he, c, q⟩ := h
 obtain ⟨as, r1⟩ := Dp.reads I d x v hd rx
 obtain ⟨bs, r2⟩ := Dp.reads I e y u he ry
 obtain ⟨c1, c2, c3⟩ := cmpOk_ok c hu
 exact PySem.W.le_data r1 r2 c1 c2 c3 ⟨.bl _, H, I, rfl, q⟩
theorem op_geD (hu : X.A.units + 64 < cLine) : OpR X (compareOp .GtE) (rOrdD X.K fun p q => !PySem.W.dataLt p q) := by
 intro pins s σ H x y v u Q I rx ry h
 obtain ⟨d, e, hd, he, c, q⟩ := h
 obtain ⟨as, r1⟩ := Dp.reads I d x v hd rx
 obtain ⟨bs, r2⟩ := Dp.reads I e y u he ry
 obtain ⟨c1, c2, c3⟩ := cmpOk_ok c hu
 exact PySem.W.ge_data r1 r2 c1 c2 c3 ⟨.bl _, H, I, rfl, q⟩
def xLt : D → D → Sto → R := alt (iiB fun i j => decide (i < j)) (alt (ssB fun i j => decide (i.cps.toList < j.cps.toList)) (ordB fun p q => PySem.W.dataLt p q))
def xLe : D → D → Sto → R := alt (iiB fun i j => decide (i ≤ j)) (alt (ssB fun i j => !decide (j.cps.toList < i.cps.toList)) (ordB fun p q => !PySem.W.dataLt q p))
def xGt : D → D → Sto → R := alt (iiB fun i j => decide (j < i)) (alt (ssB fun i j => decide (j.cps.toList < i.cps.toList)) (ordB fun p q => PySem.W.dataLt q p))
def xGe : D → D → Sto → R := alt (iiB fun i j => decide (j ≤ i)) (alt (ssB fun i j => !decide (i.cps.toList < j.cps.toList)) (ordB fun p q => !PySem.W.dataLt p q))
end
end PL
end
section
namespace TB
open PySem PySem.Spec PyProof.Rows L2 PL PySem.W
class Lin (α : Type) [DecidableEq α] [DatumOrd α] : Prop where
 irr : ∀ a : α, DatumOrd.lt a a = false
 tr : ∀ a b c : α, DatumOrd.lt a b = true → DatumOrd.lt b c = true → DatumOrd.lt a c = true
 tri : ∀ a b : α, DatumOrd.lt a b = false → DatumOrd.lt b a = false → a = b
theorem ltS (a b : Str) : (DatumOrd.lt a b = true) ↔ a.cps.toList < b.cps.toList := by
 show decide (a.cps.toList < b.cps.toList) = true ↔ _
 simp
instance : Lin Str where
 irr a := by
  cases h : DatumOrd.lt a a with
  | false => rfl
  | true => exact absurd ((ltS a a).mp h) (List.lt_irrefl _)
 tr a b c h1 h2 := (ltS a c).mpr (List.lt_trans ((ltS a b).mp h1) ((ltS b c).mp h2))
 tri a b h1 h2 := by
  have g1 : ¬ a.cps.toList < b.cps.toList := fun h => by rw [(ltS a b).mpr h] at h1; cases h1
  have g2 : ¬ b.cps.toList < a.cps.toList := fun h => by rw [(ltS b a).mpr h] at h2; cases h2
  exact PySem.W.str_of_cps (List.le_antisymm (List.not_lt.mp g2) (List.not_lt.mp g1))
section
variable {α β : Type} [DecidableEq α] [DatumOrd α] [DecidableEq β] [DatumOrd β]
theorem ltP (p q : α × β) : DatumOrd.lt p q = if p.1 = q.1 then DatumOrd.lt p.2 q.2 else DatumOrd.lt p.1 q.1 := rfl
instance [Lin α] [Lin β] : Lin (α × β) where
 irr a := by rw [ltP, if_pos rfl]; exact Lin.irr _
 tr a b c h1 h2 := by
  rw [ltP] at h1 h2 ⊢
  by_cases e1 : a.1 = b.1
  ·by_cases e2 : b.1 = c.1
   ·rw [if_pos e1] at h1
    rw [if_pos e2] at h2
    rw [if_pos (e1.trans e2)]
    exact Lin.tr _ _ _ h1 h2
   ·rw [if_neg e2] at h2
    rw [if_neg (by rw [e1]; exact e2), e1]
    exact h2
  ·rw [if_neg e1] at h1
   by_cases e2 : b.1 = c.1
   ·rw [← e2, if_neg e1]
    exact h1
   ·rw [if_neg e2] at h2
    have h3 := Lin.tr _ _ _ h1 h2
    rw [if_neg (fun e => by
     rw [e] at h1
     have h4 := Lin.tr _ _ _ h1 h2
     rw [Lin.irr] at h4
     cases h4)]
    exact h3
 tri a b h1 h2 := by
  rw [ltP] at h1 h2
  by_cases e1 : a.1 = b.1
  ·rw [if_pos e1] at h1
   rw [if_pos e1.symm] at h2
   exact Prod.ext e1 (Lin.tri _ _ h1 h2)
  ·rw [if_neg e1] at h1
   rw [if_neg (fun e => e1 e.symm)] at h2
   exact absurd (Lin.tri _ _ h1 h2) e1
end
section
variable {α : Type} [DecidableEq α] [DatumOrd α] [Lin α]
theorem asym {a b : α} (h : DatumOrd.lt a b = true) : DatumOrd.lt b a = false := by
 cases g : DatumOrd.lt b a with
 | false => rfl
 | true =>
  have := Lin.tr _ _ _ h g
  rw [Lin.irr] at this
  cases this
def le (a b : α) : Bool := !DatumOrd.lt b a
theorem le_data : (dataLe false fun a : α => Datum.toD a) = le := by
 rw [dataLe_eq]
 funext a b
 show (!dataLt (Datum.toD b) (Datum.toD a)) = _
 rw [DatumOrd.lt_eq]
 rfl
theorem le_trans (a b c : α) (h1 : le a b = true) (h2 : le b c = true) : le a c = true := by
 simp only [le, Bool.not_eq_true'] at h1 h2 ⊢
 cases g : DatumOrd.lt c a with
 | false => rfl
 | true =>
  cases g2 : DatumOrd.lt a b with
  | true => rw [Lin.tr _ _ _ g g2] at h2; cases h2
  | false =>
   have := Lin.tri _ _ g2 h1
   subst this
   rw [g] at h2
   cases h2
theorem le_total (a b : α) : (le a b || le b a) = true := by
 simp only [le]
 cases g : DatumOrd.lt b a with
 | false => rfl
 | true => rw [asym g]; rfl
theorem le_anti (a b : α) (h1 : le a b = true) (h2 : le b a = true) : a = b := by
 simp only [le, Bool.not_eq_true'] at h1 h2
 exact Lin.tri _ _ h2 h1
theorem sort_uniq {l m : List α} (h : m.Pairwise (fun a b => le a b = true)) (p : m.Perm l) : l.mergeSort le = m :=
 List.Perm.eq_of_pairwise (fun a b _ _ h1 h2 => le_anti a b h1 h2) (List.pairwise_mergeSort le_trans le_total l) h ((List.mergeSort_perm l _).trans p.symm)
abbrev Rows (α : Type) := List (α × α)
def firsts (T : Rows α) : List α := T.map Prod.fst
def seconds (T : Rows α) : List α := T.map Prod.snd
structure Half (T : Rows α) : Prop where
 up : (firsts T).Pairwise (fun a b => DatumOrd.lt a b = true)
 one : (seconds T).Nodup
def turned (T : Rows α) : Rows α := (T.map Prod.swap).mergeSort le
theorem up_nodup {xs : List α} (h : xs.Pairwise (fun a b => DatumOrd.lt a b = true)) : xs.Nodup := h.imp (fun {a b} g e => by
 subst e
 rw [Lin.irr] at g
 cases g)
theorem Half.nd {T : Rows α} (h : Half T) : (firsts T).Nodup := up_nodup h.up
theorem Half.le {T : Rows α} (h : Half T) : T.Pairwise (fun p q => le p q = true) := (List.pairwise_map.mp h.up).imp (fun {p q} g => by
 show (!DatumOrd.lt q p) = true
 rw [ltP, if_neg (fun e => by rw [e, Lin.irr] at g; cases g), asym g]
 rfl)
theorem Half.back {T : Rows α} (h : Half T) : turned (turned T) = T := by
 refine sort_uniq h.le ?_
 have h1 := (List.mergeSort_perm (T.map Prod.swap) TB.le).map Prod.swap
 have h2 : (T.map Prod.swap).map Prod.swap = T := by simp
 rw [h2] at h1
 exact h1.symm
def call : Rows α → List α → α → Option α → Option α
 | [], ss, _, o => match o with
  | none => none
  | some b => if b ∈ ss then none else some b
 | p :: T, ss, x, o => if p.1 = x then some p.2 else call T ss x o
def cl (T : Rows α) (x : α) (o : Option α) : Option α := call T (seconds T) x o
end
def sc (T : Rows Str) (x : Str) : Option Str := cl T x (some x)
end TB
end
section
namespace PL
open PySem PySem.Spec PyProof.Rows L2
variable [Tbl]
def gIsT (p : Str → Bool) : D → List D → Sto → R
 | .str a, [], S => some (.bl (p a), S)
 | _, _, _ => none
theorem mtS_is {X : Cx} {T : String} {p : Str → Bool} : MtS X T (fun x xs H Q => ∃ a, x = .str a ∧ xs = [] ∧ True ∧ Q (.bl (p a)) H) (gIsT p) := by
 intro x xs S d S' e r H u vs Q s q1 q2 hq
 unfold gIsT at e
 split at e
 case h_2 => cases e
 rename_i a
 cases e
 cases q1
 match vs, q2 with
 | [], .nil => exact ⟨a, rfl, rfl, trivial, hq r H _ s .refl (.bl _)⟩
end PL
end
section
namespace PL
open PySem PySem.Spec PyProof.Rows L2
variable [Tbl]
section
variable {X : Cx}
def TMk (X : Cx) (kws : List Keyword) (σ : L2.St) (H : Hp) (Q : List V → Hp → Prop) : Prop := ∀ pos pins s, Inv X pins σ H s → wpAny (model X.prog X.w) X.A (evalAll ((backToKw pos (keywordEach kws X.env)).map (·.2))) (AP X pins σ Q) X.xe s
theorem pk_tm {kws : List Keyword} : PK X kws (TMk X kws) := ⟨fun pos pins s _ _ _ I h => h pos pins s I⟩
theorem tmk_of {kws : List Keyword} {t : TA} {σ : L2.St} {H : Hp} {Q : List V → Hp → Prop} (h : PK X kws t) (q : t σ H Q) : TMk X kws σ H Q := fun pos pins s I => h.run pos pins s σ H Q I q
structure CKw (X : Cx) (kws : List Keyword) (m : MA) : Prop where
 run : ∀ env S ds S', m env S = some (ds, S') → ∀ r σ H (Q : List V → Hp → Prop), At X r env S σ H →
 (∀ r' H' vs, Sim X.K X.mg r' S' H' → Lat r H r' H' → RepL X.K X.mg r' H' ds vs → Q vs H') → TMk X kws σ H Q
theorem cK_nil : CKw X [] mNil := by
 refine ⟨?_⟩
 intro env S ds S' h r σ H Q A hq
 cases h
 exact tmk_of pk_nil (hq r H [] A.sim .refl .nil)
theorem cK_cons {nm : Option Str} {kpos : Pos} {e : Expr} {kws : List Keyword} {a : ME} {b : MA} (ha : CE X e a) (hb : CKw X kws b) : CKw X (⟨nm, e, kpos⟩ :: kws) (mCons a b) := by
 refine ⟨?_⟩
 intro env S ds S' h r σ H Q A hq
 obtain ⟨⟨x, S1⟩, e1, h⟩ := Option.bind_eq_some_iff.mp h
 obtain ⟨⟨xs, S2⟩, e2, h⟩ := Option.bind_eq_some_iff.mp h
 cases h
 refine tmk_of (pk_cons (nm := nm) (kpos := kpos) pe_tm pk_tm) (ha env S x S1 e1 r σ H _ A fun r1 H1 v s1 l1 q1 => ?_)
 exact hb.run env S1 xs S2 e2 r1 σ H1 _ (A.lat s1 l1) fun r2 H2 vs s2 l2 q2 => hq r2 H2 (v :: vs) s2 (l1.trans l2) (.cons (q1.lat l2) q2)
def pickL {α : Type} (pm : List Nat) (xs : List α) : List α := pm.filterMap (xs[·]?)
theorem pickL_rep {K : PySem.W.Frag} {mg : Str → Option Value} {r : List Addr} {H : Hp} {xs : List D} {ys : List V} (h : RepL K mg r H xs ys) : ∀ pm : List Nat, RepL K mg r H (pickL pm xs) (pickL pm ys)
 | [] => .nil
 | i :: pm => by
  have ih := pickL_rep h pm
  unfold pickL at ih ⊢
  have hl := h.length
  by_cases hi : i < xs.length
  ·have e1 : xs[i]? = some xs[i] := List.getElem?_eq_getElem hi
   obtain ⟨y, e2, q⟩ := h.get e1
   rw [List.filterMap_cons_some e1, List.filterMap_cons_some e2]
   exact .cons q ih
  ·have e1 : xs[i]? = none := List.getElem?_eq_none_iff.mpr (by omega)
   have e2 : ys[i]? = none := List.getElem?_eq_none_iff.mpr (by omega)
   rw [List.filterMap_cons_none e1, List.filterMap_cons_none e2]
   exact ih
theorem pickL_vals {xs : List V} {ys : List Value} (h : Vals xs ys) : ∀ pm : List Nat, Vals (pickL pm xs) (pickL pm ys)
 | [] => .nil
 | i :: pm => by
  have ih := pickL_vals h pm
  unfold pickL at ih ⊢
  have hl : xs.length = ys.length := h.length
  by_cases hi : i < xs.length
  ·have e1 : xs[i]? = some xs[i] := List.getElem?_eq_getElem hi
   obtain ⟨y, e2, q⟩ := h.get e1
   rw [List.filterMap_cons_some e1, List.filterMap_cons_some e2]
   exact .cons q ih
  ·have e1 : xs[i]? = none := List.getElem?_eq_none_iff.mpr (by omega)
   have e2 : ys[i]? = none := List.getElem?_eq_none_iff.mpr (by omega)
   rw [List.filterMap_cons_none e1, List.filterMap_cons_none e2]
   exact ih
def mCallK (n k : Nat) (pm : List Nat) (m : MF) (a : MA) : ME := fun env S => (a env S).bind fun p => if p.1.length = k ∧ (pickL pm p.1).length = n then m (pickL pm p.1) p.2 else none
theorem cE_callKw {k n : Nat} {f : Addr} {fd : FuncData} {ps ks : List Str} {pm : List Nat} {m : MF} {x : Str} {p pos : Pos} {kws : List Keyword} {a : MA} (F : FnG X.prog X.w X.K X.mg X.base k f fd ps (spM X.K X.mg n m)) (hr : Room k X.A) (hgd : X.A.guards = some [])
  (hk : PySem.W.keepIn X.K (.ref f) = true) (hb : ∀ ws : List Value, ws.length = ks.length → bindArgs fd ⟨[], ks.zip ws⟩ = pure (ps.zip (pickL pm ws))) (hm : X.mg x = some (.ref f)) (ha : CKw X kws a) (hg : Gl X x := by rfl) (hdb : (x == ("__debug__" : Str)) = false := by decide)
  (hall : (backToKw pos (keywordEach kws X.env)).all (·.1.isSome) = true := by rfl) (hks : (backToKw pos (keywordEach kws X.env)).filterMap (·.1) = ks := by rfl)
  (hpl : ((backTo pos (starEach [] X.env)).any (·.1) || (backToKw pos (keywordEach kws X.env)).any (·.1.isNone)) = false := by rfl) : CE X (.Call (.Name x p) [] kws pos) (mCallK n ks.length pm m a) := by
 refine ⟨?_⟩
 intro env S d S' h r σ H Q A hq
 obtain ⟨⟨ds, S1⟩, e1, h⟩ := Option.bind_eq_some_iff.mp h
 split at h
 case isFalse => cases h
 rename_i hl
 intro pins s I
 refine wpAny_Call_Name_kw (ld_glob I hg hm ?_ hdb)
 have args := ha.run env S ds S1 e1 r σ H (fun vs H1 => vs.length = ks.length ∧ spM X.K X.mg n m (pickL pm vs) H1 Q E0) A fun r1 H1 vs s1 l1 q1 =>
  ⟨q1.length.symm.trans hl.1, r1, S1, pickL pm ds, d, S', hl.2, s1, pickL_rep q1 pm, h, fun r2 H2 v s2 l2 q2 => hq r2 H2 v s2 (l1.trans l2) q2⟩
 refine PySem.W.callWith_KW0 (h₀ := X.base) I.ok.mod.kin hk hall (thn (args pos pins s I) ?_) hpl
 rintro us s1 ⟨vs, H1, I1, rv, hz, q⟩
 refine ⟨I1.kIn, ?_⟩
 rw [hks]
 have b1 : BindsTo s1 fd ⟨[], ks.zip us⟩ (ps.zip (pickL pm us)) := .of_eq (hb us (rv.length.symm.trans hz))
 refine wpAny_call ?_
 refine codeAny_mono (F.run X.A X.stack s1 H1 ⟨[], ks.zip us⟩ (pickL pm us) (pickL pm vs) Q E0 hr hgd I1.env0 b1 (pickL_vals rv pm) q) ?_
 intro res s' got
 match res, got with
 | .error _, got => exact absurd got id
 | .ok (.ret _), got => exact I1.after got
 | .ok .next, got => exact absurd got id
 | .ok .brk, got => exact absurd got id
 | .ok .cont, got => exact absurd got id
theorem kw_binds {K : PySem.W.Frag} {x qual : Str} {st : Stmt} {f : Addr} {fd : FuncData} {ps ks : List Str} {pm : List Nat} (F : Fun K x qual st f fd)
  (h : ∀ (kV doc pm' : Value) (an : Option Addr) (cdv ct : Value) (ws : List Value), ws.length = ks.length → bindArgs (PySem.W.fnOf x qual (defArgs st) (defBody st) (defScope st) .none kV doc pm' an cdv ct) ⟨[], ks.zip ws⟩ = pure (ps.zip (pickL pm ws))) :
  ∀ ws : List Value, ws.length = ks.length → bindArgs fd ⟨[], ks.zip ws⟩ = pure (ps.zip (pickL pm ws)) := by
 obtain ⟨oc, od, kV, doc, pm', an, cdv, ct, osl, rfl, lk, hcd⟩ := F.ex
 exact h kV doc pm' an cdv ct
end
end PL
end
section
namespace PL
open PySem PySem.Spec PyProof.Rows L2
variable [Tbl]
section
variable {X : Cx}
def gInt : List D → Sto → R
 | [.int i], S => some (.int i, S)
 | [.bl b], S => some (.int (if b then 1 else 0), S)
 | _, _ => none
theorem callS_int : CallS X (fun xs H Q => (∃ i, xs = [.int i] ∧ Q (.int i) H) ∨ ∃ k, xs = [.bl k] ∧ Q (.int (if k then 1 else 0)) H) gInt := by
 intro xs S d S' e r H vs Q s q hq
 unfold gInt at e
 split at e
 ·cases e
  obtain ⟨v, rfl, z⟩ := RepL.inv1 q
  cases z
  exact .inl ⟨_, rfl, hq r H _ s .refl (.int _)⟩
 ·cases e
  obtain ⟨v, rfl, z⟩ := RepL.inv1 q
  cases z
  exact .inr ⟨_, rfl, hq r H _ s .refl (.int _)⟩
 ·cases e
theorem rep_list {r : List Addr} {S : Sto} {H : Hp} {n : Nat} {a : Addr} {xs : List D} (s : Sim X.K X.mg r S H) (ea : r[n]? = some a) (h : seqAt n S = some xs) : ∃ vs, SqL X.K H a vs ∧ RepL X.K X.mg r H xs vs := seqAt_ok s ea h
end
end PL
end
section
namespace PL
open PySem PySem.Spec PyProof.Rows L2
variable [Tbl]
section
variable {P : Program} {w : World}
end
section
variable {X : Cx}
end
end PL
end
section
namespace PL
open PySem PySem.Spec PyProof.Rows L2
variable [Tbl]
section
variable {X : Cx}
end
end PL
end
section
namespace PL
open PySem PySem.Spec PyProof.Rows L2
variable [Tbl]
section
variable {X : Cx}
end
end PL
end
section
namespace PL
open PySem PySem.Spec PyProof.Rows L2
variable [Tbl]
section
variable {P : Program} {w : World} {A : Around} {E : Value → Shared → Prop} {s : Shared} {z TI TO T i1 i2 : Addr} {fp1 fp2 : List Addr} {n1 n2 i : Nat} {P1 P2 : Nat → Value → Prop} {St1 St2 : Nat → Heap → Prop} {f : Bool} {oT : Obj}
end
end PL
end
section
namespace PL
open PySem PySem.Spec PyProof.Rows L2
variable [Tbl]
section
variable {X : Cx}
end
end PL
end
section
namespace PL
open PySem PySem.Spec PyProof.Rows L2
variable [Tbl]
section
variable {X : Cx}
theorem kKn : CKw X [] mNil := cK_nil
theorem kKc {nm : Option Str} {kpos : Pos} {e : Expr} {kws : List Keyword} {a : ME} {b : MA} (ha : CE X e a) (hb : CKw X kws b) : CKw X (⟨nm, e, kpos⟩ :: kws) (mCons a b) := cK_cons ha hb
theorem kCallKw {k n : Nat} {f : Addr} {fd : FuncData} {ps ks : List Str} {pm : List Nat} {m : MF} {x : Str} {p pos : Pos} {kws : List Keyword} {a : MA} (F : FnG X.prog X.w X.K X.mg X.base k f fd ps (spM X.K X.mg n m)) (hr : Room k X.A) (hgd : X.A.guards = some [])
  (hk : PySem.W.keepIn X.K (.ref f) = true) (hb : ∀ ws : List Value, ws.length = ks.length → bindArgs fd ⟨[], ks.zip ws⟩ = pure (ps.zip (pickL pm ws))) (hm : X.mg x = some (.ref f)) (ha : CKw X kws a) (hg : Gl X x := by rfl) (hdb : (x == ("__debug__" : Str)) = false := by decide)
  (hall : (backToKw pos (keywordEach kws X.env)).all (·.1.isSome) = true := by rfl) (hks : (backToKw pos (keywordEach kws X.env)).filterMap (·.1) = ks := by rfl)
  (hpl : ((backTo pos (starEach [] X.env)).any (·.1) || (backToKw pos (keywordEach kws X.env)).any (·.1.isNone)) = false := by rfl) : CE X (.Call (.Name x p) [] kws pos) (mCallK n ks.length pm m a) :=
 cE_callKw F hr hgd hk hb hm ha hg hdb hall hks hpl
end
end PL
end
section
namespace PL
open PySem PySem.Spec PyProof.Rows L2
variable [Tbl]
section
variable {X : Cx}
def gReprA : List D → Sto → R
 | [.tup xs], S => (pyD (.tup xs)).bind fun p => if reprOk p = true then some (.str (PyData.shown p), S) else none
 | [.ref n], S => (pyT S (.ref n)).bind fun p => if reprOk p = true then some (.str (PyData.shown p), S) else none
 | _, _ => none
theorem callS_reprA : CallS X (rRepr X.K) gReprA := by
 intro xs S d S' e r H vs Q s q hq
 unfold gReprA at e
 split at e
 ·obtain ⟨p, e1, e⟩ := Option.bind_eq_some_iff.mp e
  split at e
  case isFalse => cases e
  rename_i ok
  cases e
  obtain ⟨v, rfl, z⟩ := RepL.inv1 q
  have hd := pyD_ok z e1
  cases z
  exact ⟨_, p, rfl, hd, ok, hq r H _ s .refl (.str _)⟩
 ·obtain ⟨p, e1, e⟩ := Option.bind_eq_some_iff.mp e
  split at e
  case isFalse => cases e
  rename_i ok
  cases e
  obtain ⟨v, rfl, z⟩ := RepL.inv1 q
  have hd := pyT_ok s z e1
  cases z
  exact ⟨_, p, rfl, hd, ok, hq r H _ s .refl (.str _)⟩
 ·cases e
def liL : D → D → Sto → R
 | .ref n, .int k, S => match S[n]? with
  | some (.lst xs) => if -(2 ^ 63) ≤ k ∧ k < 2 ^ 63 ∧ xs.length * k.toNat ≤ sizeLine then newL (List.replicate k.toNat xs).flatten S else none
  | _ => none
 | _, _, _ => none
theorem repL_flat {K : PySem.W.Frag} {mg : Str → Option Value} {r : List Addr} {H : Hp} {xs : List D} {vs : List V} (q : RepL K mg r H xs vs) : ∀ n : Nat, RepL K mg r H (List.replicate n xs).flatten (List.replicate n vs).flatten
 | 0 => .nil
 | n + 1 => by
  rw [List.replicate_succ, List.replicate_succ, List.flatten_cons, List.flatten_cons]
  exact q.append (repL_flat q n)
theorem opS_liL : OpS X rRep liL := by
 intro x y S d S' e r H u v Q s q1 q2 hq
 unfold liL at e
 split at e
 case h_2 => cases e
 rename_i n k
 split at e
 case h_2 => cases e
 rename_i xs ex
 split at e
 case isFalse => cases e
 rename_i hk
 cases q1 with
 | ref ea =>
  cases q2
  obtain ⟨ws, h1, l⟩ := s.ob _ _ _ ex ea
  refine ⟨_, _, ws, rfl, rfl, h1, hk.1, hk.2.1, by rw [← l.length]; exact hk.2.2, fun p np => ?_⟩
  obtain ⟨a1, a2, a3⟩ := newL_ok (X := X) s np (repL_flat l k.toNat) e
  exact hq _ _ _ a1 a2 a3
def dMulX : D → D → Sto → R := alt (iiI cMulB (· * ·)) (alt tiT' liL)
end
end PL
end
section
namespace PL
open PySem PySem.Spec PyProof.Rows L2
variable [Tbl]
set_option maxHeartbeats 1000000 in
section
variable {X : Cx}
end
end PL
end
section
namespace PL
open PySem PySem.Spec PyProof.Rows L2
variable [Tbl]
section
variable {K : PySem.W.Frag} {mg : Str → Option Value} {r : List Addr} {H : Hp}
theorem RepKs.len {k : Type} : ∀ {ks : List (k × D)} {ws : List (k × V)}, RepKs K mg r H ks ws → ws.length = ks.length
 | _, _, .nil => rfl
 | _, _, .cons _ t => congrArg Nat.succ (RepKs.len t)
end
structure RoomM (k : Nat) (A : Around) : Prop where
 hd : A.handled = none
 dp : A.depth + 3 * k + 6 < recursionLimit
 un : A.units + 16 * k + 201 < cLine
theorem RoomM.room {k : Nat} {A : Around} (r : RoomM k A) : Room k A := ⟨r.hd, by have := r.dp; omega, by have := r.un; omega⟩
theorem RoomM.deeper {k : Nat} {A : Around} (r : Room (k + 1) A) (env : PySem.Env) : RoomM k (A.deeper env) :=
 ⟨r.hd, by have := r.dp; show A.depth + 1 + 3 * k + 6 < _; omega, by have := r.un; show A.units + 3 + 16 * k + 201 < _; omega⟩
section
variable {X : Cx}
end
end PL
end
section
namespace PL
open PySem PySem.Spec PyProof.Rows L2
variable [Tbl]
section
variable {X : Cx}
end
section
structure MetAt (K : PySem.W.Frag) (x qual : Str) (st : Stmt) (ps : List Str) (f : Addr) (fd : FuncData) : Prop where
 fn : Fun K x qual st f fd
 bi : Binds K fd ps []
end
end PL
end
section
namespace PL
open PySem PySem.Spec PyProof.Rows L2 PySem.W
variable [Tbl]
section
variable {prog : Program} {w : World} {A : Around} {E : Value → Shared → Prop} {s : Shared} {K : Type} [DecidableEq K] {knd : KeyKind prog w K} {it d : Addr} {i ep : Nat} {kvs : List (K × Value)} {k : K} {x : Value}
end
end PL
end
section
namespace PL
open PySem PySem.Spec PyProof.Rows L2
variable [Tbl]
section
variable {X : Cx}
theorem RepKs.keys {K : PySem.W.Frag} {mg : Str → Option Value} {r : List Addr} {H : Hp} {k : Type} : ∀ {ks : List (k × D)} {ws : List (k × V)}, RepKs K mg r H ks ws → ws.map (·.1) = ks.map (·.1)
 | _, _, .nil => rfl
 | _, _, .cons h t => by
  rw [List.map_cons, List.map_cons, RepKs.keys t, h.1]
end
end PL
end
section
namespace PL
open PySem PySem.Spec PyProof.Rows L2
variable [Tbl]
section
variable {X : Cx}
end
end PL
end
section
namespace PL
open PySem PySem.Spec PyProof.Rows L2
variable [Tbl]
section
variable {X : Cx}
end
end PL
end
section
namespace PL
open PySem PySem.Spec PyProof.Rows L2
variable [Tbl]
section
variable {X : Cx}
end
section
variable {X : Cx}
end
end PL
end
section
namespace PL
open PySem PySem.Spec PyProof.Rows L2
variable [Tbl]
section
variable {X : Cx}
end
end PL
end
section
namespace PySem
open Sem (wp)
open AutoSeq1 (wpAny_loadPart')
end PySem
end
section
namespace PySem
open Sem (wp)
open L2
open AutoSeq1 (wpAny_loadPart')
end PySem
namespace PL
open PySem PySem.Spec PyProof.Rows L2 L2.DX
variable [Tbl]
section
variable {X : Cx}
end
end PL
end
section
namespace PL
open PySem PySem.Spec PyProof.Rows L2 L2.DX
variable [Tbl]
section
variable {X : Cx}
end
end PL
end
section
namespace PL
open PySem PySem.Spec PyProof.Rows L2
variable [Tbl]
section
variable {X : Cx}
end
end PL
end
section
namespace PL
open PySem PySem.Spec PyProof.Rows L2
variable [Tbl]
section
variable {X : Cx}
def gReprN : List D → Sto → R
 | [.non], S => some (.str (Str.ofString "None"), S)
 | _, _ => none
def rReprN : List V → Hp → VK → Prop := fun vs H Q => vs = [.non] ∧ Q (.str (Str.ofString "None")) H
theorem callR_reprN : CallR X (.builtin "repr") rReprN := by
 intro pins s σ H vs us Q I rv h
 obtain ⟨rfl, q⟩ := h
 cases rv with
 | cons r1 r2 =>
  cases r2
  cases r1
  exact P.repr_of_none ⟨.str _, H, I.tok _, ⟨_, rfl⟩, q⟩
theorem callS_reprN : CallS X rReprN gReprN := by
 intro xs S d S' e r H vs Q s q hq
 unfold gReprN at e
 split at e
 case h_2 => cases e
 cases e
 obtain ⟨v, rfl, z⟩ := RepL.inv1 q
 cases z
 exact ⟨rfl, hq r H _ s .refl (.str _)⟩
end
end PL
end
section
namespace PL
open PySem PySem.Spec PyProof.Rows L2 L2.DX
variable [Tbl]
section
variable {X : Cx}
end
end PL
end
section
namespace PL
open PySem PySem.Spec PyProof.Rows L2
variable [Tbl]
section
variable {X : Cx}
end
end PL
end
section
namespace PL
open PySem PySem.Spec PyProof.Rows L2
variable [Tbl]
section
variable {X : Cx}
end
end PL
end
section
namespace PL
open PySem PySem.Spec PyProof.Rows L2
variable [Tbl]
section
variable {X : Cx} {k n : Nat} {f : Addr} {fd : FuncData} {ps : List Str} {m : MF}
def mCallD (n : Nat) (dD : List D) (m : MF) (a : MA) : ME := fun env S => (a env S).bind fun p => if p.1.length = n then m (p.1 ++ dD) p.2 else none
end
end PL
end
section
namespace PL
open PySem PySem.Spec PyProof.Rows L2
variable [Tbl]
section
variable {X : Cx}
end
end PL
end
section
namespace PL
open PySem PySem.Spec PyProof.Rows L2
variable [Tbl]
structure DefAtW (K : PySem.W.Frag) (mg : Str → Option Value) (x : Str) (st : Stmt) (ps : List Str) (kw : Bool) (f : Addr) (fd : FuncData) : Prop where
 fn : Fun K x x st f fd
 mg : mg x = some (.ref f)
 bi : kw = false → Binds K fd ps []
section
variable {K : PySem.W.Frag} {x qual : Str} {st : Stmt} {f D : Addr} {od an : Option Addr} {sl : Array (Option Value)} {oc dc pm cd ct : Value} {kws : List (Str × V)} {ps : List Str}
end
section
variable {X : Cx}
end
end PL
end
section
namespace PL
open PySem PySem.Spec PyProof.Rows L2
variable [Tbl]
section
variable {X : Cx}
end
end PL
end
section
namespace PL
open PySem PySem.Spec PyProof.Rows L2
variable [Tbl]
section
variable {X : Cx}
end
end PL
end
section
namespace PL
open PySem PySem.Spec PyProof.Rows L2
variable [Tbl]
end PL
end
section
namespace PL
open PySem PySem.Spec PyProof.Rows L2
variable [Tbl]
def KwDef (K : PySem.W.Frag) (mg : Str → Option Value) (ps : List Str) (dD : List D) (fd : FuncData) : Prop := ∃ dV, (∀ r H, RepL K mg r H dD dV) ∧ ∃ ds, Vals dV ds ∧ Binds K fd ps ds
section
variable {X : Cx}
end
end PL
end
section
namespace PL
open PySem PySem.Spec PyProof.Rows L2
variable [Tbl]
def isX : D → Bool
 | .exc _ _ _ _ _ => true
 | _ => false
def XOk (X : Cx) (W : WX) (r : List Addr) (H : Hp) (c : Str) (ns : List Str) (xs : List D) (S' : Sto) : Prop :=
 ∀ r' σ' H' C dx vs, X.mg c = some (.ref C) → Sim X.K X.mg r' S' H' → Lat r H r' H' → H' dx = some (.xd (ns.zip vs)) → RepL X.K X.mg r' H' xs vs → W (.ref C) (some dx) σ' H'
theorem XOk.lat {X : Cx} {W : WX} {r r1 : List Addr} {H H1 : Hp} {c : Str} {ns : List Str} {xs : List D} {S' : Sto} (l : Lat r H r1 H1) (h : XOk X W r H c ns xs S') : XOk X W r1 H1 c ns xs S' :=
 fun r' σ' H' C dx vs a b d => h r' σ' H' C dx vs a b (l.trans d)
def ValX (X : Cx) (W : WX) (r : List Addr) (H : Hp) (d : D) (S' : Sto) (Q : VK) : Prop := match d with
 | .exc _ _ c ns xs => XOk X W r H c ns xs S'
 | d => ∀ r' H' v, Sim X.K X.mg r' S' H' → Lat r H r' H' → RepV X.K X.mg r' H' d v → Q v H'
theorem ValX.lat {X : Cx} {W : WX} {r r1 : List Addr} {H H1 : Hp} {d : D} {S' : Sto} {Q : VK} (l : Lat r H r1 H1) (h : ValX X W r H d S' Q) : ValX X W r1 H1 d S' Q := by
 cases d with
 | exc a dx c ns xs => exact XOk.lat l h
 | _ => exact fun r' H' v a b c => h r' H' v a (l.trans b) c
structure CEx (X : Cx) (e : Expr) (m : ME) : Prop where
 run : ∀ W, Takes X W → ∀ env S d S', m env S = some (d, S') → ∀ r σ H (Q : VK), At X r env S σ H → ValX X W r H d S' Q → TM X e σ H Q
def EndX (X : Cx) (W : WX) (r : List Addr) (H : Hp) (f : Flw) (env' : Env) (S' : Sto) (D : Ends) : Prop := match f with
 | .rt (.exc _ _ c ns xs) => XOk X W r H c ns xs S'
 | f => EndsOk X r H f env' S' D
theorem EndX.lat {X : Cx} {W : WX} {r r1 : List Addr} {H H1 : Hp} {f : Flw} {env' : Env} {S' : Sto} {D : Ends} (l : Lat r H r1 H1) (h : EndX X W r H f env' S' D) : EndX X W r1 H1 f env' S' D := by
 cases f with
 | rt d =>
  cases d with
  | exc a dx c ns xs => exact XOk.lat l h
  | _ => exact EndsOk.lat (env' := env') (f := .rt _) l h
 | nx => exact EndsOk.lat (env' := env') (f := .nx) l h
 | bk => exact EndsOk.lat (env' := env') (f := .bk) l h
 | ct => exact EndsOk.lat (env' := env') (f := .ct) l h
theorem EndX.ok {X : Cx} {W : WX} {r : List Addr} {H : Hp} {f : Flw} {env' : Env} {S' : Sto} {D : Ends} (h : EndX X W r H f env' S' D) (hf : ∀ d, f = .rt d → isX d = false) : EndsOk X r H f env' S' D := by
 cases f with
 | rt d =>
  cases d with
  | exc a dx c ns xs => cases hf _ rfl
  | _ => exact h
 | nx => exact h
 | bk => exact h
 | ct => exact h
structure CSsx (X : Cx) (st : List Stmt) (m : MS) : Prop where
 run : ∀ W, Takes X W → ∀ env S f env' S', m env S = some (f, env', S') → ∀ r σ H (D : Ends), At X r env S σ H → EndX X W r H f env' S' D → TMss X st D σ H
section
variable {X : Cx}
theorem csx_cons {st : Stmt} {rest : List Stmt} {a b : MS} (ha : CS X st a) (hb : CSsx X rest b) (q : ∀ env S f env' S', a env S = some (f, env', S') → f = .nx) : CSsx X (st :: rest) (mSeq a b) := by
 refine ⟨?_⟩
 intro W tk env S f env' S' h r σ H D A hq
 obtain ⟨⟨f1, env1, S1⟩, e1, h⟩ := Option.bind_eq_some_iff.mp h
 obtain rfl := q _ _ _ _ _ e1
 exact tmss_of (pss_cons ps_tm pss_tm) (ha env S .nx env1 S1 e1 r σ H _ A fun r1 σ1 H1 A1 l1 => hb.run W tk env1 S1 f env' S' h r1 σ1 H1 D A1 (hq.lat l1))
theorem csx_ret {e : Expr} {m : ME} {pos : Pos} {rest : List Stmt} (he : CEx X e m) : CSsx X [.Return (some e) pos] (mRet m) := by
 refine ⟨?_⟩
 intro W tk env S f env' S' h r σ H D A hq
 obtain ⟨⟨d, S1⟩, e1, h⟩ := Option.bind_eq_some_iff.mp h
 cases h
 refine tmss_of (pss_one (ps_ret pe_tm)) (he.run W tk env S d S1 e1 r σ H _ A ?_)
 cases d with
 | exc a dx c ns xs => exact hq
 | _ => exact fun r1 H1 v s1 l1 q1 => hq r1 H1 v s1 l1 q1
theorem csx_retE {e : Expr} {m : ME} {pos : Pos} (he : CE X e m) (q : ∀ env S d S', m env S = some (d, S') → isX d = false) : CSsx X [.Return (some e) pos] (mRet m) := by
 refine ⟨?_⟩
 intro W tk env S f env' S' h r σ H D A hq
 have hf : ∀ d, f = .rt d → isX d = false := by
  intro d hd
  obtain ⟨⟨d1, S1⟩, e1, h1⟩ := Option.bind_eq_some_iff.mp h
  cases h1
  cases hd
  exact q _ _ _ _ e1
 exact (cSs_one (cS_ret (pos := pos) he)).run env S f env' S' h r σ H D A (hq.ok hf)
end
end PL
end
section
namespace PL
open PySem PySem.Spec PyProof.Rows L2
variable [Tbl]
structure FnX (P : Program) (w : World) (K : PySem.W.Frag) (mg : Str → Option Value) (base : Heap) (k : Nat) (f : Addr) (fd : FuncData) (ps : List Str) (sp : Sp) : Prop where
 len : ∀ vs H Q E, sp vs H Q E → vs.length = ps.length
 run : ∀ (A : Around) (outer : List PySem.Env) (s : Shared) (H : Hp) (args : Args) (us : List Value) (vs : List V) (Q : VK) (E : XK), Room k A → A.guards = some [] →
  Env0 P w K mg base A outer s H → BindsTo s fd args (ps.zip us) → Vals vs us → sp vs H Q E → codeAny (model P w) A (.call (.ref f) args) (CR (L2.CX P w) outer P w H s Q E) s
def ValE (K : PySem.W.Frag) (mg : Str → Option Value) (r : List Addr) (H : Hp) (d : D) (S' : Sto) (Q : VK) (E : XK) : Prop := match d with
 | .exc _ _ c ns xs => ∀ r' H' C dx vs, mg c = some (.ref C) → Sim K mg r' S' H' → Lat r H r' H' → H' dx = some (.xd (ns.zip vs)) → RepL K mg r' H' xs vs → E (.ref C) (some dx) H'
 | d => ∀ r' H' v, Sim K mg r' S' H' → Lat r H r' H' → RepV K mg r' H' d v → Q v H'
def spE (K : PySem.W.Frag) (mg : Str → Option Value) (n : Nat) (m : MF) : Sp := fun vs H Q E => ∃ r S ds d S', ds.length = n ∧ Sim K mg r S H ∧ RepL K mg r H ds vs ∧ m ds S = some (d, S') ∧ ValE K mg r H d S' Q E
theorem ValE.lat {K : PySem.W.Frag} {mg : Str → Option Value} {r r1 : List Addr} {H H1 : Hp} {d : D} {S' : Sto} {Q : VK} {E : XK} (l : Lat r H r1 H1) (h : ValE K mg r H d S' Q E) : ValE K mg r1 H1 d S' Q E := by
 cases d with
 | exc a dx c ns xs => exact fun r' H' C dx vs a b d => h r' H' C dx vs a b (l.trans d)
 | _ => exact fun r' H' v a b c => h r' H' v a (l.trans b) c
section
variable {X : Cx}
theorem ValX.e {W : WX} {r : List Addr} {H : Hp} {d : D} {S' : Sto} {Q : VK} (σ : L2.St) (h : ValX X W r H d S' Q) : ValE X.K X.mg r H d S' Q fun cls dd H' => W cls dd σ H' := by
 cases d with
 | exc a dx c ns xs => exact fun r' H' C dx vs a b l e q => h r' σ H' C dx vs a b l e q
 | _ => exact h
theorem fnX_run {k : Nat} {f : Addr} {fd : FuncData} {ps : List Str} {sp : Sp} {pins : List (Addr × Obj)} {σ : L2.St} {H : Hp} {s : Shared} {Q : VK} {args : Args} {us : List Value} {vs : List V} {W : WX} {E : XK} (F : FnX X.prog X.w X.K X.mg X.base k f fd ps sp) (hr : Room k X.A) (hgd : X.A.guards = some [])
  (tk : Takes X W) (hW : ∀ cls d H', E cls d H' → W cls d σ H') (b1 : BindsTo s fd args (ps.zip us)) (I : Inv X pins σ H s) (rv : Vals vs us) (h : sp vs H Q E) : wpAny (model X.prog X.w) X.A (call (.ref f) args.pos args.kw) (EP X pins σ Q) X.xe s := by
 refine wpAny_call ?_
 refine codeAny_mono (F.run X.A X.stack s H args us vs Q E hr hgd I.env0 b1 rv h) ?_
 intro res s' got
 match res, got with
 | .error u, got => exact tk u s' (XE.of_call I hW got)
 | .ok (.ret _), got => exact I.after got
 | .ok .next, got => exact absurd got id
 | .ok .brk, got => exact absurd got id
 | .ok .cont, got => exact absurd got id
theorem cx_callD {x : Str} {p pos : Pos} {e : Expr} {es : List Expr} {a : MA} {k n N : Nat} {f : Addr} {fd : FuncData} {ps : List Str} {m : MF} {dD : List D} (F : FnX X.prog X.w X.K X.mg X.base k f fd ps (spE X.K X.mg N m)) (hr : Room k X.A) (hgd : X.A.guards = some [])
  (hk : PySem.W.keepIn X.K (.ref f) = true) (hb : KwDef X.K X.mg ps dD fd) (hN : n + dD.length = N) (hm : X.mg x = some (.ref f)) (ha : CA X (e :: es) a) (hg : Gl X x := by rfl) (hdb : (x == ("__debug__" : Str)) = false := by decide) (hs : nSs (e :: es) = true := by rfl) : CEx X (.Call (.Name x p) (e :: es) [] pos) (mCallD n dD m a) := by
 refine ⟨?_⟩
 intro W tk env S d S' h r σ H Q A hq
 obtain ⟨dV, hD, dvs, hd, hb⟩ := hb
 obtain ⟨⟨ds, S1⟩, e1, h⟩ := Option.bind_eq_some_iff.mp h
 split at h
 case isFalse => cases h
 rename_i hl
 intro pins s I
 refine wpAny_Call_Name_kw (ld_glob I hg hm ?_ hdb)
 have args := ha env S ds S1 e1 r σ H (fun vs H1 => spE X.K X.mg N m (vs ++ dV) H1 Q fun cls dd H' => W cls dd σ H') A fun r1 H1 vs s1 l1 q1 => ⟨r1, S1, ds ++ dD, d, S', by rw [List.length_append, hl, hN], s1, q1.append (hD r1 H1), h, (hq.lat l1).e σ⟩
 refine PySem.W.callWith_K (h₀ := X.base) I.ok.mod.kin hk (thn (args pos pins s I) ?_) (star_cons (nSs_cons hs).1) (star_plain (nSs_cons hs).2)
 rintro us s1 ⟨vs, H1, I1, rv, q⟩
 refine ⟨I1.kIn, ?_⟩
 have n1 : (us ++ dvs).length = ps.length := (rv.append hd).length.symm.trans (F.len _ _ _ _ q)
 exact fnX_run (args := ⟨us, []⟩) F hr hgd tk (fun _ _ _ z => z) (hb s1 us I1.kIn n1) I1 (rv.append hd) q
theorem kwDef_nil {K : PySem.W.Frag} {mg : Str → Option Value} {ps : List Str} {fd : FuncData} (h : Binds K fd ps []) : KwDef K mg ps [] fd := ⟨[], fun _ _ => .nil, [], .nil, h⟩
theorem cx_callKw {k n : Nat} {f : Addr} {fd : FuncData} {ps ks : List Str} {pm : List Nat} {m : MF} {x : Str} {p pos : Pos} {kws : List Keyword} {a : MA} (F : FnX X.prog X.w X.K X.mg X.base k f fd ps (spE X.K X.mg n m)) (hr : Room k X.A) (hgd : X.A.guards = some [])
  (hk : PySem.W.keepIn X.K (.ref f) = true) (hb : ∀ ws : List Value, ws.length = ks.length → bindArgs fd ⟨[], ks.zip ws⟩ = pure (ps.zip (pickL pm ws))) (hm : X.mg x = some (.ref f)) (ha : CKw X kws a) (hg : Gl X x := by rfl) (hdb : (x == ("__debug__" : Str)) = false := by decide)
  (hall : (backToKw pos (keywordEach kws X.env)).all (·.1.isSome) = true := by rfl) (hks : (backToKw pos (keywordEach kws X.env)).filterMap (·.1) = ks := by rfl)
  (hpl : ((backTo pos (starEach [] X.env)).any (·.1) || (backToKw pos (keywordEach kws X.env)).any (·.1.isNone)) = false := by rfl) : CEx X (.Call (.Name x p) [] kws pos) (mCallK n ks.length pm m a) := by
 refine ⟨?_⟩
 intro W tk env S d S' h r σ H Q A hq
 obtain ⟨⟨ds, S1⟩, e1, h⟩ := Option.bind_eq_some_iff.mp h
 split at h
 case isFalse => cases h
 rename_i hl
 intro pins s I
 refine wpAny_Call_Name_kw (ld_glob I hg hm ?_ hdb)
 have args := ha.run env S ds S1 e1 r σ H (fun vs H1 => vs.length = ks.length ∧ spE X.K X.mg n m (pickL pm vs) H1 Q fun cls dd H' => W cls dd σ H') A fun r1 H1 vs s1 l1 q1 =>
  ⟨q1.length.symm.trans hl.1, r1, S1, pickL pm ds, d, S', hl.2, s1, pickL_rep q1 pm, h, (hq.lat l1).e σ⟩
 refine PySem.W.callWith_KW0 (h₀ := X.base) I.ok.mod.kin hk hall (thn (args pos pins s I) ?_) hpl
 rintro us s1 ⟨vs, H1, I1, rv, hz, q⟩
 refine ⟨I1.kIn, ?_⟩
 rw [hks]
 have b1 : BindsTo s1 fd ⟨[], ks.zip us⟩ (ps.zip (pickL pm us)) := .of_eq (hb us (rv.length.symm.trans hz))
 exact fnX_run (args := ⟨[], ks.zip us⟩) F hr hgd tk (fun _ _ _ z => z) b1 I1 (pickL_vals rv pm) q
end
theorem fnX_none {P : Program} {w : World} {K : PySem.W.Frag} {mg : Str → Option Value} {base : Heap} {k n : Nat} {f : Addr} {fd : FuncData} {ps : List Str} : FnX P w K mg base k f fd ps (spE K mg n fun _ _ => none) :=
 ⟨fun _ _ _ _ ⟨_, _, _, _, _, _, _, _, z, _⟩ => (nomatch z), fun _ _ _ _ _ _ _ _ _ _ _ _ _ _ ⟨_, _, _, _, _, _, _, _, z, _⟩ => (nomatch z)⟩
end PL
end
section
namespace PL
open PySem PySem.Spec PyProof.Rows L2
variable [Tbl]
structure XC2 (K : PySem.W.Frag) (mg : Str → Option Value) (c f1 f2 : Str) (C fI : Addr) : Prop where
 gC : mg c = some (.ref C)
 T : OexC K C
 iC : PySem.W.findIn K (.ref C) "__init__" = some (some (.ref fI))
 tI : PySem.W.typeIn K (.ref fI) = some (.type "function")
 n1 : PySem.W.findIn K (.ref C) f1 = some none
 n2 : PySem.W.findIn K (.ref C) f2 = some none
def spI (C : Addr) (f1 f2 : Str) : Sp := fun vs H Q _ => ∃ (a : Addr) (x y : V), vs = [.ref a, x, y] ∧ H a = some (exo a C none) ∧ ∀ dx, H dx = none → Q .non (upd (upd (upd H dx (exd dx [(f1, x)])) a (exo a C (some dx))) dx (exd dx [(f2, y), (f1, x)]))
theorem init2_ok {P : Program} {w : World} {K : PySem.W.Frag} {mg : Str → Option Value} {base : Heap} {c f1 f2 qual s p1 p2 : Str} {C fI : Addr} {st : Stmt} {fd : FuncData} {k : Nat} {q1 q2 q3 q4 q5 q6 q7 q8 : Pos} (B : XC2 K mg c f1 f2 C fI) (F : Fun K "__init__" qual st fI fd) (S : FnScope [s, p1, p2] [s, p1, p2] (defScope st))
  (hb : defBody st = [.Assign [.Attribute (.Name s q1) f1 q2] (.Name p1 q3) q4, .Assign [.Attribute (.Name s q5) f2 q6] (.Name p2 q7) q8]) (v0 : Vis (defScope st) s) (v1 : Vis (defScope st) p1) (v2 : Vis (defScope st) p2)
  (d0 : (s == ("__debug__" : Str)) = false := by decide) (d1 : (p1 == ("__debug__" : Str)) = false := by decide) (d2 : (p2 == ("__debug__" : Str)) = false := by decide)
  (e0 : (s == ("__classdict__" : Str)) = false := by decide) (e1 : (p1 == ("__classdict__" : Str)) = false := by decide) (e2 : (p2 == ("__classdict__" : Str)) = false := by decide) :
  FnOk P w K mg base CX0 (k + 1) fI fd [s, p1, p2] (spI C f1 f2) := by
 refine Fun.ok F S (fun vs H Q E h => ?_) (fun cdv A outer st' H vs Q E hr h => ?_)
 ·obtain ⟨a, x, y, rfl, _⟩ := h
  rfl
 ·obtain ⟨a, x, y, rfl, ea, hq⟩ := h
  rw [hb]
  refine ⟨_, pss_cons (ps_ost (pe_var (i := 0) rfl v0 d0 e0) (pe_var (i := 1) rfl v1 d1 e1)) (pss_one (ps_ost (pe_var (i := 0) rfl v0 d0 e0) (pe_var (i := 2) rfl v2 d2 e2))), ?_⟩
  refine ⟨x, rfl, .ref a, rfl, a, C, rfl, B.T, B.n1, .inl ⟨ea, fun dx hd hne => ?_⟩⟩
  refine ⟨y, rfl, .ref a, rfl, a, C, rfl, B.T, B.n2, .inr ⟨dx, [(f1, x)], upd_same, ?_, by simp, hq dx hd⟩⟩
  rw [upd_ne hne, upd_same]
section
variable {X : Cx}
def mRaise (c : Str) (ns : List Str) (a : MA) : MS := fun env S => (a env S).bind fun p => if p.1.length = 2 then some (.rt (.exc 0 0 c ns p.1.reverse), env, p.2) else none
theorem csx_raise {c f1 f2 : Str} {C fI : Addr} {k : Nat} {fd : FuncData} {ps : List Str} {p pos pos2 : Pos} {e : Expr} {es : List Expr} {a : MA} {rest : List Stmt} (B : XC2 X.K X.mg c f1 f2 C fI) (F : FnOk X.prog X.w X.K X.mg X.base CX0 k fI fd ps (spI C f1 f2)) (hr : Room (k + 1) X.A) (hb : Binds X.K fd ps [])
  (hc : X.calm = true) (ha : CA X (e :: es) a) (hg : Gl X c := by rfl) (hdb : (c == ("__debug__" : Str)) = false := by decide) (hs : nSs (e :: es) = true := by rfl) :
  CSsx X [.Raise (some (.Call (.Name c p) (e :: es) [] pos)) none pos2] (mRaise c [f2, f1] a) := by
 refine ⟨?_⟩
 intro W tk env S f env' S' h r σ H D A hq
 obtain ⟨⟨ds, S1⟩, e1, h⟩ := Option.bind_eq_some_iff.mp h
 split at h
 case isFalse => cases h
 rename_i hl
 cases h
 have hx : Passes CX0 X (fun _ _ _ => False) := pass0
 refine tmss_of (pss_one (ps_raise hc tk (pmk_oex B.T B.iC B.tI F hr hb .nil hx hg B.gC pa_tm hdb (star_cons (nSs_cons hs).1) (star_plain (nSs_cons hs).2)))) ?_
 refine ha env S ds S1 e1 r σ H _ A fun r1 H1 vs s1 l1 q1 => ?_
 obtain ⟨x, y, rfl⟩ := len2_of hl
 obtain ⟨vx, vy, rfl, rx, ry⟩ := RepL.inv2 q1
 refine ⟨by simp, fun a0 ha0 => ⟨a0, vx, vy, by simp, upd_same, fun dx hdx => ?_⟩⟩
 have hne : dx ≠ a0 := fun z => by
  rw [z, upd_same] at hdx
  cases hdx
 have hd1 : H1 dx = none := by rwa [upd_ne hne] at hdx
 refine ⟨rfl, dx, [(f2, vy), (f1, vx)], ?_, upd_same, hd1, ?_⟩
 ·rw [upd_ne (Ne.symm hne), upd_same]
 ·have grow : ∀ b o, H1 b = some o → (upd (del (upd (upd (upd (upd H1 a0 (exo a0 C none)) dx (exd dx [(f1, vx)])) a0 (exo a0 C (some dx))) dx (exd dx [(f2, vy), (f1, vx)])) a0) dx (.xd [(f2, vy), (f1, vx)])) b = some o := fun b o eb => by
   have n1 : b ≠ dx := ne_of_none eb hd1
   have n2 : b ≠ a0 := ne_of_none eb ha0
   rw [upd_ne n1, del_ne n2, upd_ne n1, upd_ne n2, upd_ne n1, upd_ne n2]
   exact eb
  exact hq r1 _ _ C dx [vy, vx] B.gC (s1.ext grow) (l1.trans (lat_ext grow)) upd_same (.cons (ry.lat (lat_ext grow)) (.cons (rx.lat (lat_ext grow)) .nil))
theorem csx_if {c : Expr} {x : List Stmt} {rest : List Stmt} {mc : MT} {a b : MS} {pos : Pos} (hc : CT X c mc) (ha : CSsx X x a) (hb : CSsx X rest b) : CSsx X (.If c x [] pos :: rest) (mSeq (mIfS mc a mNext) b) := by
 refine ⟨?_⟩
 intro W tk env S f env' S' h r σ H D A hq
 obtain ⟨⟨f1, env1, S1⟩, e1, h⟩ := Option.bind_eq_some_iff.mp h
 obtain ⟨⟨k, S0⟩, e0, e1⟩ := Option.bind_eq_some_iff.mp e1
 refine tmss_of (pss_cons (ps_if pt_tm pss_tm pss_nil) pss_tm) (hc env S k S0 e0 r σ H _ A fun r1 H1 s1 l1 => ?_)
 cases k with
 | true =>
  have e1 : a env S0 = some (f1, env1, S1) := e1
  refine ha.run W tk env S0 f1 env1 S1 e1 r1 σ H1 _ (A.lat s1 l1) ?_
  have hq := hq.lat l1
  cases f1 with
  | nx => exact fun r2 σ2 H2 A2 l2 => hb.run W tk env1 S1 f env' S' h r2 σ2 H2 D A2 (hq.lat l2)
  | bk => cases h; exact hq
  | ct => cases h; exact hq
  | rt d => cases h; cases d <;> exact hq
 | false =>
  have e1 : some (Flw.nx, env, S0) = some (f1, env1, S1) := e1
  cases e1
  exact hb.run W tk _ _ f env' S' h r1 σ H1 D (A.lat s1 l1) (hq.lat l1)
end
theorem fnX_okD {P : Program} {w : World} {K : PySem.W.Frag} {mg : Str → Option Value} {base : Heap} {x qual : Str} {st : Stmt} {f : Addr} {fd : FuncData} {N ps : List Str} {k n : Nat} {b : MS} (F : Fun K x qual st f fd) (S : FnScope N ps (defScope st)) (hn : ps.length = n)
  (hb : ∀ (cdv : Value) (A : Around) (outer : List PySem.Env) (s : Shared) (H : Hp) (E : XK), Room k (A.deeper (envOfC qual (defScope st) s.heap.objs.size f cdv)) → A.guards = some [] → CSsx (cxOf (L2.CX P w) P w K mg base N qual (defScope st) f cdv A outer s H E) (defBody st) b) :
  FnX P w K mg base (k + 1) f fd ps (spE K mg n (mBody N.length b)) := by
 have lens : ∀ vs H Q E, spE K mg n (mBody N.length b) vs H Q E → vs.length = ps.length := by
  rintro vs H Q E ⟨r, S0, ds, d, S', hl, _, q, _⟩
  rw [← q.length, hl, hn]
 refine ⟨lens, ?_⟩
 intro A outer s H args us vs Q E hr hgd e0 hbd rv hsp
 obtain ⟨oc, od, kV, doc, pm, an, cdv, ct, osl, rfl, lk, hcd⟩ := F.ex
 have hl := lens _ _ _ _ hsp
 have KX : K.In s.heap := e0.mod.kin.keeps fun c o e => (e0.bs c o e).1
 have nolim : s.heap.NoLimit := e0.mod.nolimit.keeps fun c o e => (e0.bs c o e).1
 have kinds : ∀ y ∈ ps.zip us, (defScope st).names.lookup y.1 = some .local ∨ ((defScope st).names.lookup y.1 = some .cell ∧ ((cellsFrom (s.heap.objs.size + 1) (defScope st).names []).lookup y.1).isSome = true) := by
  rintro ⟨z, u⟩ hz
  exact (S.par z (List.of_mem_zip hz).1).imp id fun c => ⟨c, PySem.W.cellsFrom_some _ _ _ (.inl c)⟩
 refine codeAny_call_function hr.depth (KX f _ lk) rfl S.co S.gen rfl (PySem.W.codeRec_of KX hcd) (hbd _ _ _ _ ?_)
 refine wpAny_newFunctionEnv_cells S.kind kinds ?_
 rintro env rfl s1 ic
 refine ⟨nolim.keeps ic.toInCall.keep, codeAny_func ?_⟩
 have I := inv_start (CX := L2.CX P w) (E := E) (P := P) (w := w) (K := K) (mg := mg) (base := base) (cd := cdv) (qual := qual) S hr.hd e0 hl rv ic
 obtain ⟨r, S0, ds, d, S', _, s0, q, h, hq⟩ := hsp
 obtain ⟨⟨fl, env', S1⟩, e1, h⟩ := Option.bind_eq_some_iff.mp h
 have tk : Takes (cxOf (L2.CX P w) P w K mg base N qual (defScope st) f cdv A outer s H E) (fun cls dd _ H' => E cls dd H') := takes_of rfl rfl rfl rfl
 have body : TMss (cxOf (L2.CX P w) P w K mg base N qual (defScope st) f cdv A outer s H E) (defBody st) { nx := fun _ H' => Q .non H', rt := Q } (L2.start N vs) H := by
  refine (hb cdv A outer s H E (hr.deeper _) hgd).run _ tk _ S0 fl env' S1 e1 r _ H _ ⟨s0, startE_ok N q⟩ ?_
  match fl, h with
  | .nx, h => cases h; exact fun r' σ' H' A' l' => hq r' H' .non A'.sim l' .non
  | .rt d1, h =>
   cases h
   cases d with
   | exc a dx c ns xs => exact fun r' σ' H' C dx vs a b l e q => hq r' H' C dx vs a b l e q
   | _ => exact fun r' H' v s' l' q' => hq r' H' v s' l' q'
  | .bk, h => cases h
  | .ct, h => cases h
 refine wpAny_mono ((pss_tm (X := cxOf (L2.CX P w) P w K mg base N qual (defScope st) f cdv A outer s H E) (st := defBody st)).run [] s1 (L2.start N vs) H { nx := fun _ H' => Q .non H', rt := Q } I body) ?_ fun _ _ z => z
 ·intro fl s' got
  match fl, got with
  | .ret u, ⟨v, σ', H', J, rv', q'⟩ => exact ⟨v, H', J.os, J.bare, J.base, J.hok, rv', q'⟩
  | .next, ⟨σ', H', J, q'⟩ => exact ⟨V.non, H', J.os, J.bare, J.base, J.hok, (rfl : RelV V.non Value.none), q'⟩
  | .brk, ⟨_, _, _, q'⟩ => exact absurd q' id
  | .cont, ⟨_, _, _, q'⟩ => exact absurd q' id
end PL
end
section
namespace PL
open PySem PySem.Spec PyProof.Rows L2
variable [Tbl]
def isOne (su : Str → Str → Option Bool) (st : Str → String → Option Bool) (c : Str) : D → Option Bool
 | .fn y => su c y
 | .ty T => st c T
 | _ => none
def isAny (su : Str → Str → Option Bool) (st : Str → String → Option Bool) (c : Str) : List D → Option Bool
 | [] => some false
 | d :: ds => match isOne su st c d with
  | some true => some true
  | some false => isAny su st c ds
  | none => none
def gIsE (su : Str → Str → Option Bool) (st : Str → String → Option Bool) (a dd : Addr) (c : Str) : List D → Sto → R
 | [.exc a' d' _ _ _, .tup ds], S => if a' = a ∧ d' = dd then (isAny su st c ds).map fun b => (.bl b, S) else none
 | [.exc a' d' _ _ _, d], S => if a' = a ∧ d' = dd then (isOne su st c d).map fun b => (.bl b, S) else none
 | _, _ => none
def rIsX (K : PySem.W.Frag) (C a dd : Addr) : List V → Hp → VK → Prop := fun xs H Q => (∃ fs, H dd = some (.xd fs)) ∧ ∃ b : Bool, ((∃ c : V, xs = [.ref a, c] ∧ ∀ u, RelV c u → PySem.W.kitOne K (.ref C) u = some b) ∨
 (∃ (t : Addr) (cs : List V), xs = [.ref a, .ref t] ∧ H t = some (.tup cs) ∧ ∀ us, Vals cs us → PySem.W.kitAny K (.ref C) us = some b)) ∧ Q (.bl b) H
section
variable {X : Cx} {a C dd : Addr} {oe : Obj} {pn : List (Addr × Obj)}
theorem callR_isX (B : ExcC X.K C) (hz : Zc (.ref C) (some dd) oe) (hf : ∃ vs, oe.data = .fields vs) : CallR (X.suite a ((a, oe) :: pn)) (.builtin "isinstance") (rIsX X.K C a dd) := by
 intro pins s σ H xs us Q I rv h
 obtain ⟨⟨fs, ed⟩, b, h, q⟩ := h
 obtain ⟨hget, _⟩ := I.pin (a, oe) (List.mem_append_left _ List.mem_cons_self)
 obtain ⟨vs, hv⟩ := hf
 have hx : ObjOk X.prog X.w H s.heap dd (.xd fs) := I.hok dd _ ed
 obtain ⟨mA, hns, _⟩ := hx
 obtain ⟨od, ho, _⟩ := lookIn_ns hns
 have J : PySem.W.InstAt s.heap a oe C (some od) := ⟨hget, hz.1, by unfold PySem.W.notCls; rw [hv] <;> rfl, by rw [hz.2]; exact ho⟩
 have hcl : (PySem.W.clsIn X.K C).isSome = true := by
  obtain ⟨cd, hc, _⟩ := PySem.W.any_some B.hd
  rw [hc]
  rfl
 have Z := PySem.W.kitx_exc (x := a) (ox := oe) (od := some od) hcl B.hg B.hk B.hs B.ha B.hn B.ht B.hm
 rcases h with ⟨c, rfl, hcv⟩ | ⟨t, cs, rfl, et, hcv⟩
 ·cases rv with
  | cons r1 r2 =>
   cases r2 with
   | cons r2 r3 =>
    cases r3
    cases r1
    exact PySem.W.kia_one Z I.kIn J (hcv _ r2) (fun z => nomatch z) fun tk => ⟨.bl b, H, I.kept (t' := tk) fun _ _ z => z, rfl, q⟩
 ·cases rv with
  | cons r1 r2 =>
   cases r2 with
   | cons r2 r3 =>
    cases r3
    cases r1
    cases r2
    obtain ⟨_, its, hi, ht⟩ := (I.hok t _ et : ObjOk X.prog X.w H s.heap t (.tup cs))
    obtain ⟨⟨oc, od', odt, osl⟩, ho', hc', n, hd'⟩ := ht
    dsimp only at hc' hd'
    subst hc'
    subst hd'
    exact PySem.W.kia_tup Z I.kIn J ho' (hcv _ hi) (fun z => nomatch z) fun tk => ⟨.bl b, H, I.kept (t' := tk) fun _ _ z => z, rfl, q⟩
end
structure SubT (K : PySem.W.Frag) (mg : Str → Option Value) (su : Str → Str → Option Bool) (st : Str → String → Option Bool) (c : Str) (C : Addr) : Prop where
 su : ∀ y b, su c y = some b → ∀ f, mg y = some (.ref f) → PySem.W.kitOne K (.ref C) (.ref f) = some b
 st : ∀ T b, st c T = some b → PySem.W.kitOne K (.ref C) (.type T) = some b
theorem isOne_ok {K : PySem.W.Frag} {mg : Str → Option Value} {su : Str → Str → Option Bool} {st : Str → String → Option Bool} {c : Str} {C : Addr} (B : SubT K mg su st c C) {r : List Addr} {H : Hp} {d : D} {v : V} {b : Bool} (q : RepV K mg r H d v) (h : isOne su st c d = some b) :
  ∀ u, RelV v u → PySem.W.kitOne K (.ref C) u = some b := by
 intro u ru
 cases d with
 | fn y =>
  cases q with
  | fn hm =>
   cases (ru : u = _)
   exact B.su y b h _ hm
 | ty T =>
  cases q
  cases (ru : u = _)
  exact B.st T b h
 | _ => cases h
theorem isAny_ok {K : PySem.W.Frag} {mg : Str → Option Value} {su : Str → Str → Option Bool} {st : Str → String → Option Bool} {c : Str} {C : Addr} (B : SubT K mg su st c C) {r : List Addr} {H : Hp} : ∀ {ds : List D} {vs : List V} {b : Bool}, RepL K mg r H ds vs → isAny su st c ds = some b →
  ∀ us, Vals vs us → PySem.W.kitAny K (.ref C) us = some b
 | [], _, b, .nil, h => fun us z => by cases z; exact h
 | d :: ds, v :: vs, b, .cons q t, h => fun us z => by
  cases z with
  | cons z1 z2 =>
   unfold isAny at h
   cases g : isOne su st c d with
   | none => rw [g] at h; cases h
   | some k =>
    rw [g] at h
    have h2 := isOne_ok B q g _ z1
    unfold PySem.W.kitAny
    rw [h2]
    cases k with
    | true => exact h
    | false => exact isAny_ok B t h _ z2
theorem callS_isE {X : Cx} {a C dd : Addr} {oe : Obj} {pn : List (Addr × Obj)} {su : Str → Str → Option Bool} {st : Str → String → Option Bool} {c : Str} (B : SubT X.K X.mg su st c C) : CallS (X.suite a ((a, oe) :: pn)) (rIsX X.K C a dd) (gIsE su st a dd c) := by
 intro xs S d S' e r H vs Q s q hq
 have ok : ∀ (b : Bool), d = .bl b → S' = S → Q (.bl b) H := fun b e1 e2 => by
  subst e1
  subst e2
  exact hq r H _ s .refl (.bl _)
 unfold gIsE at e
 split at e
 ·split at e
  case isFalse => cases e
  rename_i hh
  obtain ⟨rfl, rfl⟩ := hh
  obtain ⟨b, e1, e2⟩ := Option.map_eq_some_iff.mp e
  cases e2
  cases q with
  | cons q1 q2 =>
   cases q2 with
   | cons q2 q3 =>
    cases q3
    cases q1 with
    | exc hx _ =>
     cases q2 with
     | tup ht hl => exact ⟨⟨_, hx⟩, b, .inr ⟨_, _, rfl, ht, isAny_ok B hl e1⟩, ok b rfl rfl⟩
 ·split at e
  case isFalse => cases e
  rename_i hh
  obtain ⟨rfl, rfl⟩ := hh
  obtain ⟨b, e1, e2⟩ := Option.map_eq_some_iff.mp e
  cases e2
  cases q with
  | cons q1 q2 =>
   cases q2 with
   | cons q2 q3 =>
    cases q3
    cases q1 with
    | exc hx _ => exact ⟨⟨_, hx⟩, b, .inl ⟨_, rfl, isOne_ok B q2 e1⟩, ok b rfl rfl⟩
 ·cases e
def mFldE (a dd : Addr) (f : Str) (m : ME) : ME := fun env S => (m env S).bind fun p => match p.1 with
 | .exc a' d' _ ns xs => if a' = a ∧ d' = dd then ((ns.zip xs).lookup f).map fun d => (d, p.2) else none
 | _ => none
theorem rep_zip {K : PySem.W.Frag} {mg : Str → Option Value} {r : List Addr} {H : Hp} {f : Str} {d : D} : ∀ {ns : List Str} {xs : List D} {vs : List V}, RepL K mg r H xs vs → (ns.zip xs).lookup f = some d → ∃ v, (ns.zip vs).lookup f = some v ∧ RepV K mg r H d v
 | [], _, _, _, h => by cases h
 | n :: ns, _, _, .nil, h => by cases h
 | n :: ns, x :: xs, v :: vs, .cons q t, h => by
  rw [List.zip_cons_cons, List.lookup_cons] at h ⊢
  cases g : f == n with
  | true =>
   rw [g] at h
   cases h
   exact ⟨v, rfl, q⟩
  | false =>
   rw [g] at h
   exact rep_zip t h
theorem cE_fldE {X : Cx} {a C dd : Addr} {oe : Obj} {pn : List (Addr × Obj)} {e : Expr} {m : ME} {f : Str} {pos : Pos} (T : XfC X.K C) (hno : PySem.W.findIn X.K (.ref C) f = some none) (hz : Zc (.ref C) (some dd) oe) (hf : ∃ vs, oe.data = .fields vs) (he : CE (X.suite a ((a, oe) :: pn)) e m)
  (hb : attributeBase e f X.env (eval e X.env) = eval e X.env := by rfl) : CE (X.suite a ((a, oe) :: pn)) (.Attribute e f pos) (mFldE a dd f m) := by
 refine ⟨?_⟩
 intro env S d S' h0 r σ H Q A hq
 obtain ⟨⟨x, S1⟩, e1, h⟩ := Option.bind_eq_some_iff.mp h0
 clear h0
 dsimp only at h
 split at h
 case h_2 => cases h
 rename_i a' d' c ns xs
 split at h
 case isFalse => cases h
 rename_i hh
 obtain ⟨y, e2, e3⟩ := Option.map_eq_some_iff.mp h
 cases e3
 obtain ⟨rfl, rfl⟩ := hh
 refine tm_of (pe_xf T hno hz hf pe_tm hb) (he env S _ _ e1 r σ H _ A fun r1 H1 v s1 l1 q1 => ?_)
 cases q1 with
 | exc hx hl =>
  obtain ⟨w, l, q⟩ := rep_zip hl e2
  exact ⟨rfl, rfl, _, _, w, rfl, hx, l, hq r1 H1 w s1 l1 q⟩
end PL
end
section
set_option maxHeartbeats 1000000
namespace PL
open PySem PySem.Spec PyProof.Rows L2
variable [Tbl]
section
variable {K : PySem.W.Frag} {mg : Str → Option Value}
theorem lat_extN {r : List Addr} {H H' : Hp} (g : LamX.ExtN H H') : Lat r H r H' :=
 ⟨fun b f e => g b _ e (fun _ z => nomatch z), fun _ _ h => h, fun b xs e => g b _ e (fun _ z => nomatch z), fun b o u e => g b _ e (fun _ z => nomatch z), fun b f e => g b _ e (fun _ z => nomatch z)⟩
theorem Sim.extN {r : List Addr} {S : Sto} {H H' : Hp} (h : Sim K mg r S H) (g : LamX.ExtN H H') (t : LamX.Tabs Tbl.T H') : Sim K mg r S H' := by
 refine ⟨t, h.len, h.nd, fun n o a e1 e2 => ?_⟩
 have q := h.ob n o a e1 e2
 have L : Lat r H r H' := lat_extN g
 have go : ∀ u : HO, H a = some u → (∀ ps, u ≠ .tbl ps) → H' a = H a := fun u e n => (g a u e n).trans e.symm
 cases o with
 | cst xs => obtain ⟨ws, e, z⟩ := q; exact ⟨ws, e.lat L, z.lat L⟩
 | lst xs => obtain ⟨ws, e, _⟩ := id q; exact q.lat L (go _ e fun _ z => nomatch z)
 | dK xs => obtain ⟨ws, e, _⟩ := id q; exact q.lat L (go _ e fun _ z => nomatch z)
 | dT xs => obtain ⟨ws, e, _⟩ := id q; exact q.lat L (go _ e fun _ z => nomatch z)
 | lkK xs => obtain ⟨od, ws, e, _⟩ := id q; exact q.lat L (go _ e fun _ z => nomatch z)
 | ins c xs => obtain ⟨C, dx, ws, y, e, _⟩ := id q; exact q.lat L (go _ e fun _ z => nomatch z)
end
section
variable {X : Cx}
abbrev zCx (X : Cx) (Ng : List Str) (x : Str) (sg : Scope) (g : Addr) (cdg : Value) (s : Shared) (H : Hp) : Cx := cxOf C8.CX0 X.prog X.w X.K X.mg X.base Ng x sg g cdg X.A X.stack s H C8.E0
structure LamAt (X : Cx) (params : Arguments) (body : Expr) (scope : Scope) (f c' : Addr) (H : Hp) (s : Shared) : Prop where
 obj : ∃ pm ctv : Value, s.heap.get? f = some (PySem.W.kla_obj "<lambda>" (X.env.qual ++ "<lambda>") params body scope (cloFrom X.env.cells scope.names []) pm c' ctv)
 non : H f = none
 nof : f ∉ frs X.stack
 code : H c' = some (LamX.CodeO c' (X.env.qual ++ "<lambda>"))
structure LamB (X : Cx) (k : Nat) (scope : Scope) (body : Expr) (m : ME) : Prop where
 run : ∀ (A : Around) (outer : List PySem.Env) (s : Shared) (H : Hp) (E : XK) (f c' : Addr), Room k (A.deeper (LamX.lamEnv X scope s.heap.objs.size f c')) → A.guards = some [] → CEx (LamX.lamCx X A outer s H E scope f c') body m
theorem act_ok {pins : List (Addr × Obj)} {σ : L2.St} {H : Hp} {s : Shared} {Ng : List Str} {x a : Str} {sg : Scope} {g f c' : Addr} {cdg : Value} {params : Arguments} {body : Expr} {scope : Scope} {m : ME} {k i : Nat} {pn : List (Addr × Obj)} {xe : Value → Shared → Prop} {W : WX} {p1 p2 : Pos}
  (I : Inv X pins σ H s) (L : LamX.LamS X.env.scope scope) (F : LamAt X params body scope f c' H s) (hbind : ∀ (q : Str) (cl : List (Str × Addr)) (pm cv ctv : Value), bindArgs (PySem.W.kla_fn "<lambda>" q params body scope cl pm cv ctv) ⟨[], []⟩ = pure [])
  (tk : Takes ((zCx X Ng x sg g cdg s H).tr pn xe) W) (hr : Room (k + 1) (X.A.deeper (envOfC x sg s.heap.objs.size g cdg))) (hgd : X.A.guards = some []) (hB : LamB X k scope body m)
  (hN : Ng[i]? = some a) (hv : Vis sg a) (hd : (a == ("__debug__" : Str)) = false) (hcd : (a == ("__classdict__" : Str)) = false) :
  PE ((zCx X Ng x sg g cdg s H).tr pn xe) (.Call (.Name a p1) [] [] p2) (fun σZ HZ Q => σZ[i]? = some (some (.ref f)) ∧ HZ c' = some (LamX.CodeO c' (X.env.qual ++ "<lambda>")) ∧
   ∃ (r : List Addr) (env : Env) (S : Sto) (d : D) (S' : Sto), Sim X.K X.mg r S HZ ∧ REnv X.K X.mg r HZ env σ ∧ m env S = some (d, S') ∧ ValE X.K X.mg r HZ d S' Q fun cls dd H' => W cls dd σZ H') := by
 refine ⟨fun pz sz τ HZ Q J h => ?_⟩
 obtain ⟨hs, hco, r, env, S, d, S', sim, ren, hm, hval⟩ := h
 obtain ⟨pm, ctv, hobj⟩ := F.obj
 refine wpAny_Call_Name_kw (thn ((pe_var (pos := p1) (i := i) hN hv hd hcd).run pz sz τ HZ (fun v G => v = V.ref f ∧ G = HZ) J ⟨_, hs, rfl, rfl⟩) ?_)
 rintro u sy ⟨v, G, Jy, ru, ev, eG⟩
 subst ev
 subst eG
 have ru' : u = Value.ref f := ru
 subst ru'
 have objY := Jy.base.keep f _ hobj F.non F.nof fun z => (nomatch (show f ∈ ([] : List Addr) from z))
 refine PySem.W.callWith_F0 ⟨_, _, _, _, objY⟩ ?_
 have ground : Un (frs X.stack) [] H G s.heap sy.heap := Jy.base
 obtain ⟨⟨oc, fl, t, c1, c2, c3⟩, _⟩ := Jy.hok c' _ hco
 refine wpAny_call (codeAny_mono (R := CR (L2.CX X.prog X.w) (envOfC x sg s.heap.objs.size g cdg :: X.stack) X.prog X.w G sy Q fun cls dd H' => W cls dd τ H') ?_ ?_)
 ·refine PySem.W.kla_callFunE hr.depth objY rfl L.co L.gen rfl ⟨c', oc, fl, t, rfl, c1, c2, c3⟩ ?_
  rw [List.append_nil, hbind]
  refine wpAny_pure (wpAny_newFunctionEnv (fun y hy => (L.own y hy).2) (fun y hy => absurd hy (by simp)) (fun hp hns hsb => ?_) L.kind)
  refine ⟨Jy.nolimit.fresh _ hsb, ?_⟩
  have grow : ∀ b o, sy.heap.get? b = some o → hp.get? b = some o := fun b o e => hsb.extBut b o (Nat.ne_of_lt (Heap.lt_size e)) (Heap.get?_push_of_some _ e)
  have enter := LamX.lam_start2 (f := f) (c' := c') (tk := sy.toks + 0) (E := fun cls dd H' => W cls dd τ H') I L Jy.env0 hr.hd ground hns grow
  have tkL : Takes (LamX.lamCx X (X.A.deeper (envOfC x sg s.heap.objs.size g cdg)) (envOfC x sg s.heap.objs.size g cdg :: X.stack) sy G (fun cls dd H' => W cls dd τ H') scope f c') (fun cls dd _ H' => W cls dd τ H') := takes_of rfl rfl rfl rfl
  refine PySem.W.kla_codeExpr (wpAny_mono ((hB.run (X.A.deeper (envOfC x sg s.heap.objs.size g cdg)) (envOfC x sg s.heap.objs.size g cdg :: X.stack) sy G (fun cls dd H' => W cls dd τ H') f c' (hr.deeper _) hgd).run _ tkL env S d S' hm r σ G Q ⟨sim, ren⟩ ?_ [] _ enter) ?_ fun _ _ z => z)
  ·cases d with
   | exc e1 e2 c ns xs => exact fun r' σ' H' C dx vs y1 y2 y3 y4 y5 => hval r' H' C dx vs y1 y2 y3 y4 y5
   | _ => exact hval
  ·rintro v s' ⟨w, H', I', rw', q⟩
   exact ⟨w, H', I'.os, I'.bare, I'.base, I'.hok, rw', q⟩
 ·intro res s' got
  match res, got with
  | .error u, got => exact tk u s' (XE.of_call Jy (fun _ _ _ z => z) got)
  | .ok (.ret _), got => exact Jy.after got
  | .ok .next, got => exact False.elim got
  | .ok .brk, got => exact False.elim got
  | .ok .cont, got => exact False.elim got
end
end PL
end
section
set_option maxHeartbeats 1000000
namespace PL
open PySem PySem.Spec PyProof.Rows L2
variable [Tbl]
structure TabX (X : Cx) (c P : Addr) : Prop where
 tb : LamX.TabB X.base X.mg c P
 code : X.env.code = .ref c
 mem : (P, X.env.qual ++ ("<lambda>" : Str)) ∈ Tbl.T
 uni : ∀ p ∈ Tbl.T, p.1 = P → p.2 = X.env.qual ++ ("<lambda>" : Str)
def envSd (n : Nat) (odd : Str) (a dd : Addr) (c : Str) (ns : List Str) (xs : List D) : Env := ((List.replicate n none).set 1 (some (.tup [.str odd]))).set 2 (some (.exc a dd c ns xs))
def mSaid (told : Str) (hd : Str → List Str → List D → Sto → Option (D × Sto)) (m : ME) : ME := fun env S => (m env S).bind fun p => match p.1 with
 | .exc _ _ c ns xs => hd c ns xs p.2
 | d => some (.tup [.str told, d], p.2)
theorem rEnv_none {K : PySem.W.Frag} {mg : Str → Option Value} {r : List Addr} {H : Hp} {n : Nat} {σ : L2.St} (h : σ.length = n) : REnv K mg r H (List.replicate n none) σ :=
 ⟨by rw [List.length_replicate]; exact h, fun i d e => by
  rw [List.getElem?_replicate] at e
  split at e <;> cases e⟩
theorem start_len {N : List Str} {v : V} (h : 0 < N.length) : (L2.start N [v]).length = N.length := by
 simp [L2.start]
 omega
section
variable {X : Cx}
theorem cE_said {x a y eb en told odd : Str} {Ng : List Str} {st b0 : Stmt} {suite : List Stmt} {g CT c P : Addr} {fd : FuncData} {params : Arguments} {body : Expr} {scope : Scope} {m : ME} {k : Nat} {hd : Str → List Str → List D → Sto → Option (D × Sto)} {ms : Addr → Addr → Str → MS} {okc : Str → Prop}
  {q1 q2 q3 q4 q5 q6 q7 q8 q9 p1 p2 np ph pt pr p lpos pos : Pos} {j1 j2 : Nat} {x1 x2} (Dd : DefAt X.K X.mg x st [a] g fd) (Sg : FnScope Ng [a] (defScope st))
  (hbd : defBody st = [.Assign [.Name y q1] (.Tuple [.Constant (.str odd) j1 q2] x1 q3) q4, .Try [.Assign [.Name y q5] (.Tuple [.Constant (.str told) j2 q6, .Call (.Name a p1) [] [] p2] x2 q7) q8] [.ExceptHandler (some (.Name eb np)) (some en) (b0 :: suite) ph] [] [] pt, .Return (some (.Name y q9)) pr])
  (hr : Room (k + 2) X.A) (hgd : X.A.guards = some []) (hT : TabX X c P) (L : LamX.LamS X.env.scope scope) (hdef : defaultsOf params X.env = ([], []))
  (hbind : ∀ (q : Str) (cl : List (Str × Addr)) (pm cv ctv : Value), bindArgs (PySem.W.kla_fn "<lambda>" q params body scope cl pm cv ctv) ⟨[], []⟩ = pure []) (hB : LamB X k scope body m)
  (n0 : Ng[0]? = some a) (n1 : Ng[1]? = some y) (n2 : Ng[2]? = some en) (va : Vis (defScope st) a) (ly : (defScope st).names.lookup y = some .local) (le : (defScope st).names.lookup en = some .local)
  (ge : (defScope st).names.lookup eb = some .globalImplicit) (me : X.mg eb = some (.ref CT))
  (hS : ∀ c C, okc c → X.mg c = some (.ref C) → PySem.W.exmOne X.K (.ref C) (.ref CT) = some true ∧ ∀ cdg s H a dd oe pn, Room (k + 1) (X.A.deeper (envOfC x (defScope st) s.heap.objs.size g cdg)) → Zc (.ref C) (some dd) oe → (∃ vs, oe.data = .fields vs) →
   CSs ((zCx X Ng x (defScope st) g cdg s H).suite a ((a, oe) :: pn)) (b0 :: suite) (ms a dd c))
  (hh : ∀ c ns xs S d S', hd c ns xs S = some (d, S') → okc c ∧ ∀ a dd, ∃ env', ms a dd c (envSd Ng.length odd a dd c ns xs) S = some (.nx, env', S') ∧ env'[1]? = some (some d))
  (hg : Gl X x := by rfl) (hdb : (x == ("__debug__" : Str)) = false := by decide) (d1 : (a == ("__debug__" : Str)) = false := by decide) (d2 : (a == ("__classdict__" : Str)) = false := by decide) (d3 : (y == ("__debug__" : Str)) = false := by decide) (d4 : (y == ("__classdict__" : Str)) = false := by decide)
  (d5 : (eb == ("__debug__" : Str)) = false := by decide) :
  CE X (.Call (.Name x p) [.Lambda params body scope lpos] [] pos) (mSaid told hd m) := by
 refine ⟨?_⟩
 intro env S d S' h r σ H Q A hq pins s I
 obtain ⟨⟨d0, S1⟩, e0, h⟩ := Option.bind_eq_some_iff.mp h
 obtain ⟨oc, od, kV, doc, pm, an, cdv, ct, osl, rfl, lk, hcd⟩ := Dd.fn.ex
 refine wpAny_Call_Name_kw (ld_glob I hg Dd.mg ?_ hdb)
 refine PySem.W.callWith_K (h₀ := X.base) I.ok.mod.kin Dd.fn.kp ?_ (by rfl) (by rfl)
 show wpAny _ _ (spliced ((false, eval (.Lambda params body scope lpos) X.env) :: backTo pos (starEach [] X.env))) _ _ s
 refine Calls.spliced_cons (LamX.lam_make2 (T := Tbl.T) I hT.tb hT.code hT.mem hT.uni A.sim.tb hdef (L.has I.ok) ?_)
 intro f c' pm' ctv H1 s' I1 eN T1 hf hfn hfr hco
 refine Calls.spliced_nil ⟨I1.kIn, ?_⟩
 have F : LamAt X params body scope f c' H1 s' := ⟨⟨_, _, hf⟩, hfn, hfr, hco⟩
 have LN : Lat r H r H1 := lat_extN eN
 have sim1 := A.sim.extN eN T1
 have ren1 := A.env.lat LN
 have rc : codeAny (model X.prog X.w) X.A (.call (.ref g) ⟨[.ref f], []⟩) (CR C8.CX0 X.stack X.prog X.w H1 s' Q C8.E0) s' := by
  refine LamX.run_ofS (N := Ng) (ps := [a]) (us := [.ref f]) (vs := [.ref f]) lk hcd Sg hr I1.env0 (Dd.bi s' [.ref f] I1.kIn rfl) (.cons rfl .nil) rfl fun hr' => ⟨TMss (zCx X Ng x (defScope st) g cdv s' H1) (defBody st), pss_tm, ?_⟩
  rw [hbd]
  have ly' : L2.Loc (zCx X Ng x (defScope st) g cdv s' H1).env.scope y := .inl ly
  have vy : Vis (zCx X Ng x (defScope st) g cdv s' H1).env.scope y := .inl ly
  refine tmss_of (pss_cons (ps_set (i := 1) Sg.nd n1 ly' (pe_tup (pa_cons pe_str pa_nil))) (pss_cons (ps_try_as (i := 2) (c := .ref CT) rfl rfl Sg.nd n2 le ⟨ge, d5, .inl me⟩ LamX.takes0 (fun W pn xe tk _ => pss_one (ps_set (i := 1) Sg.nd n1 ly' (pe_tup (pa_cons pe_str (pa_cons (act_ok (i := 0) I1 L F hbind tk hr' hgd hB n0 va d1 d2) pa_nil)))))
   (ts := fun a cls dd D σ H => ∀ (oe : Obj) (pn : List (Addr × Obj)), Zc cls dd oe → (∃ vs, oe.data = .fields vs) → TMss ((zCx X Ng x (defScope st) g cdv s' H1).suite a ((a, oe) :: pn)) (b0 :: suite) D σ H) (fun a oe cls dd pn hz hf => ⟨fun pins s σ H D I h => h oe pn hz hf pins s I⟩)) (pss_one (ps_ret (pe_var (i := 1) n1 vy d3 d4))))) ?_
  have s2 : 2 ≤ sizeLine := by decide
  have hlen : 3 ≤ Ng.length := by
   have := (List.getElem?_eq_some_iff.mp n2).1
   omega
  have z0 : (L2.start Ng [V.ref f]).length = Ng.length := start_len (by omega)
  have zf : (L2.start Ng [V.ref f])[0]? = some (some (V.ref f)) := rfl
  have s1' : 1 ≤ sizeLine := by decide
  refine ⟨s1', fun t1 nt1 => ?_⟩
  have simT := sim1.tup (vs := [.str odd]) nt1
  have LT : Lat r H1 r (upd H1 t1 (.tup [.str odd])) := lat_tup nt1
  have rd : RepV X.K X.mg r (upd H1 t1 (.tup [.str odd])) (.tup [.str odd]) (.ref t1) := .tup upd_same (.cons (.str _) .nil)
  show ((L2.start Ng [V.ref f]).set 1 (some (V.ref t1)))[0]? = some (some (V.ref f)) ∧ _
  refine ⟨by rw [List.getElem?_set_ne (by decide)]; exact zf, (upd_ne (ne_of_none hco nt1)).trans hco, r, env, S, d0, S1, simT, ren1.lat LT, e0, ?_⟩
  have keepQ := hq
  cases d0 with
  | exc e1 e2 cx ns xs =>
   intro r' H' C dx vs hC sm lt hx rl
   have h : hd cx ns xs S1 = some (d, S') := h
   obtain ⟨ok, hms⟩ := hh cx ns xs S1 d S' h
   obtain ⟨env', hm', hv'⟩ := hms 0 0
   obtain ⟨hex, hsu⟩ := hS cx C ok hC
   refine ⟨true, hex, fun _ ae na oe pn hz hfl => ?_, fun z => nomatch z⟩
   obtain ⟨env', hm', hv'⟩ := hms ae dx
   have renE : REnv X.K X.mg r' H' (envSd Ng.length odd ae dx cx ns xs) (((L2.start Ng [V.ref f]).set 1 (some (V.ref t1))).set 2 (some (V.ref ae))) :=
    ((rEnv_none z0).set (rd.lat lt)).set (.exc hx rl)
   refine (hsu cdv s' H1 ae dx oe pn hr' hz hfl).run _ S1 .nx env' S' hm' r' _ H' _ ⟨sm, renE⟩ fun r4 σ4 H4 A4 l4 => ?_
   obtain ⟨v, hv, rv⟩ := A4.env.at_ 1 d hv'
   exact ⟨v, by rw [List.getElem?_set_ne (by decide)]; exact hv, keepQ r4 H4 v A4.sim (((LN.trans LT).trans lt).trans l4) rv⟩
  | _ =>
   intro r' H' v sm lt rv
   cases h
   refine ⟨s2, fun t2 nt2 => ?_⟩
   refine ⟨.ref t2, ?_, ?_⟩
   ·rw [List.getElem?_set_self (by rw [List.length_set, z0]; omega)]
   ·exact keepQ r' _ _ (sm.tup nt2) (((LN.trans LT).trans lt).trans (lat_tup nt2)) (.tup upd_same (.cons (.str _) (.cons (rv.lat (lat_tup nt2)) .nil)))
 refine wpAny_call (codeAny_mono rc ?_)
 intro res s2 got
 match res, got with
 | .error _, got => exact False.elim got
 | .ok (.ret _), got => exact I1.after got
 | .ok .next, got => exact False.elim got
 | .ok .brk, got => exact False.elim got
 | .ok .cont, got => exact False.elim got
end
end PL
end
section
set_option maxHeartbeats 1000000
namespace PL
open PySem PySem.Spec PyProof.Rows L2
def scrT (a : Addr) (o : Obj) (ns : List Int) (own : Bool) (ts : List Addr) : Hp := fun b => if b = a then (if own = true then some (.frz o (.lst (ns.map V.int))) else none) else if b ∈ ts then some (.tbl #[]) else none
theorem law_endT {l : PySem.W.OpenLaw} {n k : Nat} {q : Program} {loose : List Str} {XP : (Str → Option Value) → Heap → Prop} {YP : World → Heap → Prop} {d : DefRec} {K : Params → PySem.W.Frag} {m : MF} {x : Str}
  (hn : l.most = some n) (hn2 : n ≤ sizeLine) (hdf : d.params.defaults = []) (hr : Room k callerA) (hY : ∀ (w : World) (h : Heap), YP w h → (K w.params).In h)
  (F : ∀ (w : World) (mg : Str → Option Value) (fa : Addr) (h : Heap), YP w h → (K w.params).In h → h.Ns mainGlobals mg → mg d.name = some (.ref fa) → ∃ (t : Tbl) (cs : List (Str × Addr × Addr)) (fd : FuncData), (∀ p ∈ t.T, ∃ u ∈ cs, u.2.2 = p.1) ∧
   (∀ p ∈ cs, PySem.W.tabIn (K w.params) p.1 = some p.2 ∧ ((recsOf q).find? fun e => e.name == p.1).isSome = true ∧ (K w.params).lookup p.2.2 = none) ∧ Binds (K w.params) fd [x] [] ∧
   ∀ base : Heap, (K w.params).In base → base.Ns mainGlobals mg → (∀ p ∈ cs, LamX.TabB base mg p.2.1 p.2.2) → FnG l.prog w (K w.params) mg base k fa fd [x] (@spM t (K w.params) mg 1 m))
  (hm : ∀ ns : List Int, ns.length ≤ n → ∃ S', m [.ref 0] [.cst (ns.map D.int)] = some (.bl true, S')) :
  PySem.W.WalkO q loose XP YP l.row.toRowW d [] (fun f vs => PySem.call f vs) := by
 refine Att.attach_call hn hdf ?_
 intro w s0 s1 mg mb fa o pm cd doc a vs ns G Y ho hd hcd hmg hobj hints hlen hgens
 have KX := hY w _ Y
 obtain ⟨t, cs0, fd, hTs0, hC0, hbind, hF⟩ := F w mg fa _ Y KX G.T.g hmg
 have both : ∀ p ∈ cs0, PySem.W.CodeHd s1.heap p.2.1 p.2.2 ∧ s1.heap.get? p.2.2 = some { cls := .none, data := .fields #[] } := fun p hp => by
  obtain ⟨z1, z2, _⟩ := hC0 p hp
  obtain ⟨d', z2⟩ := Option.isSome_iff_exists.mp z2
  exact PySem.W.tab_of G.T KX z2 (z1.trans (by obtain ⟨y, c, P⟩ := p; rfl))
 obtain ⟨cs, hcs⟩ : ∃ cs : List (Addr × Addr), cs = cs0.map (·.2) := ⟨_, rfl⟩
 have of : ∀ p ∈ cs, ∃ u ∈ cs0, u.2 = p := fun p hp => by
  rw [hcs] at hp
  obtain ⟨u, hu, e⟩ := List.mem_map.mp hp
  exact ⟨u, hu, e⟩
 have hTs : ∀ p ∈ t.T, p.1 ∈ cs.map (·.2) := fun p hp => by
  obtain ⟨u, hu, e⟩ := hTs0 p hp
  rw [hcs, List.map_map]
  exact List.mem_map.mpr ⟨u, hu, e⟩
 have hT0 : ∀ p ∈ cs, s1.heap.get? p.2 = some { cls := .none, data := .fields #[] } := fun p hp => by
  obtain ⟨u, hu, rfl⟩ := of p hp
  exact (both u hu).2
 have hTC : ∀ p ∈ cs, PySem.W.CodeHd s1.heap p.1 p.2 := fun p hp => by
  obtain ⟨u, hu, rfl⟩ := of p hp
  exact (both u hu).1
 have hTK : ∀ p ∈ cs, (K w.params).lookup p.2 = none := fun p hp => by
  obtain ⟨u, hu, rfl⟩ := of p hp
  exact (hC0 u hu).2.2
 have rv : Vals (ns.map V.int) vs := vals_ints hints
 have lz : ns.length ≤ sizeLine := Nat.le_trans hlen hn2
 have args : BindsTo s1 fd ⟨[.ref a], []⟩ ([x].zip [.ref a]) := by
  have z := hbind s1 [.ref a] KX rfl
  rwa [List.append_nil] at z
 obtain ⟨S', eS⟩ := hm ns hlen
 have tabO : ∀ b, b ∈ cs.map (·.2) → s1.heap.get? b = some { cls := .none, data := .fields #[] } := fun b hb => by
  obtain ⟨p, hp, rfl⟩ := List.mem_map.mp hb
  exact hT0 p hp
 have tabK : ∀ b, b ∈ cs.map (·.2) → (K w.params).lookup b = none := fun b hb => by
  obtain ⟨p, hp, rfl⟩ := List.mem_map.mp hb
  exact hTK p hp
 have aT : a ∉ cs.map (·.2) := fun hb => by
  have z := (tabO a hb).symm.trans hobj
  cases z
 -- the run, from a heap in which the script and the tables may be tracked
 have go : ∀ own : Bool, CstAt (K w.params) (scrT a { cls := .type "list", data := .seq vs.toArray } ns own (cs.map (·.2))) a (ns.map V.int) → (own = true → (K w.params).lookup a = none) →
   codeAny (model l.prog w) callerA (.call (.ref fa) ⟨[.ref a], []⟩) (fun r s' => r = .ok (.ret (.bool true)) ∧ OldK s1.heap s'.heap ∧ s'.os = s1.os ∧ AllBare s'.gens) s1 := by
  intro own hS noK
  generalize eH : scrT a { cls := .type "list", data := .seq vs.toArray } ns own (cs.map (·.2)) = H at hS
  have only : ∀ b, H b = none ∨ (b = a ∧ own = true ∧ H b = some (.frz { cls := .type "list", data := .seq vs.toArray } (.lst (ns.map V.int)))) ∨ (b ∈ cs.map (·.2) ∧ H b = some (.tbl #[])) := fun b => by
   rw [← eH]
   unfold scrT
   by_cases hb : b = a
   ·rw [if_pos hb]
    cases own with
    | true => exact .inr (.inl ⟨hb, rfl, rfl⟩)
    | false => exact .inl rfl
   ·rw [if_neg hb]
    by_cases ht : b ∈ cs.map (·.2)
    ·exact .inr (.inr ⟨ht, if_pos ht⟩)
    ·exact .inl (if_neg ht)
  have tabH : ∀ b, b ∈ cs.map (·.2) → H b = some (.tbl #[]) := fun b hb => by
   rw [← eH]
   unfold scrT
   rw [if_neg (fun z => aT (by rw [← z]; exact hb)), if_pos hb]
  have off : ∀ b ob, s1.heap.get? b = some ob → (∀ xs c, ob.data ≠ .seq xs c) → ob.data ≠ .fields #[] → H b = none := by
   intro b ob e ne nf
   rcases only b with z | ⟨rfl, _, _⟩ | ⟨hb, _⟩
   ·exact z
   ·rw [hobj] at e
    cases e
    exact absurd rfl (ne _ _)
   ·rw [tabO b hb] at e
    cases e
    exact absurd rfl nf
  have nsT : ∀ {b : Addr} {mm : Str → Option Value}, s1.heap.Ns b mm → (hidT s1.heap H).Ns b mm := by
   rintro b mm ⟨ob, es, ep, e, dd, rest⟩
   exact ⟨ob, es, ep, hidT_get e (off b ob e (fun _ _ z => by rw [dd] at z; cases z) fun z => by rw [dd] at z; cases z), dd, rest⟩
  have KT : (K w.params).In (hidT s1.heap H) := by
   intro b ob e
   refine hidT_get (KX b ob e) ?_
   rcases only b with z | ⟨rfl, z, _⟩ | ⟨hb, _⟩
   ·exact z
   ·rw [noK z] at e
    cases e
   ·rw [tabK b hb] at e
    cases e
  have MT : Mod (K w.params) mg (hidT s1.heap H) := ⟨KT, nsT G.T.g, ⟨mb, nsT G.T.b, G.T.builtins⟩, let ⟨mc, c1, c2⟩ := G.T.nolimit; ⟨mc, nsT c1, c2⟩⟩
  have okH : HOk l.prog w H s1.heap := by
   intro b u e
   rcases only b with z | ⟨rfl, _, z⟩ | ⟨hb, z⟩
   ·rw [z] at e
    cases e
   ·rw [z] at e
    cases e
    exact ⟨hobj, by rw [List.length_map]; exact lz, vs, _, rv, hobj⟩
   ·rw [z] at e
    cases e
    exact tabO b hb
  have TB : ∀ p ∈ cs, LamX.TabB (hidT s1.heap H) mg p.1 p.2 := fun p hp => by
   have here := hT0 p hp
   refine ⟨?_, ?_, fun z => ?_⟩
   ·obtain ⟨o1, us, file, tf, flags, tg, inF, text, tt, c0, c1, c2, c3, rest⟩ := hTC p hp
    refine ⟨o1, us, file, tf, flags, tg, inF, text, tt, hidT_get c0 (off _ _ c0 (fun _ _ z => by rw [c2] at z; cases z) fun z => ?_), c1, c2, c3, rest⟩
    rw [c2] at z
    cases z
    simp at c3
   ·obtain ⟨bm, ob, b1, b2, b3, b4, b5, b6⟩ := G.T.bmain
    have nG : bm ≠ mainGlobals := fun z => by
     obtain ⟨o2, es, ep, e, hdd, _⟩ := G.T.g
     rw [z, e] at b3
     cases b3
     rw [hdd] at b6
     cases b6
    have nP : bm ≠ p.2 := fun z => by
     rw [z, here] at b3
     cases b3
     cases b6
    exact ⟨bm, ob, b1, b2, nG, nP, hidT_get b3 (off _ _ b3 (fun _ _ z => by rw [b6] at z; cases z) fun z => by rw [b6] at z; cases z), b4, b5, b6⟩
   ·obtain ⟨o2, es, ep, e, hdd, _⟩ := G.T.g
    rw [z, here] at e
    cases e
    cases hdd
  have E1 : Env0 l.prog w (K w.params) mg (hidT s1.heap H) callerA [] s1 H := ⟨rfl, MT, fun _ _ e => of_hidT e, Nat.le_of_eq (hidT_size _ _), trivial, fun _ z => (nomatch z), okH, .of_eq hgens⟩
  have sim : @Sim (K w.params) mg t [a] [.cst (ns.map D.int)] H := by
   refine ⟨fun p hp => LamX.TabS.nil (tabH p.1 (hTs p hp)), rfl, fun i j b u v e1 e2 e3 e4 m1 m2 => ?_, fun i u b e1 e2 => ?_⟩
   ·match i, e3 with
    | 0, e3 => cases e3; cases m1
   ·match i, e1, e2 with
    | 0, e1, e2 =>
     cases e1
     cases e2
     exact ⟨ns.map V.int, hS, repInts ns⟩
  have prom : @spM t (K w.params) mg 1 m [.ref a] H (fun v _ => v = .bl true) E0 := by
   refine ⟨[a], _, [.ref 0], .bl true, S', rfl, sim, .cons (.ref rfl) .nil, eS, fun r' H' v _ _ z => ?_⟩
   cases z
   rfl
  refine codeAny_mono ((hF _ KT (nsT G.T.g) fun p hp => TB p.2 (by rw [hcs]; exact List.mem_map.mpr ⟨p, hp, rfl⟩)).run callerA [] s1 H ⟨[.ref a], []⟩ [.ref a] [.ref a] _ E0 hr rfl E1 args (.cons rfl .nil) prom) ?_
  intro res s' got
  match res, got with
  | .error _, got => exact absurd got id
  | .ok .next, got => exact absurd got id
  | .ok .brk, got => exact absurd got id
  | .ok .cont, got => exact absurd got id
  | .ok (.ret u), ⟨v, H', os, bare, un, okH', ru, ev⟩ =>
   have ev' : v = .bl true := ev
   subst ev'
   have eu : u = Value.bool true := ru
   subst eu
   have key : ∀ b ob, b ∉ cs.map (·.2) → s1.heap.get? b = some ob → s'.heap.get? b = some ob := fun b ob nb e => by
    rcases only b with z | ⟨rfl, _, z⟩ | ⟨hb, _⟩
    ·exact un.keep b ob e z (fun c => nomatch c) (fun c => nomatch c)
    ·rw [hobj] at e
     cases e
     exact (okH' b _ (un.frzs b _ _ z)).1
    ·exact absurd hb nb
   have more : ∀ b, b ∈ cs.map (·.2) → ∃ xs : Array Value, s'.heap.get? b = some { cls := .none, data := .fields xs } := fun b hb => by
    obtain ⟨xs, z⟩ := un.tbls b #[] (tabH b hb)
    exact ⟨_, okH' b _ z⟩
   refine ⟨rfl, ⟨fun b ob e => ?_, fun b ob e => ?_⟩, os, bare⟩
   ·by_cases hb : b ∈ cs.map (·.2)
    ·obtain ⟨xs, z⟩ := more b hb
     obtain ⟨p, hp, rfl⟩ := List.mem_map.mp hb
     rw [hT0 p hp] at e
     cases e
     refine .inr (.inl ⟨((hTC p hp).tab (hT0 p hp)).isCodeTable, rfl, #[], xs, rfl, ?_⟩)
     rw [Array.empty_append]
     exact z
    ·exact .inl (key b ob hb e)
   ·by_cases hb : b ∈ cs.map (·.2)
    ·obtain ⟨xs, z⟩ := more b hb
     exact ⟨_, z⟩
    ·exact ⟨ob, key b ob hb e⟩
 match hk : (K w.params).lookup a with
 | some ob =>
  have e := KX a ob hk
  rw [hobj] at e
  cases e
  exact go false (.inr ⟨_, vs.toArray, _, hk, rfl, rfl, rfl, by rw [List.size_toArray, hints.length]; exact lz, rv⟩) fun z => nomatch z
 | none => exact go true (.inl ⟨{ cls := .type "list", data := .seq vs.toArray }, by unfold scrT; rw [if_pos rfl]; rfl⟩) fun _ => hk
end PL
end
section
namespace PL
open PySem PySem.Spec PyProof.Rows L2
variable [Tbl]
section
variable {X : Cx}
def eqB (k : Bool) : Value → Bool
 | .bool b => b == k
 | _ => false
def rCntB (K : PySem.W.Frag) : V → List V → Hp → VK → Prop := fun x xs H Q => ∃ (p : Addr) (bs : List Bool) (k : Bool), x = .ref p ∧ xs = [.bl k] ∧ SqL K H p (bs.map V.bl) ∧ Q (.int (bs.count k : Nat)) H
theorem eqB_count {k : Bool} : ∀ {bs : List Bool} {us : List Value}, Vals (bs.map V.bl) us → us.countP (eqB k) = bs.count k ∧ ∀ y ∈ us, ∃ b, y = Value.bool b
 | [], _, .nil => ⟨rfl, fun y hy => by cases hy⟩
 | b :: bs, u :: us, .cons r t => by
  obtain ⟨h1, h2⟩ := eqB_count (k := k) t
  have hu : u = Value.bool b := r
  subst hu
  refine ⟨?_, fun y hy => ?_⟩
  ·rw [List.countP_cons, List.count_cons, h1]
   rfl
  ·rcases List.mem_cons.mp hy with e | e
   ·exact ⟨b, e⟩
   ·exact h2 y e
theorem mt_countB : MtR X "list.count" (rCntB X.K) := by
 intro pins s σ H x xs v us Q I rx rxs h
 obtain ⟨p, bs, k, rfl, rfl, hs, q⟩ := h
 cases rx
 obtain ⟨u, rfl, ru⟩ := rxs.one
 have ru' : u = Value.bool k := ru
 subst ru'
 obtain ⟨its, vals, ⟨⟨oc, od, odt, osl⟩, n, at_, c1, c2, c3⟩, _⟩ := I.list hs
 dsimp only at c1 c3
 subst c1
 subst c3
 obtain ⟨e1, e2⟩ := eqB_count (k := k) vals
 have each : ∀ y, y ∈ its.toArray → SeqAt.EqAt X.A.in1 s y (.bool k) (eqB k y) := fun y hy => by
  obtain ⟨b, rfl⟩ := e2 y (by simpa using hy)
  exact SeqAt.EqAt.bool_bool b k
 refine call_meets PySem.F.slot_list_count ⟨_, at_, rfl⟩ PySem.F.entry_list_count (PySem.F.args_list_count_2 _ _) (SeqAt.list_countAt p its.toArray n od osl (.bool k) (eqB k)) ⟨at_, each, ?_⟩
 have e3 : its.toArray.toList.countP (eqB k) = bs.count k := e1
 refine ⟨.int (bs.count k : Nat), H, I.tok _, ⟨s.toks, ?_⟩, q⟩
 rw [e3]
def gCountB : D → List D → Sto → R
 | .ref n, [.bl k], S => (seqAt n S).bind fun xs => (blsOf xs).map fun bs => (.int (bs.count k : Nat), S)
 | _, _, _ => none
theorem bls_vals {r : List Addr} {H : Hp} : ∀ {xs : List D} {vs : List V} {bs : List Bool}, RepL X.K X.mg r H xs vs → blsOf xs = some bs → vs = bs.map V.bl
 | [], _, _, .nil, h => by cases h; rfl
 | x :: xs, _, bs, .cons q t, h => by
  cases x <;> first | (simp only [blsOf] at h; done) | skip
  all_goals try (simp [blsOf] at h; done)
  rename_i b
  simp only [blsOf] at h
  obtain ⟨cs, e1, e2⟩ := Option.map_eq_some_iff.mp h
  subst e2
  cases q
  rw [bls_vals t e1]
  rfl
theorem mtS_countB {T : String} : MtS X T (rCntB X.K) gCountB := by
 intro x xs S d S' e r H u vs Q s q1 q2 hq
 unfold gCountB at e
 split at e
 case h_2 => cases e
 obtain ⟨ys, e2, e⟩ := Option.bind_eq_some_iff.mp e
 obtain ⟨bs, e3, e⟩ := Option.map_eq_some_iff.mp e
 cases e
 cases q1 with
 | ref ea =>
  cases q2 with
  | cons z z2 =>
   cases z2
   cases z
   obtain ⟨vs', h1, l⟩ := rep_list s ea e2
   have := bls_vals l e3
   subst this
   exact ⟨_, bs, _, rfl, rfl, h1, hq r H _ s .refl (.int _)⟩
end
structure FunL (K : PySem.W.Frag) (x qual : Str) (st : Stmt) (f : Addr) (fd : FuncData) (c : Addr) : Prop where
 ex : ∃ (oc : Value) (od : Option Addr) (kV doc pm : Value) (an : Option Addr) (ct : Value) (osl : Array (Option Value)),
  fd = PySem.W.fnOf x qual (defArgs st) (defBody st) (defScope st) .none kV doc pm an (.ref c) ct ∧ K.lookup f = some ⟨oc, od, .func fd, osl⟩ ∧ PySem.W.codeIn K (.ref c) qual = true
theorem fnG_okL {P : Program} {w : World} {K : PySem.W.Frag} {mg : Str → Option Value} {base : Heap} {x qual : Str} {st : Stmt} {f c : Addr} {fd : FuncData} {N ps : List Str} {k n : Nat} {b : MS} (F : FunL K x qual st f fd c) (S : FnScope N ps (defScope st)) (hn : ps.length = n)
  (hb : ∀ (A : Around) (outer : List PySem.Env) (s : Shared) (H : Hp) (E : XK), Room k (A.deeper (envOfC qual (defScope st) s.heap.objs.size f (.ref c))) → A.guards = some [] → CSs (cxOf CX0 P w K mg base N qual (defScope st) f (.ref c) A outer s H E).nox (defBody st) b) :
  FnG P w K mg base (k + 1) f fd ps (spM K mg n (mBody N.length b)) := by
 have lens : ∀ vs H Q E, spM K mg n (mBody N.length b) vs H Q E → vs.length = ps.length := by
  rintro vs H Q E ⟨r, S0, ds, d, S', hl, _, q, _⟩
  rw [← q.length, hl, hn]
 refine ⟨lens, ?_⟩
 intro A outer s H args us vs Q E hr hgd e0 hbd rv hsp
 obtain ⟨oc, od, kV, doc, pm, an, ct, osl, rfl, lk, hcd⟩ := F.ex
 have hl := lens _ _ _ _ hsp
 have KX : K.In s.heap := e0.mod.kin.keeps fun c o e => (e0.bs c o e).1
 have nolim : s.heap.NoLimit := e0.mod.nolimit.keeps fun c o e => (e0.bs c o e).1
 have kinds : ∀ y ∈ ps.zip us, (defScope st).names.lookup y.1 = some .local ∨ ((defScope st).names.lookup y.1 = some .cell ∧ ((cellsFrom (s.heap.objs.size + 1) (defScope st).names []).lookup y.1).isSome = true) := by
  rintro ⟨z, u⟩ hz
  exact (S.par z (List.of_mem_zip hz).1).imp id fun c => ⟨c, PySem.W.cellsFrom_some _ _ _ (.inl c)⟩
 refine codeAny_call_function hr.depth (KX f _ lk) rfl S.co S.gen rfl (PySem.W.codeRec_of KX hcd) (hbd _ _ _ _ ?_)
 refine wpAny_newFunctionEnv_cells S.kind kinds ?_
 rintro env rfl s1 ic
 refine ⟨nolim.keeps ic.toInCall.keep, codeAny_func ?_⟩
 have I := inv_start (CX := CX0) (E := E) (P := P) (w := w) (K := K) (mg := mg) (base := base) (cd := .ref c) (qual := qual) S hr.hd e0 hl rv ic
 obtain ⟨r, S0, ds, d, S', _, s0, q, h, hq⟩ := hsp
 obtain ⟨⟨fl, env', S1⟩, e1, h⟩ := Option.bind_eq_some_iff.mp h
 have body : TMss (cxOf CX0 P w K mg base N qual (defScope st) f (.ref c) A outer s H E).nox (defBody st) { nx := fun _ H' => Q .non H', rt := Q } (L2.start N vs) H := by
  refine hb A outer s H E (hr.deeper _) hgd _ S0 fl env' S1 e1 r _ H _ ⟨s0, startE_ok N q⟩ ?_
  match fl, h with
  | .nx, h => cases h; exact fun r' σ' H' A' l' => hq r' H' .non A'.sim l' .non
  | .rt d1, h => cases h; exact fun r' H' v s' l' q' => hq r' H' v s' l' q'
  | .bk, h => cases h
  | .ct, h => cases h
 refine wpAny_mono ((pss_tm (X := cxOf CX0 P w K mg base N qual (defScope st) f (.ref c) A outer s H E) (st := defBody st)).run [] s1 (L2.start N vs) H { nx := fun _ H' => Q .non H', rt := Q } I ?_) ?_ fun _ _ z => z
 ·exact fun pins s' I' => (PSs.nox (X := cxOf CX0 P w K mg base N qual (defScope st) f (.ref c) A outer s H E) (pss_tm (st := defBody st))).run pins s' _ _ _ I' body
 ·intro fl s' got
  match fl, got with
  | .ret u, ⟨v, σ', H', J, rv', q'⟩ => exact ⟨v, H', J.os, J.bare, J.base, J.hok, rv', q'⟩
  | .next, ⟨σ', H', J, q'⟩ => exact ⟨V.non, H', J.os, J.bare, J.base, J.hok, (rfl : RelV V.non Value.none), q'⟩
  | .brk, ⟨_, _, _, q'⟩ => exact absurd q' id
  | .cont, ⟨_, _, _, q'⟩ => exact absurd q' id
theorem RoomM.mono {j k : Nat} {A : Around} (r : RoomM k A) (h : j ≤ k) : RoomM j A := ⟨r.hd, by have := r.dp; omega, by have := r.un; omega⟩
end PL
end
section
set_option maxHeartbeats 1000000
namespace PL
open PySem PySem.Spec PyProof.Rows L2
variable [Tbl]
section
variable {P : Program} {w : World}
end
end PL
end
section
set_option maxHeartbeats 1000000
namespace PL
open PySem PySem.Spec PyProof.Rows L2
variable [Tbl]
section
variable {X : Cx}
end
end PL
end
section
set_option maxHeartbeats 1000000
namespace PL
open PySem PySem.Spec PyProof.Rows L2
variable [Tbl]
section
variable {X : Cx}
def mNoX (m : ME) : ME := fun env S => (m env S).bind fun p => if isX p.1 = true then none else some p
theorem mNoX_q (m : ME) : ∀ env S d S', mNoX m env S = some (d, S') → isX d = false := by
 intro env S d S' h
 obtain ⟨⟨d1, S1⟩, e1, h⟩ := Option.bind_eq_some_iff.mp h
 split at h
 ·cases h
 ·rename_i hx
  cases h
  exact Bool.not_eq_true _ ▸ hx
theorem kNoX {e : Expr} {m : ME} (he : CE X e m) : CE X e (mNoX m) := by
 refine ⟨?_⟩
 intro env S d S' h
 obtain ⟨⟨d1, S1⟩, e1, h⟩ := Option.bind_eq_some_iff.mp h
 split at h
 ·cases h
 ·cases h
  exact he env S d S' e1
theorem kRetX {e : Expr} {m : ME} {pos : Pos} (he : CE X e m) : CSsx X [.Return (some e) pos] (mRet (mNoX m)) := csx_retE (kNoX he) (mNoX_q m)
def isNx : Flw → Bool
 | .nx => true
 | _ => false
def mNx (a : MS) : MS := fun env S => (a env S).bind fun p => if isNx p.1 = true then some p else none
theorem mNx_q (a : MS) : ∀ env S f env' S', mNx a env S = some (f, env', S') → f = .nx := by
 intro env S f env' S' h
 obtain ⟨⟨f1, e1, S1⟩, e2, h⟩ := Option.bind_eq_some_iff.mp h
 split at h
 ·rename_i hx
  cases h
  cases f <;> first | rfl | cases hx
 ·cases h
theorem kConsX {st : Stmt} {rest : List Stmt} {a b : MS} (ha : CS X st a) (hb : CSsx X rest b) : CSsx X (st :: rest) (mSeq (mNx a) b) := by
 refine csx_cons ⟨?_⟩ hb (mNx_q a)
 intro env S f env' S' h
 obtain ⟨⟨f1, e1, S1⟩, e2, h⟩ := Option.bind_eq_some_iff.mp h
 split at h
 ·cases h
  exact ha env S f env' S' e2
 ·cases h
theorem kLam {k : Nat} {scope : Scope} {body : Expr} {m : ME} (h : ∀ (A : Around) (outer : List PySem.Env) (s : Shared) (H : Hp) (E : XK) (f c' : Addr), Room k (A.deeper (LamX.lamEnv X scope s.heap.objs.size f c')) → A.guards = some [] → CEx (LamX.lamCx X A outer s H E scope f c') body m) : LamB X k scope body m := ⟨h⟩
theorem kRaise {c f1 f2 s p1 p2 qual : Str} {C fI : Addr} {st : Stmt} {k : Nat} {fd : FuncData} {p pos pos2 : Pos} {e : Expr} {es : List Expr} {a : MA} {q1 q2 q3 q4 q5 q6 q7 q8 : Pos} (B : XC2 X.K X.mg c f1 f2 C fI) (F : MetAt X.K "__init__" qual st [s, p1, p2] fI fd) (S : FnScope [s, p1, p2] [s, p1, p2] (defScope st))
  (hb : defBody st = [.Assign [.Attribute (.Name s q1) f1 q2] (.Name p1 q3) q4, .Assign [.Attribute (.Name s q5) f2 q6] (.Name p2 q7) q8]) (v0 : Vis (defScope st) s) (v1 : Vis (defScope st) p1) (v2 : Vis (defScope st) p2) (hr : Room (k + 2) X.A)
  (hc : X.calm = true) (ha : CA X (e :: es) a) (hg : Gl X c := by rfl) (hdb : (c == ("__debug__" : Str)) = false := by decide) (hs : nSs (e :: es) = true := by rfl)
  (d0 : (s == ("__debug__" : Str)) = false := by decide) (d1 : (p1 == ("__debug__" : Str)) = false := by decide) (d2 : (p2 == ("__debug__" : Str)) = false := by decide)
  (e0 : (s == ("__classdict__" : Str)) = false := by decide) (e1 : (p1 == ("__classdict__" : Str)) = false := by decide) (e2 : (p2 == ("__classdict__" : Str)) = false := by decide) :
  CSsx X [.Raise (some (.Call (.Name c p) (e :: es) [] pos)) none pos2] (mRaise c [f2, f1] a) :=
 csx_raise (k := 1) (rest := []) B (init2_ok (k := 0) B F.fn S hb v0 v1 v2 d0 d1 d2 e0 e1 e2) (hr.mono (by omega)) F.bi hc ha hg hdb hs
end
end PL
end
section
namespace PL
open PySem PySem.Spec PyProof.Rows L2
structure XKit (K : PySem.W.Frag) (mg : Str → Option Value) (su : Str → Str → Option Bool) (st : Str → String → Option Bool) (fl : List Str) (c : Str) (C CT : Addr) : Prop where
 gC : mg c = some (.ref C)
 xf : XfC K C
 ex : ExcC K C
 sb : SubT K mg su st c C
 nf : ∀ x ∈ fl, PySem.W.findIn K (.ref C) x = some none
 em : PySem.W.exmOne K (.ref C) (.ref CT) = some true
theorem kConst [Tbl] {X : Cx} {x : Str} {v : V} {d : D} {pos : Pos} (h : ∃ u, X.mg x = some u ∧ RelV v u) (q : ∀ r H, RepV X.K X.mg r H d v) (hg : Gl X x := by rfl) (hd : (x == ("__debug__" : Str)) = false := by decide) : CE X (.Name x pos) (mC d) := by
 obtain ⟨u, hm, rv⟩ := h
 exact cE_glob hg hm rv q hd
theorem suite_un {X : Cx} {a : Addr} {pn : List (Addr × Obj)} {k : Nat} (hr : Room k X.A) : (X.suite a pn).A.units + 70 < cLine := by
 have h := hr.un
 have e : (X.suite a pn).A.units = X.A.units := by
  first | rfl | simp [Around.mark, Around.units]
 rw [e]
 omega
end PL
end
section
namespace PL
open PySem PySem.Spec PyProof.Rows L2
section
variable {K : PySem.W.Frag}
theorem kitOne_same {t : Value} : PySem.W.kitOne K t t = some true := by
 unfold PySem.W.kitOne
 rw [if_pos (beq_self_eq_true t)]
theorem kitCls_ref {t : Value} {C : Addr} {b : Bool} {cd} (h1 : PySem.W.clsIn K C = some cd) (h2 : PySem.W.typeIn K (.ref C) = some (.type "type")) (h3 : PySem.W.subIn K t (.ref C) = some b) : PySem.W.kitCls K t (.ref C) = some b := by
 have e : ((PySem.W.clsIn K C).isSome && PySem.W.typeIn K (.ref C) == some (.type "type")) = true := by
  rw [h1, h2]
  rfl
 show (if ((PySem.W.clsIn K C).isSome && PySem.W.typeIn K (.ref C) == some (.type "type")) = true then PySem.W.subIn K t (.ref C) else none) = some b
 rw [if_pos e, h3]
theorem kitOne_ref {t C : Addr} {b : Bool} {cd} (ne : t ≠ C) (h1 : PySem.W.clsIn K C = some cd) (h2 : PySem.W.typeIn K (.ref C) = some (.type "type")) (h3 : PySem.W.subIn K (.ref t) (.ref C) = some b) : PySem.W.kitOne K (.ref t) (.ref C) = some b := by
 unfold PySem.W.kitOne
 rw [if_neg (fun z => ne (Value.ref.inj (eq_of_beq z))), kitCls_ref h1 h2 h3]
theorem kitOne_ty {t : Addr} {T : String} {b : Bool} (hm : PySem.W.kitMeta T = true) (h3 : PySem.W.subIn K (.ref t) (.type T) = some b) : PySem.W.kitOne K (.ref t) (.type T) = some b := by
 unfold PySem.W.kitOne
 have ne : ¬ (Value.ref t == Value.type T) = true := fun z => by
  have z' := eq_of_beq z
  cases z'
 rw [if_neg ne]
 show (if PySem.W.kitMeta T = true then PySem.W.subIn K (.ref t) (.type T) else none) = some b
 rw [if_pos hm, h3]
theorem exmOne_ref {t : Value} {C : Addr} {b : Bool} {cd} (h0 : PySem.W.subIn K (.ref C) (.type "BaseException") = some true) (h1 : PySem.W.clsIn K C = some cd) (h2 : PySem.W.typeIn K (.ref C) = some (.type "type")) (h3 : PySem.W.subIn K t (.ref C) = some b) : PySem.W.exmOne K t (.ref C) = some b := by
 unfold PySem.W.exmOne
 rw [if_pos (by rw [h0]; rfl), kitCls_ref h1 h2 h3]
theorem tabIn_of {x : Str} {f c P : Addr} {a1 b1 : Value} {a2 b2 : Option Addr} {a3 b3 : Array (Option Value)} {fd : FuncData} {vs : Array Value} (h1 : PySem.W.nsIn K mainGlobals x = some (some (.ref f))) (h2 : K.lookup f = some ⟨a1, a2, .func fd, a3⟩) (h3 : fd.code = .ref c)
  (h4 : K.lookup c = some ⟨b1, b2, .fields vs, b3⟩) (h5 : (vs[11]? : Option Value) = some (.ref P)) : PySem.W.tabIn K x = some (c, P) := by
 simp only [PySem.W.tabIn, h1, h2, h3, h4, h5]
end
end PL
end
section
set_option maxHeartbeats 1000000
namespace PL
open PySem PySem.Spec PyProof.Rows L2
section
variable {prog : Program} {w : World} {A : Around} {E : Value → Shared → Prop} {s : Shared}
end
variable [Tbl]
section
variable {X : Cx}
end
end PL
end
section
set_option maxHeartbeats 1000000
namespace PL
open PySem PySem.Spec PyProof.Rows L2
variable [Tbl]
section
variable {X : Cx}
end
end PL
end
section
set_option maxHeartbeats 1000000
namespace PL
open PySem PySem.Spec PyProof.Rows L2
variable [Tbl]
section
variable {X : Cx}
end
end PL
end
section
namespace PL
open PySem PySem.Spec PyProof.Rows L2
section
variable [Tbl] {X : Cx}
theorem csx_nil : CSsx X [] mNext := by
 refine ⟨?_⟩
 intro W tk env S f env' S' h r σ H D A hq
 cases h
 exact tmss_of pss_nil (hq r σ H A .refl)
theorem csx_for {tg iter : Expr} {body rest : List Stmt} {it : MI} {g : MG} {b c : MS} {L : List Nat} {pos : Pos} (hp : PassesOwn (model X.prog X.w) X.A X.env X.xe) (hc : X.calm = true) (hi : CI X tg iter it) (hg : CG X tg L g) (hb : CSsx X body b) (hr : CSsx X rest c)
  (hs : ∀ x, foldedSetIterable iter X.env x = pure x := by intro _; rfl) : CSsx X (.For tg iter body [] pos :: rest) (mSeq (mFor it g b) c) := by
 obtain ⟨wi, pw, hi⟩ := hi
 refine ⟨?_⟩
 intro W tk env S f env' S' h r σ H D A hq
 obtain ⟨⟨f1, env1, S1⟩, e1, h⟩ := Option.bind_eq_some_iff.mp h
 obtain ⟨⟨⟨k, nx⟩, S0⟩, e0, e1⟩ := Option.bind_eq_some_iff.mp e1
 refine tmss_of (pss_cons (ps_for hp hc pw pg_tm pss_tm hs) pss_tm) (hi env S k nx S0 e0 r σ H _ A fun r0 H0 J s0 l0 ok => ?_)
 refine ⟨fun i m σ1 H1 => ∃ r1 env2 S2, At X r1 env2 S2 σ1 H1 ∧ Lat r0 H0 r1 H1 ∧ mForL nx g b m i env2 S2 = some (f1, env1, S1), ⟨k, r0, env, S0, A.lat s0 l0, .refl, e1⟩, ?_⟩
 rintro i m σ1 H1 ⟨r1, env2, S2, A1, l1, h1⟩
 cases m with
 | zero => cases h1
 | succ m =>
  obtain ⟨o, e2, h1⟩ := Option.bind_eq_some_iff.mp h1
  cases o with
  | none =>
   cases h1
   exact .inl ⟨ok.stop i _ r1 H1 A1.sim l1 e2, hr.run W tk _ _ f env' S' h r1 σ1 H1 D A1 (hq.lat (l0.trans l1))⟩
  | some d =>
   refine .inr ⟨ok.go i S2 r1 H1 d A1.sim l1 e2, fun σ' H' => ∃ m', m' < m + 1 ∧ ∃ r1 env2 S2, At X r1 env2 S2 σ' H' ∧ Lat r0 H0 r1 H' ∧ mForL nx g b m' (i + 1) env2 S2 = some (f1, env1, S1), fun σ' H' z => z, fun x H' y => ?_⟩
   obtain ⟨s2, l2, q2⟩ := ok.yld i S2 r1 H1 d x H' A1.sim l1 e2 y
   obtain ⟨⟨env3, S3⟩, e3, h1⟩ := Option.bind_eq_some_iff.mp h1
   obtain ⟨⟨f4, env4, S4⟩, e4, h1⟩ := Option.bind_eq_some_iff.mp h1
   refine hg d env2 S2 env3 S3 e3 r1 σ1 H' x _ (A1.lat s2 l2) q2 fun r3 σ3 H3 A3 l3 _ => ?_
   have l13 := (l1.trans l2).trans l3
   refine hb.run W tk env3 S3 f4 env4 S4 e4 r3 σ3 H3 _ A3 ?_
   cases f4 with
   | nx => exact fun r5 σ5 H5 A5 l5 => ⟨m, Nat.lt_succ_self m, r5, env4, S4, A5, l13.trans l5, h1⟩
   | ct => exact fun r5 σ5 H5 A5 l5 => ⟨m, Nat.lt_succ_self m, r5, env4, S4, A5, l13.trans l5, h1⟩
   | bk => cases h1; exact fun r5 σ5 H5 A5 l5 => hr.run W tk _ _ f env' S' h r5 σ5 H5 D A5 (hq.lat (l0.trans (l13.trans l5)))
   | rt d =>
    cases h1
    cases h
    have hq := hq.lat (l0.trans l13)
    cases d <;> exact hq
theorem kForX {tg iter : Expr} {body rest : List Stmt} {it : MI} {g : MG} {b c : MS} {L : List Nat} {pos : Pos} (hp : PassesOwn (model X.prog X.w) X.A X.env X.xe) (hc : X.calm = true) (hi : CI X tg iter it) (hg : CG X tg L g) (hb : CSsx X body b) (hr : CSsx X rest c) (h : nSet iter = true := by rfl) : CSsx X (.For tg iter body [] pos :: rest) (mSeq (mFor it g b) c) :=
 csx_for hp hc hi hg hb hr (fold_no h)
end
end PL
end
section
namespace PL
open PySem PySem.Spec PyProof.Rows L2
section
variable [Tbl] {X : Cx}
theorem strsD_rep {K : PySem.W.Frag} {mg : Str → Option Value} {r : List Addr} {H : Hp} : ∀ {xs : List D} {vs : List V} {ys : List Str}, RepL K mg r H xs vs → strsD xs = some ys → vs = ys.map V.str
 | [], _, _, .nil, h => by cases h; rfl
 | x :: xs, _, _, .cons q1 q2, h => by
  cases x with
  | str a =>
   obtain ⟨zs, e1, e2⟩ := Option.map_eq_some_iff.mp h
   subst e2
   cases q1
   rw [strsD_rep q2 e1]
   rfl
  | _ => cases h
def gSplit : D → List D → Sto → R
 | .str a, [.str b], S => if (b.length == 0) = false ∧ a.length + 2 ≤ sizeLine then newL ((Txt.split a b).map D.str) S else none
 | _, _, _ => none
theorem repL_strs {K : PySem.W.Frag} {mg : Str → Option Value} {r : List Addr} {H : Hp} : ∀ ys : List Str, RepL K mg r H (ys.map D.str) (ys.map V.str)
 | [] => .nil
 | y :: ys => .cons (.str y) (repL_strs ys)
theorem mtS_split {T : String} : MtS X T (fun x xs H Q => ∃ a b, x = .str a ∧ xs = [.str b] ∧ (b.length == 0) = false ∧ a.length + 2 ≤ sizeLine ∧ rNewStrs (Txt.split a b) H Q) gSplit := by
 intro x xs S d S' e r H u vs Q s q1 q2 hq
 unfold gSplit at e
 split at e
 case h_2 => cases e
 rename_i a b
 split at e
 case isFalse => cases e
 rename_i hz
 cases q1
 obtain ⟨w, rfl, z⟩ := RepL.inv1 q2
 cases z
 refine ⟨a, b, rfl, rfl, hz.1, hz.2, fun p np => ?_⟩
 obtain ⟨a1, a2, a3⟩ := newL_ok (X := X) s np (repL_strs (Txt.split a b)) e
 exact hq _ _ _ a1 a2 a3
def gStrI : List D → Sto → R
 | [.int i], S => if i.natAbs.log2 < 1920 then some (.str (toString i), S) else none
 | _, _ => none
theorem callS_strI : CallS X (fun xs H Q => ∃ i, xs = [.int i] ∧ i.natAbs.log2 < 1920 ∧ Q (.str (toString i)) H) gStrI := by
 intro xs S d S' e r H vs Q s q hq
 unfold gStrI at e
 split at e
 case h_2 => cases e
 rename_i i
 split at e
 case isFalse => cases e
 rename_i hz
 cases e
 obtain ⟨w, rfl, z⟩ := RepL.inv1 q
 cases z
 exact ⟨i, rfl, hz, hq r H _ s .refl (.str _)⟩
end
end PL
end
section
namespace PL
open PySem PySem.Spec PyProof.Rows L2
section
variable {X : Cx}
end
section
variable [Tbl] {X : Cx}
end
section
variable [Tbl] {X : Cx} {T : String} {name : Str} {id : String} {rr : V → List V → Hp → VK → Prop} {g : D → List D → Sto → R} {o e : Expr} {es : List Expr} {mo : ME} {a : MA} {apos cpos : Pos}
end
end PL
end
section
set_option maxHeartbeats 1000000
namespace PL
open PySem PySem.Spec PyProof.Rows L2
variable [Tbl]
def mNoXF (m : MF) : MF := fun ds S => (m ds S).bind fun p => if isX p.1 = true then none else some p
theorem fnG_ofX {P : Program} {w : World} {K : PySem.W.Frag} {mg : Str → Option Value} {base : Heap} {k n : Nat} {f : Addr} {fd : FuncData} {ps : List Str} {m : MF} (F : FnX P w K mg base k f fd ps (spE K mg n m)) : FnG P w K mg base k f fd ps (spM K mg n (mNoXF m)) := by
 have conv : ∀ vs H Q E, spM K mg n (mNoXF m) vs H Q E → spE K mg n m vs H Q E0 := by
  rintro vs H Q E ⟨r, S, ds, d, S', h1, h2, h3, h4, h5⟩
  obtain ⟨⟨d1, S1⟩, e1, h4⟩ := Option.bind_eq_some_iff.mp h4
  split at h4
  ·cases h4
  ·rename_i hx
   cases h4
   refine ⟨r, S, ds, d, S', h1, h2, h3, e1, ?_⟩
   cases d with
   | exc a b c ns xs => exact absurd rfl hx
   | _ => exact h5
 refine ⟨fun vs H Q E h => F.len _ _ _ _ (conv vs H Q E h), fun A outer s H args us vs Q E hr hgd e0 hb rv h => ?_⟩
 refine codeAny_mono (F.run A outer s H args us vs Q E0 hr hgd e0 hb rv (conv _ _ _ _ h)) ?_
 intro res s' got
 match res, got with
 | .error u, ⟨_, _, _, _, _, _, _, _, _, _, _, _, z⟩ => exact z.elim
 | .ok (.ret _), got => exact got
 | .ok .next, got => exact got
 | .ok .brk, got => exact got
 | .ok .cont, got => exact got
end PL
end
section
set_option maxHeartbeats 1000000
namespace PL
open PySem PySem.Spec PyProof.Rows L2
variable [Tbl]
section
variable {X : Cx}
end
end PL
end
section
set_option maxHeartbeats 1000000
namespace PL
open PySem PySem.Spec PyProof.Rows L2
section
variable {prog : Program} {w : World} {A : Around} {E : Value → Shared → Prop} {s : Shared}
end
variable [Tbl]
section
variable {X : Cx}
end
section
variable {X : Cx}
end
end PL
end
section
namespace PL
open PySem PySem.Spec PyProof.Rows L2
variable [Tbl]
section
variable {X : Cx}
end
end PL
end
section
namespace PL
open PySem PySem.Spec PyProof.Rows L2
variable [Tbl]
section
variable {X : Cx}
end
end PL
end
section
namespace PL
open PySem PySem.Spec PyProof.Rows L2
variable [Tbl]
def optL {α β : Type} (f : α → Option β) : List α → Option (List β)
 | [] => some []
 | x :: xs => (f x).bind fun a => (optL f xs).map (a :: ·)
def pyN : Nat → Sto → D → Option PyData
 | 0, _, _ => none
 | n + 1, S, d => match d with
  | .tup xs => (optL (pyN n S) xs).map .tuple
  | .ktup xs => (optL (pyN n S) xs).map .tuple
  | .ptup xs => (optL (pyN n S) xs).map .tuple
  | .ref m => (seqAt m S).bind fun xs => (optL (pyN n S) xs).map .list
  | d => pyD d
section
variable {X : Cx}
theorem optN_ok {r : List Addr} {S : Sto} {H : Hp} {n : Nat} (ih : ∀ {d : D} {v : V} {p : PyData}, RepV X.K X.mg r H d v → pyN n S d = some p → Dp X.K H v p) :
  ∀ {ds : List D} {vs : List V} {ps : List PyData}, RepL X.K X.mg r H ds vs → optL (pyN n S) ds = some ps → DpAll X.K H vs ps
 | [], _, _, q, h => by cases q; simp only [optL] at h; cases h; exact .nil
 | d :: ds, _, _, q, h => by
  cases q with
  | cons q1 q2 =>
   simp only [optL] at h
   obtain ⟨a, e1, h⟩ := Option.bind_eq_some_iff.mp h
   obtain ⟨as, e2, e3⟩ := Option.map_eq_some_iff.mp h
   subst e3
   exact .cons (ih q1 e1) (optN_ok ih q2 e2)
theorem pyN_ok {r : List Addr} {S : Sto} {H : Hp} (s : Sim X.K X.mg r S H) : ∀ (n : Nat) {d : D} {v : V} {p : PyData}, RepV X.K X.mg r H d v → pyN n S d = some p → Dp X.K H v p
 | 0, _, _, _, _, h => by cases h
 | n + 1, d, v, p, q, h => by
  have ih := fun {d : D} {v : V} {p : PyData} => pyN_ok s n (d := d) (v := v) (p := p)
  cases d with
  | tup xs =>
   cases q with
   | tup t l =>
    obtain ⟨ps, e2, e3⟩ := Option.map_eq_some_iff.mp h
    subst e3
    exact .tup t.sq (optN_ok ih l e2)
  | ktup xs =>
   cases q with
   | ktup t l =>
    obtain ⟨ps, e2, e3⟩ := Option.map_eq_some_iff.mp h
    subst e3
    exact .tup t.sq (optN_ok ih l e2)
  | ptup xs =>
   cases q with
   | ptup t l =>
    obtain ⟨ps, e2, e3⟩ := Option.map_eq_some_iff.mp h
    subst e3
    exact .tup t.sq (optN_ok ih l e2)
  | ref m =>
   cases q with
   | ref ea =>
    obtain ⟨xs, e1, h⟩ := Option.bind_eq_some_iff.mp h
    obtain ⟨ps, e2, e3⟩ := Option.map_eq_some_iff.mp h
    subst e3
    obtain ⟨vs, h1, l1⟩ := seqAt_ok (X := X) s ea e1
    exact .lst h1 (optN_ok ih l1 e2)
  | _ => exact pyD_ok q h
def dN : Nat := 41
def gReprIB : List D → Sto → R
 | [.int i], S => if i.natAbs.log2 < 1920 then some (.str (toString i), S) else none
 | [.bl b], S => some (.str (if b then "True" else "False"), S)
 | [.tup xs], S => (pyN dN S (.tup xs)).bind fun p => if reprOk p = true then some (.str (PyData.shown p), S) else none
 | [.ktup xs], S => (pyN dN S (.ktup xs)).bind fun p => if reprOk p = true then some (.str (PyData.shown p), S) else none
 | [.ptup xs], S => (pyN dN S (.ptup xs)).bind fun p => if reprOk p = true then some (.str (PyData.shown p), S) else none
 | [.ref n], S => (pyN dN S (.ref n)).bind fun p => if reprOk p = true then some (.str (PyData.shown p), S) else none
 | _, _ => none
def rReprIB (K : PySem.W.Frag) : List V → Hp → VK → Prop := fun vs H Q => (∃ i : Int, vs = [.int i] ∧ i.natAbs.log2 < 1920 ∧ Q (.str (toString i)) H) ∨ (∃ b : Bool, vs = [.bl b] ∧ Q (.str (if b then "True" else "False")) H) ∨ rRepr K vs H Q
theorem callR_reprIB (hgd : X.A.guards = some []) (hu : X.A.units + 64 < cLine) : CallR X (.builtin "repr") (rReprIB X.K) := by
 intro pins s σ H vs us Q I rv h
 rcases h with ⟨i, rfl, hz, q⟩ | ⟨b, rfl, q⟩ | h
 ·cases rv with
  | cons r1 r2 =>
   cases r2
   obtain ⟨t, rfl⟩ := r1
   exact P.repr_of_int hz ⟨.str _, H, I.tok _, ⟨_, rfl⟩, q⟩
 ·cases rv with
  | cons r1 r2 =>
   cases r2
   cases r1
   exact P.repr_of_bool ⟨.str _, H, I.tok _, ⟨_, rfl⟩, q⟩
 ·exact callR_repr hgd hu pins s σ H vs us Q I rv h
theorem callS_reprIB : CallS X (rReprIB X.K) gReprIB := by
 intro xs S d S' e r H vs Q s q hq
 have go : ∀ (x : D), xs = [x] → (∀ v, RepV X.K X.mg r H x v → ∃ a, v = .ref a) → ((pyN dN S x).bind fun p => if reprOk p = true then some (D.str (PyData.shown p), S) else none) = some (d, S') → rReprIB X.K vs H Q := by
  intro x hx hr e0
  subst hx
  obtain ⟨p, e1, e0⟩ := Option.bind_eq_some_iff.mp e0
  split at e0
  case isFalse => cases e0
  rename_i ok
  cases e0
  obtain ⟨v, rfl, z⟩ := RepL.inv1 q
  obtain ⟨a, rfl⟩ := hr v z
  exact .inr (.inr ⟨_, p, rfl, pyN_ok s _ z e1, ok, hq r H _ s .refl (.str _)⟩)
 unfold gReprIB at e
 split at e
 ·split at e
  case isFalse => cases e
  rename_i hz
  cases e
  obtain ⟨v, rfl, z⟩ := RepL.inv1 q
  cases z
  exact .inl ⟨_, rfl, hz, hq r H _ s .refl (.str _)⟩
 ·cases e
  obtain ⟨v, rfl, z⟩ := RepL.inv1 q
  cases z
  exact .inr (.inl ⟨_, rfl, hq r H _ s .refl (.str _)⟩)
 ·exact go _ rfl (fun v z => by cases z; exact ⟨_, rfl⟩) e
 ·exact go _ rfl (fun v z => by cases z; exact ⟨_, rfl⟩) e
 ·exact go _ rfl (fun v z => by cases z; exact ⟨_, rfl⟩) e
 ·exact go _ rfl (fun v z => by cases z; exact ⟨_, rfl⟩) e
 ·cases e
end
end PL
end
section
namespace PL
open PySem PySem.Spec PyProof.Rows L2
section
variable [Tbl] {X : Cx}
def gJoinA : D → List D → Sto → R
 | .str a, [d], S => (seqD S d).bind fun xs => (strsD xs).bind fun ys => if (ys.map (·.length)).sum + ys.length * a.length ≤ 16777216 then some (.str (Txt.join a ys), S) else none
 | _, _, _ => none
theorem mtS_joinA {T : String} : MtS X T (fun x xs H Q => ∃ a p, ∃ ys : List Str, x = .str a ∧ xs = [.ref p] ∧ (SqL X.K H p (ys.map V.str) ∨ SqT X.K H p (ys.map V.str)) ∧ (ys.map (·.length)).sum + ys.length * a.length ≤ 16777216 ∧ Q (.str (Txt.join a ys)) H) gJoinA := by
 intro x xs S d S' e r H u vs Q s q1 q2 hq
 unfold gJoinA at e
 split at e
 case h_2 => cases e
 rename_i a d0
 obtain ⟨ys, e1, e⟩ := Option.bind_eq_some_iff.mp e
 obtain ⟨zs, e2, e⟩ := Option.bind_eq_some_iff.mp e
 split at e
 case isFalse => cases e
 rename_i hz
 cases e
 cases q1
 obtain ⟨w, rfl, z⟩ := RepL.inv1 q2
 obtain ⟨p, us, rfl, hs, l⟩ := seqD_ok (X := X) s z e1
 rw [strsD_rep l e2] at hs
 exact ⟨a, _, zs, rfl, rfl, hs, hz, hq r H _ s .refl (.str _)⟩
def gStarts : D → List D → Sto → R
 | .str a, [.str b], S => some (.bl (Txt.startswith a b), S)
 | _, _, _ => none
theorem mtS_starts {T : String} : MtS X T (fun x xs H Q => ∃ a b, x = .str a ∧ xs = [.str b] ∧ Q (.bl (Txt.startswith a b)) H) gStarts := by
 intro x xs S d S' e r H u vs Q s q1 q2 hq
 unfold gStarts at e
 split at e
 case h_2 => cases e
 rename_i a b
 cases e
 cases q1
 obtain ⟨w, rfl, z⟩ := RepL.inv1 q2
 cases z
 exact ⟨a, b, rfl, rfl, hq r H _ s .refl (.bl _)⟩
def gIntS : List D → Sto → R
 | [.str a], S => match PySem.intText? a with
  | some n => if a.length ≤ 640 then some (.int n, S) else none
  | none => none
 | _, _ => none
theorem callS_intS : CallS X (fun xs H Q => ∃ a n, xs = [.str a] ∧ PySem.intText? a = some n ∧ a.length ≤ 640 ∧ Q (.int n) H) gIntS := by
 intro xs S d S' e r H vs Q s q hq
 unfold gIntS at e
 split at e
 case h_2 => cases e
 rename_i a
 split at e
 case h_2 => cases e
 rename_i n hn
 split at e
 case isFalse => cases e
 rename_i hz
 cases e
 obtain ⟨w, rfl, z⟩ := RepL.inv1 q
 cases z
 exact ⟨a, n, rfl, hn, hz, hq r H _ s .refl (.int _)⟩
def mFmt (m : ME) : ME := fun env S => (m env S).bind fun p => match p.1 with
 | .str y => if y.length ≤ sizeLine then some (.str y, p.2) else none
 | .int i => if i.natAbs.log2 < 1920 then some (.str (toString i), p.2) else none
 | _ => none
theorem cE_fmt {e : Expr} {m : ME} {pos : Pos} (he : CE X e m) : CE X (.FormattedValue e (-1) none pos) (mFmt m) := by
 refine ⟨?_⟩
 intro env S d S' h r σ H Q A hq
 obtain ⟨⟨x, S1⟩, e1, h⟩ := Option.bind_eq_some_iff.mp h
 refine tm_of (pe_fmt pe_tm) (he env S _ S1 e1 r σ H _ A fun r1 H1 v s1 l1 q1 => ?_)
 cases x with
 | str y =>
  dsimp only at h
  split at h
  case isFalse => cases h
  rename_i hz
  cases h
  cases q1
  exact .inl ⟨y, rfl, hz, hq r1 H1 _ s1 l1 (.str _)⟩
 | int i =>
  dsimp only at h
  split at h
  case isFalse => cases h
  rename_i hz
  cases h
  cases q1
  exact .inr ⟨i, rfl, hz, hq r1 H1 _ s1 l1 (.str _)⟩
 | _ => cases h
def mJs : List ME → Str → Env → Sto → Option (Str × Sto)
 | [], acc, _, S => some (acc, S)
 | m :: ms, acc, env, S => (m env S).bind fun p => match p.1 with
  | .str y => if (acc ++ y).length ≤ sizeLine then mJs ms (acc ++ y) env p.2 else none
  | _ => none
def mFstr (ms : List ME) : ME := fun env S => (mJs ms Str.empty env S).map fun p => (.str p.1, p.2)
inductive CJs (X : Cx) : List Expr → List ME → Prop where
 | nil : CJs X [] []
 | cons {e : Expr} {m : ME} {es : List Expr} {ms : List ME} (h : CE X e m) (r : CJs X es ms) : CJs X (e :: es) (m :: ms)
theorem CJs.pj {es : List Expr} {ms : List ME} (h : CJs X es ms) : PJ X es (es.map (TM X)) := by
 induction h with
 | nil => exact .nil
 | cons h r ih => exact .cons pe_tm ih
theorem CJs.run {es : List Expr} {ms : List ME} (h : CJs X es ms) : ∀ acc env S out S', mJs ms acc env S = some (out, S') → ∀ r σ H (Q : Str → Hp → Prop), At X r env S σ H → (∀ r' H', Sim X.K X.mg r' S' H' → Lat r H r' H' → Q out H') → tJs (es.map (TM X)) acc σ H Q := by
 induction h with
 | nil =>
  intro acc env S out S' e r σ H Q A hq
  cases e
  exact hq r H A.sim .refl
 | @cons e m es ms h _ ih =>
  intro acc env S out S' e1 r σ H Q A hq
  obtain ⟨⟨x, S1⟩, e2, e1⟩ := Option.bind_eq_some_iff.mp e1
  refine h env S _ S1 e2 r σ H _ A fun r1 H1 v s1 l1 q1 => ?_
  cases x with
  | str y =>
   dsimp only at e1
   split at e1
   case isFalse => cases e1
   rename_i hz
   cases q1
   exact ⟨y, rfl, hz, ih _ env S1 out S' e1 r1 σ H1 Q (A.lat s1 l1) fun r' H' s l => hq r' H' s (l1.trans l)⟩
  | _ => cases e1
theorem cE_fstr {v1 v2 : Expr} {rest : List Expr} {ms : List ME} {pos : Pos} (h : CJs X (v1 :: v2 :: rest) ms) : CE X (.JoinedStr (v1 :: v2 :: rest) pos) (mFstr ms) := by
 refine ⟨?_⟩
 intro env S d S' e r σ H Q A hq
 obtain ⟨⟨out, S1⟩, e1, e2⟩ := Option.map_eq_some_iff.mp e
 cases e2
 exact tm_of (pe_joined h.pj) (h.run _ env S out S1 e1 r σ H _ A fun r' H' s l => hq r' H' _ s l (.str _))
def mTyX (g : List D → Sto → R) (m : ME) : ME := fun env S => (m env S).bind fun p => if isX p.1 = true then some p else (g [p.1] p.2).bind fun q => if isX q.1 = true then none else some q
theorem cEx_ty1 {T : String} {rr : List V → Hp → VK → Prop} {g : List D → Sto → R} {x : Str} {e : Expr} {m : ME} {p pos : Pos} (hc : CallR X (.type T) rr) (hs : CallS X rr g) (hm : X.mg x = none) (hv : bootBuiltins x = some (.type T)) (he : CEx X e m) (hg : Gl X x := by rfl) (hn : x ≠ "__name__" := by decide) (hdb : (x == ("__debug__" : Str)) = false := by decide)
  (h : nSs [e] = true := by rfl) : CEx X (.Call (.Name x p) [e] [] pos) (mTyX g m) := by
 refine ⟨?_⟩
 intro W tk env S d S' e1 r σ H Q A hq
 obtain ⟨⟨y, S1⟩, e2, e1⟩ := Option.bind_eq_some_iff.mp e1
 refine tm_of (pe_callTy hc hg hm hv (pa_cons pe_tm pa_nil (star_cons (nSs_cons h).1)) hn hdb (star_cons (nSs_cons h).1) (star_plain (nSs_cons h).2)) (he.run W tk env S y S1 e2 r σ H _ A ?_)
 have go : isX y = false → (∀ r' H' v, Sim X.K X.mg r' S1 H' → Lat r H r' H' → RepV X.K X.mg r' H' y v → rr [v] H' Q) := fun hx r1 H1 v s1 l1 q1 => by
  dsimp only at e1
  rw [if_neg (by rw [hx]; exact Bool.false_ne_true)] at e1
  obtain ⟨⟨z, S2⟩, e3, e1⟩ := Option.bind_eq_some_iff.mp e1
  dsimp only at e1
  split at e1
  case isTrue => cases e1
  rename_i hz
  cases e1
  refine hs [y] S1 d S' e3 r1 H1 [v] Q s1 (.cons q1 .nil) fun r2 H2 w s2 l2 q2 => ?_
  cases d with
  | exc a dx c ns xs => exact absurd rfl hz
  | _ => exact hq r2 H2 w s2 (l1.trans l2) q2
 cases y with
 | exc a dx c ns xs =>
  cases e1
  exact hq
 | _ => exact go rfl
end
end PL
end
section
namespace PL
open PySem PySem.Spec PyProof.Rows L2
section
variable [Tbl] {X : Cx}
def repS (x : Str) (k : Nat) : Str := ⟨(List.replicate k x.cps).foldl (· ++ ·) #[]⟩
def siS : D → D → Sto → R
 | .str x, .int k, S => if 2 ≤ k ∧ k ≤ 1000 ∧ 1 ≤ x.length ∧ x.length ≤ 1000 then some (.str (repS x k.toNat), S) else none
 | _, _, _ => none
def rRepS : R2 := fun x y H Q => ∃ z k, x = .str z ∧ y = .int k ∧ 2 ≤ k ∧ k ≤ 1000 ∧ 1 ≤ z.length ∧ z.length ≤ 1000 ∧ Q (.str (repS z k.toNat)) H
theorem op_repS : OpR X (binaryOp .Mult) rRepS := by
 intro pins s σ H x y v u Q I rx ry h
 obtain ⟨z, k, rfl, rfl, h1, h2, h3, h4, q⟩ := h
 obtain ⟨t, rfl⟩ := rx
 obtain ⟨t', rfl⟩ := ry
 have c0 : (decide (k < -(2 ^ 63 : Int)) || decide (k ≥ 2 ^ 63)) = false := by
  rw [decide_eq_false (by omega), decide_eq_false (by omega)]; rfl
 have c1 : (k == 1 || z.length == 0) = false := by
  rw [Bool.or_eq_false_iff]
  exact ⟨beq_eq_false_iff_ne.mpr (by omega), beq_eq_false_iff_ne.mpr (by omega)⟩
 refine PySem.P.mul_str c0 (fun _ _ => ?_) (fun _ _ => ?_) ?_
 ·have : (1000 : Int) ≤ (2 ^ 63 - 1) / k := by
   rw [Int.le_ediv_iff_mul_le (by omega)]
   omega
  omega
 ·unfold Builtin.Str.tooLong
  rw [sizeLine_eq]
  refine decide_eq_false ?_
  have : z.length * k.toNat ≤ 1000 * 1000 := Nat.mul_le_mul h4 (by omega)
  omega
 ·rw [if_neg (by omega), if_neg (by rw [c1]; exact Bool.false_ne_true)]
  refine ⟨?_, .str (repS z k.toNat), H, I.tok _, ⟨_, rfl⟩, q⟩
  have f0 : ∀ (m : Nat) (acc : Array Nat), (List.foldl (fun x1 x2 => x1 ++ x2) acc (List.replicate m z.cps)).size = acc.size + m * z.cps.size := by
   intro m
   induction m with
   | zero => intro acc; simp
   | succ m ih =>
    intro acc
    rw [List.replicate_succ, List.foldl_cons, ih, Array.size_append, Nat.succ_mul]
    omega
  show (List.foldl (fun x1 x2 => x1 ++ x2) #[] (List.replicate k.toNat z.cps)).size ≤ _
  rw [f0, sizeLine_eq, List.size_toArray, List.length_nil]
  have : k.toNat * z.cps.size ≤ 1000 * 1000 := Nat.mul_le_mul (by omega) h4
  omega
theorem opS_siS : OpS X rRepS siS := by
 intro x y S d S' e r H u v Q s q1 q2 hq
 unfold siS at e
 split at e
 case h_2 => cases e
 rename_i z k
 split at e
 case isFalse => cases e
 rename_i hk
 cases e
 cases q1
 cases q2
 exact ⟨z, k, rfl, rfl, hk.1, hk.2.1, hk.2.2.1, hk.2.2.2, hq r H _ s .refl (.str _)⟩
def dMulZ : D → D → Sto → R := alt dMulX siS
end
end PL
end
section
namespace WP
open PySem PySem.Spec PyProof.Rows L2 PL
def WR (r : Option (D × Sto)) (Q : D → Sto → Prop) : Prop := ∃ d S', r = some (d, S') ∧ Q d S'
def WE (e : ME) (env : PL.Env) (S : Sto) (Q : D → Sto → Prop) : Prop := ∃ d S', e env S = some (d, S') ∧ Q d S'
def WA (a : MA) (env : PL.Env) (S : Sto) (Q : List D → Sto → Prop) : Prop := ∃ ds S', a env S = some (ds, S') ∧ Q ds S'
def WT (c : MT) (env : PL.Env) (S : Sto) (Q : Bool → Sto → Prop) : Prop := ∃ b S', c env S = some (b, S') ∧ Q b S'
def WS (s : MS) (env : PL.Env) (S : Sto) (Q : Flw → PL.Env → Sto → Prop) : Prop := ∃ f e' S', s env S = some (f, e', S') ∧ Q f e' S'
theorem sz {n : Nat} (h : n ≤ 100) : n ≤ sizeLine := Nat.le_trans h (by decide)
section
variable {env : PL.Env} {S : Sto} {Q : D → Sto → Prop} {QA : List D → Sto → Prop} {QT : Bool → Sto → Prop} {QS : Flw → PL.Env → Sto → Prop}
theorem wR_of {r : Option (D × Sto)} {d : D} {S' : Sto} (h : r = some (d, S')) (q : Q d S') : WR r Q := ⟨d, S', h, q⟩
theorem WR.mono {r : Option (D × Sto)} {P : D → Sto → Prop} (h : WR r P) (g : ∀ d S', P d S' → Q d S') : WR r Q := by
 obtain ⟨d, S', e, p⟩ := h
 exact ⟨d, S', e, g d S' p⟩
theorem WE.mono {e : ME} {P : D → Sto → Prop} (h : WE e env S P) (g : ∀ d S', P d S' → Q d S') : WE e env S Q := by
 obtain ⟨d, S', e, p⟩ := h
 exact ⟨d, S', e, g d S' p⟩
theorem WS.mono {s : MS} {P : Flw → PL.Env → Sto → Prop} (h : WS s env S P) (g : ∀ f e' S', P f e' S' → QS f e' S') : WS s env S QS := by
 obtain ⟨f, e', S', e, p⟩ := h
 exact ⟨f, e', S', e, g f e' S' p⟩
theorem wE_c {d : D} (q : Q d S) : WE (mC d) env S Q := ⟨d, S, rfl, q⟩
theorem wE_v {i : Nat} {d : D} (h : env[i]? = some (some d)) (q : Q d S) : WE (mVar i) env S Q := by
 refine ⟨d, S, ?_, q⟩
 unfold mVar
 rw [h]
theorem wE_w {i : Nat} (h : ∃ d, env[i]? = some (some d) ∧ Q d S) : WE (mVar i) env S Q := by
 obtain ⟨d, h, q⟩ := h
 exact wE_v h q
theorem wE_bin {g : D → D → Sto → R} {a b : ME} (h : WE a env S fun x S1 => WE b env S1 fun y S2 => WR (g x y S2) Q) : WE (mBin g a b) env S Q := by
 obtain ⟨x, S1, e1, y, S2, e2, d, S3, e3, q⟩ := h
 refine ⟨d, S3, ?_, q⟩
 rw [mBin, e1, Option.bind_some]
 dsimp only
 rw [e2, Option.bind_some]
 exact e3
theorem wE_blt {g : List D → Sto → R} {a : MA} (h : WA a env S fun ds S1 => WR (g ds S1) Q) : WE (mBlt g a) env S Q := by
 obtain ⟨ds, S1, e1, d, S2, e2, q⟩ := h
 refine ⟨d, S2, ?_, q⟩
 rw [mBlt, e1, Option.bind_some]
 exact e2
theorem wE_call {n : Nat} {m : MF} {a : MA} (h : WA a env S fun ds S1 => ds.length = n ∧ WR (m ds S1) Q) : WE (mCall n m a) env S Q := by
 obtain ⟨ds, S1, e1, hl, d, S2, e2, q⟩ := h
 refine ⟨d, S2, ?_, q⟩
 rw [mCall, e1, Option.bind_some]
 dsimp only
 rw [if_pos hl]
 exact e2
theorem wE_callK {n k : Nat} {pm : List Nat} {m : MF} {a : MA} (h : WA a env S fun ds S1 => (ds.length = k ∧ (pickL pm ds).length = n) ∧ WR (m (pickL pm ds) S1) Q) : WE (mCallK n k pm m a) env S Q := by
 obtain ⟨ds, S1, e1, hl, d, S2, e2, q⟩ := h
 refine ⟨d, S2, ?_, q⟩
 rw [mCallK, e1, Option.bind_some]
 dsimp only
 rw [if_pos hl]
 exact e2
theorem wE_tup {a : MA} (h : WA a env S fun ds S1 => ds.length ≤ sizeLine ∧ Q (.tup ds) S1) : WE (mTup a) env S Q := by
 obtain ⟨ds, S1, e1, hl, q⟩ := h
 refine ⟨_, S1, ?_, q⟩
 rw [mTup, e1, Option.bind_some]
 dsimp only
 rw [if_pos hl]
theorem wE_lst {a : MA} (h : WA a env S fun ds S1 => ds.length ≤ sizeLine ∧ Q (.ref S1.length) (S1 ++ [.lst ds])) : WE (mLst a) env S Q := by
 obtain ⟨ds, S1, e1, hl, q⟩ := h
 refine ⟨_, _, ?_, q⟩
 rw [mLst, e1, Option.bind_some]
 dsimp only
 rw [if_pos hl]
 rfl
theorem wE_if {c : MT} {a b : ME} (h : WT c env S fun k S1 => (k = true → WE a env S1 Q) ∧ (k = false → WE b env S1 Q)) : WE (mIf c a b) env S Q := by
 obtain ⟨k, S1, e1, h1, h2⟩ := h
 cases k with
 | true =>
  obtain ⟨d, S2, e2, q⟩ := h1 rfl
  refine ⟨d, S2, ?_, q⟩
  rw [mIf, e1, Option.bind_some]
  exact e2
 | false =>
  obtain ⟨d, S2, e2, q⟩ := h2 rfl
  refine ⟨d, S2, ?_, q⟩
  rw [mIf, e1, Option.bind_some]
  exact e2
theorem wE_andV {a b : ME} (h : WE a env S fun x S1 => ∃ k, dTru x S1 = some k ∧ (k = true → WE b env S1 Q) ∧ (k = false → Q x S1)) : WE (mAndV a b) env S Q := by
 obtain ⟨x, S1, e1, k, ek, h1, h2⟩ := h
 cases k with
 | true =>
  obtain ⟨d, S2, e2, q⟩ := h1 rfl
  refine ⟨d, S2, ?_, q⟩
  rw [mAndV, e1, Option.bind_some]
  dsimp only
  rw [ek]
  exact e2
 | false =>
  refine ⟨x, S1, ?_, h2 rfl⟩
  rw [mAndV, e1, Option.bind_some]
  dsimp only
  rw [ek]
  rfl
theorem wE_mt {T : String} {g : D → List D → Sto → R} {o : ME} {a : MA} (h : WE o env S fun x S1 => dIs T x S1 = true ∧ WA a env S1 fun ds S2 => WR (g x ds S2) Q) : WE (mMt T g o a) env S Q := by
 obtain ⟨x, S1, e1, ht, ds, S2, e2, d, S3, e3, q⟩ := h
 refine ⟨d, S3, ?_, q⟩
 rw [mMt, e1, Option.bind_some]
 dsimp only
 rw [if_pos ht, e2, Option.bind_some]
 exact e3
theorem wA_nil (q : QA [] S) : WA mNil env S QA := ⟨[], S, rfl, q⟩
theorem wA_cons {a : ME} {b : MA} (h : WE a env S fun x S1 => WA b env S1 fun ds S2 => QA (x :: ds) S2) : WA (mCons a b) env S QA := by
 obtain ⟨x, S1, e1, ds, S2, e2, q⟩ := h
 refine ⟨_, S2, ?_, q⟩
 rw [mCons, e1, Option.bind_some]
 dsimp only
 rw [e2]
 rfl
theorem wT_b {m : ME} (h : WE m env S fun x S1 => ∃ b, x = .bl b ∧ QT b S1) : WT (asB m) env S QT := by
 obtain ⟨x, S1, e1, b, rfl, q⟩ := h
 refine ⟨b, S1, ?_, q⟩
 rw [asB, e1]
 rfl
theorem wT_tru {m : ME} (h : WE m env S fun x S1 => ∃ b, dTru x S1 = some b ∧ QT b S1) : WT (mTru m) env S QT := by
 obtain ⟨x, S1, e1, b, eb, q⟩ := h
 refine ⟨b, S1, ?_, q⟩
 rw [mTru, e1, Option.bind_some]
 dsimp only
 rw [eb]
 rfl
theorem wT_not {c : MT} (h : WT c env S fun b S1 => QT (!b) S1) : WT (mNotT c) env S QT := by
 obtain ⟨b, S1, e1, q⟩ := h
 refine ⟨_, S1, ?_, q⟩
 rw [mNotT, e1]
 rfl
theorem wT_and {a b : MT} (h : WT a env S fun k S1 => (k = true → WT b env S1 QT) ∧ (k = false → QT false S1)) : WT (mAndT a b) env S QT := by
 obtain ⟨k, S1, e1, h1, h2⟩ := h
 cases k with
 | true =>
  obtain ⟨d, S2, e2, q⟩ := h1 rfl
  refine ⟨d, S2, ?_, q⟩
  rw [mAndT, e1, Option.bind_some]
  exact e2
 | false =>
  refine ⟨false, S1, ?_, h2 rfl⟩
  rw [mAndT, e1, Option.bind_some]
  rfl
theorem wT_or {a b : MT} (h : WT a env S fun k S1 => (k = true → QT true S1) ∧ (k = false → WT b env S1 QT)) : WT (mOrT a b) env S QT := by
 obtain ⟨k, S1, e1, h1, h2⟩ := h
 cases k with
 | true =>
  refine ⟨true, S1, ?_, h1 rfl⟩
  rw [mOrT, e1, Option.bind_some]
  rfl
 | false =>
  obtain ⟨d, S2, e2, q⟩ := h2 rfl
  refine ⟨d, S2, ?_, q⟩
  rw [mOrT, e1, Option.bind_some]
  exact e2
theorem wT_yes (q : QT true S) : WT mYes env S QT := ⟨true, S, rfl, q⟩
theorem wS_seq {a b : MS} (h : WS a env S fun f e1 S1 => (f = .nx ∧ WS b e1 S1 QS) ∨ (f ≠ .nx ∧ QS f e1 S1)) : WS (mSeq a b) env S QS := by
 obtain ⟨f, e1, S1, h1, h2⟩ := h
 rcases h2 with ⟨rfl, f2, e2, S2, h2, q⟩ | ⟨hf, q⟩
 ·refine ⟨f2, e2, S2, ?_, q⟩
  rw [mSeq, h1, Option.bind_some]
  exact h2
 ·refine ⟨f, e1, S1, ?_, q⟩
  rw [mSeq, h1, Option.bind_some]
  cases f <;> first | rfl | exact absurd rfl hf
theorem wS_then {a b : MS} (h : WS a env S fun f e1 S1 => f = .nx ∧ WS b e1 S1 QS) : WS (mSeq a b) env S QS := wS_seq (h.mono fun f e1 S1 q => .inl q)
theorem wS_asg {m : ME} {i : Nat} (h : WE m env S fun d S1 => QS .nx (env.set i (some d)) S1) : WS (mAsg m (gN i)) env S QS := by
 obtain ⟨d, S1, e1, q⟩ := h
 refine ⟨_, _, S1, ?_, q⟩
 rw [mAsg, e1]
 rfl
theorem wS_asgG {m : ME} {g : MG} (h : WE m env S fun d S1 => ∃ e' S', g d env S1 = some (e', S') ∧ QS .nx e' S') : WS (mAsg m g) env S QS := by
 obtain ⟨d, S1, e1, e', S', e2, q⟩ := h
 refine ⟨_, e', S', ?_, q⟩
 rw [mAsg, e1, Option.bind_some]
 dsimp only
 rw [e2]
 rfl
theorem wS_if {c : MT} {a b : MS} (h : WT c env S fun k S1 => (k = true → WS a env S1 QS) ∧ (k = false → WS b env S1 QS)) : WS (mIfS c a b) env S QS := by
 obtain ⟨k, S1, e1, h1, h2⟩ := h
 cases k with
 | true =>
  obtain ⟨f, e', S2, e2, q⟩ := h1 rfl
  refine ⟨f, e', S2, ?_, q⟩
  rw [mIfS, e1, Option.bind_some]
  exact e2
 | false =>
  obtain ⟨f, e', S2, e2, q⟩ := h2 rfl
  refine ⟨f, e', S2, ?_, q⟩
  rw [mIfS, e1, Option.bind_some]
  exact e2
theorem wS_ifRet {c : MT} {a : ME} {rest : MS} (h : WT c env S fun k S1 => (k = true → WE a env S1 fun d S2 => QS (.rt d) env S2) ∧ (k = false → WS rest env S1 QS)) : WS (mSeq (mIfS c (mRet a) mNext) rest) env S QS := by
 obtain ⟨k, S1, e1, h1, h2⟩ := h
 cases k with
 | true =>
  obtain ⟨d, S2, e2, q⟩ := h1 rfl
  refine ⟨_, env, S2, ?_, q⟩
  rw [mSeq, mIfS, e1, Option.bind_some]
  dsimp only
  rw [if_pos rfl, mRet, e2]
  rfl
 | false =>
  obtain ⟨f, e', S2, e2, q⟩ := h2 rfl
  refine ⟨f, e', S2, ?_, q⟩
  rw [mSeq, mIfS, e1, Option.bind_some]
  exact e2
theorem wS_ret {m : ME} (h : WE m env S fun d S1 => QS (.rt d) env S1) : WS (mRet m) env S QS := by
 obtain ⟨d, S1, e1, q⟩ := h
 refine ⟨_, env, S1, ?_, q⟩
 rw [mRet, e1]
 rfl
theorem wS_next (q : QS .nx env S) : WS mNext env S QS := ⟨_, env, S, rfl, q⟩
theorem wS_drop {m : ME} (h : WE m env S fun d S1 => QS .nx env S1) : WS (mDrop m) env S QS := by
 obtain ⟨d, S1, e1, q⟩ := h
 refine ⟨_, env, S1, ?_, q⟩
 rw [mDrop, e1]
 rfl
theorem wS_par {is : List Nat} {a : MA} (h : WA a env S fun ds S1 => ds.length = is.length ∧ QS .nx ((is.zip ds).foldl (fun e q => e.set q.1 (some q.2)) env) S1) : WS (mPar is a) env S QS := by
 obtain ⟨ds, S1, e1, hl, q⟩ := h
 refine ⟨_, _, S1, ?_, q⟩
 rw [mPar, e1, Option.bind_some]
 dsimp only
 rw [if_pos hl]
theorem wB {n : Nat} {b : MS} {ds : List D} (h : WS b (startE n ds) S fun f e1 S1 => ∃ d, f = .rt d ∧ Q d S1) : WR (mBody n b ds S) Q := by
 obtain ⟨f, e1, S1, h1, d, rfl, q⟩ := h
 refine ⟨d, S1, ?_, q⟩
 rw [mBody, h1]
 rfl
theorem forL {nx : Nxt} {g : MG} {b : MS} {n : Nat} {I : Nat → PL.Env → Sto → Prop} (step : ∀ i env S, i < n → I i env S → ∃ d env1 S1, nx i S = some (some d) ∧ g d env S = some (env1, S1) ∧ WS b env1 S1 fun f e' S' => f = .nx ∧ I (i + 1) e' S')
  (stop : ∀ env S, I n env S → nx n S = some none) : ∀ (t i : Nat) (env : PL.Env) (S : Sto), n = i + t → I i env S → WS (mForL nx g b (t + 1) i) env S fun f e' S' => f = .nx ∧ I n e' S' := by
 intro t
 induction t with
 | zero =>
  intro i env S hi h
  have hi' : i = n := by omega
  subst hi'
  refine ⟨.nx, env, S, ?_, rfl, h⟩
  unfold mForL
  rw [stop env S h]
  rfl
 | succ t ih =>
  intro i env S hi h
  obtain ⟨d, env1, S1, e1, e2, f, e', S', e3, rfl, h'⟩ := step i env S (by omega) h
  obtain ⟨f2, e2', S2, e4, q⟩ := ih (i + 1) e' S' (by omega) h'
  refine ⟨f2, e2', S2, ?_, q⟩
  unfold mForL
  rw [e1, Option.bind_some]
  dsimp only
  rw [e2, Option.bind_some]
  dsimp only
  rw [e3, Option.bind_some]
  exact e4
theorem wS_for {it : MI} {g : MG} {b : MS} {nx : Nxt} {n : Nat} {S1 : Sto} {I : Nat → PL.Env → Sto → Prop} (hi : it env S = some ((n + 1, nx), S1)) (h0 : I 0 env S1)
  (step : ∀ i env S, i < n → I i env S → ∃ d env1 S1, nx i S = some (some d) ∧ g d env S = some (env1, S1) ∧ WS b env1 S1 fun f e' S' => f = .nx ∧ I (i + 1) e' S')
  (stop : ∀ env S, I n env S → nx n S = some none) (q : ∀ e' S', I n e' S' → QS .nx e' S') : WS (mFor it g b) env S QS := by
 obtain ⟨f, e', S', e1, rfl, h⟩ := forL step stop n 0 env S1 (by omega) h0
 refine ⟨.nx, e', S', ?_, q e' S' h⟩
 unfold mFor
 rw [hi, Option.bind_some]
 exact e1
theorem lcW {nx : Nxt} {g : MG} {t : MT} {e : ME} {n m : Nat} {I : Nat → List D → Sto → Prop} (hm : m < 1000000)
  (step : ∀ i acc S, i < m → acc.length ≤ i → S[n]? = some (.lst acc) → I i acc S → ∃ d env1 S1, nx i S = some (some d) ∧ g d env S = some (env1, S1) ∧ WT t env1 S1 fun b S2 =>
   (b = true → WE e env1 S2 fun x S3 => S3[n]? = some (.lst acc) ∧ I (i + 1) (acc ++ [x]) (S3.set n (.lst (acc ++ [x])))) ∧ (b = false → S2[n]? = some (.lst acc) ∧ I (i + 1) acc S2))
  (stop : ∀ acc S, I m acc S → nx m S = some none) : ∀ (k i : Nat) (acc : List D) (S : Sto), m = i + k → acc.length ≤ i → S[n]? = some (.lst acc) → I i acc S →
  ∃ acc' S', mLcL nx g t e n (k + 1) i env S = some S' ∧ S'[n]? = some (.lst acc') ∧ acc'.length ≤ m ∧ I m acc' S' := by
 intro k
 induction k with
 | zero =>
  intro i acc S hi hl hn h
  have hi' : i = m := by omega
  subst hi'
  refine ⟨acc, S, ?_, hn, hl, h⟩
  unfold mLcL
  rw [stop acc S h]
  rfl
 | succ k ih =>
  intro i acc S hi hl hn h
  have hz : acc.length < sizeLine := by
   have : 1000000 ≤ sizeLine := by decide
   omega
  obtain ⟨d, env1, S1, e1, e2, b, S2, e3, h1, h2⟩ := step i acc S (by omega) hl hn h
  cases b with
  | true =>
   obtain ⟨x, S3, e4, h3, h4⟩ := h1 rfl
   have hn3 : n < S3.length := (List.getElem?_eq_some_iff.mp h3).1
   obtain ⟨acc', S', e5, q⟩ := ih (i + 1) (acc ++ [x]) (S3.set n (.lst (acc ++ [x]))) (by omega) (by simp; omega) (by rw [List.getElem?_set_self hn3]) h4
   refine ⟨acc', S', ?_, q⟩
   unfold mLcL
   rw [e1, Option.bind_some]
   dsimp only
   rw [e2, Option.bind_some]
   dsimp only
   rw [e3, Option.bind_some]
   dsimp only
   rw [if_pos rfl, e4, Option.bind_some]
   dsimp only
   rw [h3]
   dsimp only
   rw [if_pos hz]
   exact e5
  | false =>
   obtain ⟨h3, h4⟩ := h2 rfl
   obtain ⟨acc', S', e5, q⟩ := ih (i + 1) acc S2 (by omega) (by omega) h3 h4
   refine ⟨acc', S', ?_, q⟩
   unfold mLcL
   rw [e1, Option.bind_some]
   dsimp only
   rw [e2, Option.bind_some]
   dsimp only
   rw [e3, Option.bind_some]
   exact e5
theorem wE_lc {it : MI} {g : MG} {t : MT} {e : ME} {vs : List Nat} {nx : Nxt} {m : Nat} {S1 : Sto} {I : Nat → List D → Sto → Prop} (hm : m < 1000000) (hi : it env S = some ((m + 1, nx), S1)) (h0 : I 0 [] (S1 ++ [.lst []]))
  (step : ∀ i acc S, i < m → acc.length ≤ i → S[S1.length]? = some (.lst acc) → I i acc S → ∃ d env1 S2, nx i S = some (some d) ∧ g d (wipeE env vs) S = some (env1, S2) ∧ WT t env1 S2 fun b S3 =>
   (b = true → WE e env1 S3 fun x S4 => S4[S1.length]? = some (.lst acc) ∧ I (i + 1) (acc ++ [x]) (S4.set S1.length (.lst (acc ++ [x])))) ∧ (b = false → S3[S1.length]? = some (.lst acc) ∧ I (i + 1) acc S3))
  (stop : ∀ acc S, I m acc S → nx m S = some none) (q : ∀ acc S', S'[S1.length]? = some (.lst acc) → acc.length ≤ m → I m acc S' → Q (.ref S1.length) S') : WE (mLc it g t e vs) env S Q := by
 obtain ⟨acc, S', e1, h1, h2, h3⟩ := lcW (env := wipeE env vs) (n := S1.length) hm step stop m 0 [] (S1 ++ [.lst []]) (by omega) (Nat.le_refl _) (by simp) h0
 refine ⟨_, S', ?_, q acc S' h1 h2 h3⟩
 unfold mLc
 rw [hi, Option.bind_some]
 dsimp only
 rw [e1]
 rfl
end
end WP
end
local macro_rules | `(tactic| and_intros) => `(tactic| repeat (first | with_reducible refine WP.wB ?_ | with_reducible refine WP.wS_ifRet ?_ | with_reducible refine WP.wS_then ?_ | with_reducible refine WP.wS_asg ?_ | with_reducible refine WP.wS_if ?_ | with_reducible refine WP.wS_ret ?_ | with_reducible refine WP.wS_next ?_ | with_reducible refine WP.wS_drop ?_ | with_reducible refine WP.wS_par ?_ | with_reducible refine WP.wE_bin ?_ | with_reducible refine WP.wE_c ?_ | with_reducible refine WP.wE_blt ?_ | with_reducible refine WP.wE_call ?_ | with_reducible refine WP.wE_callK ?_ | with_reducible refine WP.wE_tup ?_ | with_reducible refine WP.wE_lst ?_ | with_reducible refine WP.wE_if ?_ | with_reducible refine WP.wE_andV ?_ | with_reducible refine WP.wE_mt ?_ | with_reducible refine WP.wA_cons ?_ | with_reducible refine WP.wA_nil ?_ | with_reducible refine WP.wT_b ?_ | with_reducible refine WP.wT_tru ?_ | with_reducible refine WP.wT_not ?_ | with_reducible refine WP.wT_and ?_ | with_reducible refine WP.wT_or ?_ | with_reducible refine WP.wT_yes ?_ | with_reducible refine WP.wE_w ?_ | refine ⟨rfl, ?_⟩ | refine ⟨_, rfl, ?_⟩ | refine ⟨WP.sz (by simp), ?_⟩))
section
namespace K33
open PySem PySem.Spec PyProof.Rows L2 PL
def topS (i : Nat) : Stmt := PySem.Challenge.pw_forktales_k33_stand_texts_told_and_refus.main.body.getD i (.Pass ⟨0, 0, 0, 0⟩)
abbrev s0 : Stmt := topS 2
def N0 : List Str := [(Str.ofString "thing")]
def P0 : List Str := [(Str.ofString "thing")]
theorem S0 : FnScope N0 P0 (defScope s0) := ⟨rfl, rfl, rfl, by decide +kernel, rfl, by decide +kernel, by decide +kernel⟩
abbrev s1 : Stmt := topS 4
def N1 : List Str := [(Str.ofString "words")]
def P1 : List Str := [(Str.ofString "words")]
theorem S1 : FnScope N1 P1 (defScope s1) := ⟨rfl, rfl, rfl, by decide +kernel, rfl, by decide +kernel, by decide +kernel⟩
abbrev s2 : Stmt := topS 5
def N2 : List Str := [(Str.ofString "word"), (Str.ofString "read"), (Str.ofString "things"), (Str.ofString "part")]
def P2 : List Str := [(Str.ofString "word"), (Str.ofString "read")]
theorem S2 : FnScope N2 P2 (defScope s2) := ⟨rfl, rfl, rfl, by decide +kernel, rfl, by decide +kernel, by decide +kernel⟩
abbrev s3 : Stmt := topS 6
def N3 : List Str := [(Str.ofString "word"), (Str.ofString "sign"), (Str.ofString "parts")]
def P3 : List Str := [(Str.ofString "word"), (Str.ofString "sign")]
theorem S3 : FnScope N3 P3 (defScope s3) := ⟨rfl, rfl, rfl, by decide +kernel, rfl, by decide +kernel, by decide +kernel⟩
abbrev s4 : Stmt := topS 7
def N4 : List Str := [(Str.ofString "word")]
def P4 : List Str := [(Str.ofString "word")]
theorem S4 : FnScope N4 P4 (defScope s4) := ⟨rfl, rfl, rfl, by decide +kernel, rfl, by decide +kernel, by decide +kernel⟩
abbrev s5 : Stmt := topS 8
def N5 : List Str := [(Str.ofString "word"), (Str.ofString "sign"), (Str.ofString "pair")]
def P5 : List Str := [(Str.ofString "word"), (Str.ofString "sign")]
theorem S5 : FnScope N5 P5 (defScope s5) := ⟨rfl, rfl, rfl, by decide +kernel, rfl, by decide +kernel, by decide +kernel⟩
abbrev s6 : Stmt := topS 11
def N6 : List Str := [(Str.ofString "word"), (Str.ofString "figures")]
def P6 : List Str := [(Str.ofString "word")]
theorem S6 : FnScope N6 P6 (defScope s6) := ⟨rfl, rfl, rfl, by decide +kernel, rfl, by decide +kernel, by decide +kernel⟩
abbrev s7 : Stmt := topS 12
def N7 : List Str := [(Str.ofString "signs"), (Str.ofString "sign")]
def P7 : List Str := [(Str.ofString "signs")]
theorem S7 : FnScope N7 P7 (defScope s7) := ⟨rfl, rfl, rfl, by decide +kernel, rfl, by decide +kernel, by decide +kernel⟩
abbrev s8 : Stmt := topS 25
def N8 : List Str := [(Str.ofString "stand"), (Str.ofString "scene"), (Str.ofString "stack"), (Str.ofString "numbers"), (Str.ofString "wheres"), (Str.ofString "seen"), (Str.ofString "made"), (Str.ofString "digit"), (Str.ofString "words"), (Str.ofString "number"), (Str.ofString "where"), (Str.ofString "name"), (Str.ofString "many"), (Str.ofString "choice")]
def P8 : List Str := [(Str.ofString "stand")]
theorem S8 : FnScope N8 P8 (defScope s8) := ⟨rfl, rfl, rfl, by decide +kernel, rfl, by decide +kernel, by decide +kernel⟩
abbrev s9 : Stmt := topS 27
def N9 : List Str := [(Str.ofString "word"), (Str.ofString "stack")]
def P9 : List Str := [(Str.ofString "word")]
theorem S9 : FnScope N9 P9 (defScope s9) := ⟨rfl, rfl, rfl, by decide +kernel, rfl, by decide +kernel, by decide +kernel⟩
abbrev s10 : Stmt := topS 28
def N10 : List Str := [(Str.ofString "word")]
def P10 : List Str := [(Str.ofString "word")]
theorem S10 : FnScope N10 P10 (defScope s10) := ⟨rfl, rfl, rfl, by decide +kernel, rfl, by decide +kernel, by decide +kernel⟩
abbrev s11 : Stmt := topS 29
def N11 : List Str := [(Str.ofString "word")]
def P11 : List Str := [(Str.ofString "word")]
theorem S11 : FnScope N11 P11 (defScope s11) := ⟨rfl, rfl, rfl, by decide +kernel, rfl, by decide +kernel, by decide +kernel⟩
abbrev s12 : Stmt := topS 30
def N12 : List Str := [(Str.ofString "part"), (Str.ofString "where")]
def P12 : List Str := [(Str.ofString "part")]
theorem S12 : FnScope N12 P12 (defScope s12) := ⟨rfl, rfl, rfl, by decide +kernel, rfl, by decide +kernel, by decide +kernel⟩
abbrev s13 : Stmt := topS 31
def N13 : List Str := [(Str.ofString "word")]
def P13 : List Str := [(Str.ofString "word")]
theorem S13 : FnScope N13 P13 (defScope s13) := ⟨rfl, rfl, rfl, by decide +kernel, rfl, by decide +kernel, by decide +kernel⟩
abbrev s14 : Stmt := topS 32
def N14 : List Str := [(Str.ofString "part"), (Str.ofString "pair"), (Str.ofString "many")]
def P14 : List Str := [(Str.ofString "part")]
theorem S14 : FnScope N14 P14 (defScope s14) := ⟨rfl, rfl, rfl, by decide +kernel, rfl, by decide +kernel, by decide +kernel⟩
abbrev s15 : Stmt := topS 33
def N15 : List Str := [(Str.ofString "word")]
def P15 : List Str := [(Str.ofString "word")]
theorem S15 : FnScope N15 P15 (defScope s15) := ⟨rfl, rfl, rfl, by decide +kernel, rfl, by decide +kernel, by decide +kernel⟩
abbrev s16 : Stmt := topS 34
def N16 : List Str := [(Str.ofString "part")]
def P16 : List Str := [(Str.ofString "part")]
theorem S16 : FnScope N16 P16 (defScope s16) := ⟨rfl, rfl, rfl, by decide +kernel, rfl, by decide +kernel, by decide +kernel⟩
abbrev s17 : Stmt := topS 36
def N17 : List Str := [(Str.ofString "_law_script")]
def P17 : List Str := [(Str.ofString "_law_script")]
theorem S17 : FnScope N17 P17 (defScope s17) := ⟨rfl, rfl, rfl, by decide +kernel, rfl, by decide +kernel, by decide +kernel⟩
abbrev s18 : Stmt := topS 37
def N18 : List Str := [(Str.ofString "_law_feed_here"), (Str.ofString "_law_many"), (Str.ofString "_law_figure_now"), (Str.ofString "_law_cell"), (Str.ofString "_law_mixed")]
def P18 : List Str := [(Str.ofString "_law_feed_here"), (Str.ofString "_law_many")]
theorem S18 : FnScope N18 P18 (defScope s18) := ⟨rfl, rfl, rfl, by decide +kernel, rfl, by decide +kernel, by decide +kernel⟩
abbrev s19 : Stmt := topS 38
def N19 : List Str := [(Str.ofString "_law_feed_here"), (Str.ofString "_law_some")]
def P19 : List Str := [(Str.ofString "_law_feed_here"), (Str.ofString "_law_some")]
theorem S19 : FnScope N19 P19 (defScope s19) := ⟨rfl, rfl, rfl, by decide +kernel, rfl, by decide +kernel, by decide +kernel⟩
abbrev s20 : Stmt := topS 40
def N20 : List Str := [(Str.ofString "_law_some")]
def P20 : List Str := [(Str.ofString "_law_some")]
theorem S20 : FnScope N20 P20 (defScope s20) := ⟨rfl, rfl, rfl, by decide +kernel, rfl, by decide +kernel, by decide +kernel⟩
abbrev s21 : Stmt := topS 41
def N21 : List Str := [(Str.ofString "_law_post"), (Str.ofString "_law_found"), (Str.ofString "_law_many"), (Str.ofString "_law_word"), (Str.ofString "_law_name"), (Str.ofString "_law_tag")]
def P21 : List Str := [(Str.ofString "_law_post")]
theorem S21 : FnScope N21 P21 (defScope s21) := ⟨rfl, rfl, rfl, by decide +kernel, rfl, by decide +kernel, by decide +kernel⟩
abbrev s22 : Stmt := topS 42
def N22 : List Str := [(Str.ofString "_law_feed_here"), (Str.ofString "_law_tags"), (Str.ofString "_law_many"), (Str.ofString "_law_pile"), (Str.ofString "_law_k"), (Str.ofString "_law_worths"), (Str.ofString "_law_wheres"), (Str.ofString "_law_seen_now"), (Str.ofString "_law_kept")]
def P22 : List Str := [(Str.ofString "_law_feed_here")]
theorem S22 : FnScope N22 P22 (defScope s22) := ⟨rfl, rfl, rfl, by decide +kernel, rfl, by decide +kernel, by decide +kernel⟩
abbrev s23 : Stmt := topS 43
def N23 : List Str := [(Str.ofString "_law_k"), (Str.ofString "_law_every"), (Str.ofString "_law_numbers"), (Str.ofString "_law_found")]
def P23 : List Str := [(Str.ofString "_law_k")]
theorem S23 : FnScope N23 P23 (defScope s23) := ⟨rfl, rfl, rfl, by decide +kernel, rfl, by decide +kernel, by decide +kernel⟩
abbrev s24 : Stmt := topS 44
def N24 : List Str := [(Str.ofString "_law_k"), (Str.ofString "_law_found")]
def P24 : List Str := [(Str.ofString "_law_k")]
theorem S24 : FnScope N24 P24 (defScope s24) := ⟨rfl, rfl, rfl, by decide +kernel, rfl, by decide +kernel, by decide +kernel⟩
abbrev s25 : Stmt := topS 45
def N25 : List Str := [(Str.ofString "_law_script"), (Str.ofString "_law_feed_here"), (Str.ofString "_law_turn"), (Str.ofString "_law_post"), (Str.ofString "_law_kept"), (Str.ofString "_law_words_here"), (Str.ofString "_law_things"), (Str.ofString "_law_k"), (Str.ofString "_law_word"), (Str.ofString "_law_late"), (Str.ofString "_law_told"), (Str.ofString "_law_at"), (Str.ofString "_law_odd"), (Str.ofString "_law_first"), (Str.ofString "_law_both"), (Str.ofString "_law_text_now"), (Str.ofString "_law_due"), (Str.ofString "_law_pairs"), (Str.ofString "_law_name"), (Str.ofString "_law_tag")]
def P25 : List Str := [(Str.ofString "_law_script")]
theorem S25 : FnScope N25 P25 (defScope s25) := ⟨rfl, rfl, rfl, by decide +kernel, rfl, by decide +kernel, by decide +kernel⟩
abbrev s26 : Stmt := topS 23
def N26 : List Str := [(Str.ofString "line"), (Str.ofString "words"), (Str.ofString "at"), (Str.ofString "reads"), (Str.ofString "values"), (Str.ofString "read"), (Str.ofString "place"), (Str.ofString "value")]
def P26 : List Str := [(Str.ofString "line"), (Str.ofString "words"), (Str.ofString "at"), (Str.ofString "reads")]
theorem S26 : FnScope N26 P26 (defScope s26) := ⟨rfl, rfl, rfl, by decide +kernel, rfl, by decide +kernel, by decide +kernel⟩
abbrev s27 : Stmt := topS 26
def N27 : List Str := [(Str.ofString "text"), (Str.ofString "reads")]
def P27 : List Str := [(Str.ofString "text")]
theorem S27 : FnScope N27 P27 (defScope s27) := ⟨rfl, rfl, rfl, by decide +kernel, rfl, by decide +kernel, by decide +kernel⟩
abbrev s28 : Stmt := topS 39
def N28 : List Str := [(Str.ofString "_law_ask"), (Str.ofString "_law_found"), (Str.ofString "e"), (Str.ofString "_law_lots"), (Str.ofString "_law_others")]
def P28 : List Str := [(Str.ofString "_law_ask")]
theorem S28 : FnScope N28 P28 (defScope s28) := ⟨rfl, rfl, rfl, by decide +kernel, rfl, by decide +kernel, by decide +kernel⟩
abbrev s29 : Stmt := inClass (topS 21) 0
def N29 : List Str := [(Str.ofString "self"), (Str.ofString "line"), (Str.ofString "word")]
def P29 : List Str := [(Str.ofString "self"), (Str.ofString "line"), (Str.ofString "word")]
theorem S29 : FnScope N29 P29 (defScope s29) := ⟨rfl, rfl, rfl, by decide +kernel, rfl, by decide +kernel, by decide +kernel⟩
def dS (i : Nat) : Stmt := match i with
 | 0 => s0
 | 1 => s1
 | 2 => s2
 | 3 => s3
 | 4 => s4
 | 5 => s5
 | 6 => s6
 | 7 => s7
 | 8 => s8
 | 9 => s9
 | 10 => s10
 | 11 => s11
 | 12 => s12
 | 13 => s13
 | 14 => s14
 | 15 => s15
 | 16 => s16
 | 17 => s17
 | 18 => s18
 | 19 => s19
 | 20 => s20
 | 21 => s21
 | 22 => s22
 | 23 => s23
 | 24 => s24
 | 25 => s25
 | 26 => s26
 | 27 => s27
 | 28 => s28
 | 29 => s29
 | _ => s0
def dX (i : Nat) : Str := match i with
 | 0 => (Str.ofString "is_word")
 | 1 => (Str.ofString "listed")
 | 2 => (Str.ofString "unlisted")
 | 3 => (Str.ofString "halves")
 | 4 => (Str.ofString "word_read")
 | 5 => (Str.ofString "pair_read")
 | 6 => (Str.ofString "number_read")
 | 7 => (Str.ofString "_are_figures")
 | 8 => (Str.ofString "stand_text")
 | 9 => (Str.ofString "_stack_read")
 | 10 => (Str.ofString "_numbers_read")
 | 11 => (Str.ofString "_wheres_read")
 | 12 => (Str.ofString "_where_read")
 | 13 => (Str.ofString "_seen_read")
 | 14 => (Str.ofString "_seen_pair_read")
 | 15 => (Str.ofString "_made_read")
 | 16 => (Str.ofString "_choice_read")
 | 17 => (Str.ofString "_law_feed")
 | 18 => (Str.ofString "_law_draw")
 | 19 => (Str.ofString "_law_any")
 | 20 => (Str.ofString "_law_joined")
 | 21 => (Str.ofString "_law_words")
 | 22 => (Str.ofString "_law_any_post")
 | 23 => (Str.ofString "_law_bad_words")
 | 24 => (Str.ofString "_law_good_words")
 | 25 => (Str.ofString "law")
 | 26 => (Str.ofString "values_read")
 | 27 => (Str.ofString "stand_read")
 | 28 => (Str.ofString "_law_said")
 | 29 => (Str.ofString "NoText.__init__")
 | _ => Str.empty
def dP (i : Nat) : List Str := match i with
 | 0 => P0
 | 1 => P1
 | 2 => P2
 | 3 => P3
 | 4 => P4
 | 5 => P5
 | 6 => P6
 | 7 => P7
 | 8 => P8
 | 9 => P9
 | 10 => P10
 | 11 => P11
 | 12 => P12
 | 13 => P13
 | 14 => P14
 | 15 => P15
 | 16 => P16
 | 17 => P17
 | 18 => P18
 | 19 => P19
 | 20 => P20
 | 21 => P21
 | 22 => P22
 | 23 => P23
 | 24 => P24
 | 25 => P25
 | 26 => P26
 | 27 => P27
 | 28 => P28
 | 29 => P29
 | _ => []
def dW (i : Nat) : Bool := match i with
 | _ => false
def dN (i : Nat) : Nat := match i with
 | 0 => 1
 | 1 => 1
 | 2 => 2
 | 3 => 2
 | 4 => 1
 | 5 => 2
 | 6 => 1
 | 7 => 1
 | 8 => 1
 | 9 => 1
 | 10 => 1
 | 11 => 1
 | 12 => 1
 | 13 => 1
 | 14 => 1
 | 15 => 1
 | 16 => 1
 | 17 => 1
 | 18 => 2
 | 19 => 2
 | 20 => 1
 | 21 => 1
 | 22 => 1
 | 23 => 1
 | 24 => 1
 | 25 => 1
 | 26 => 4
 | 27 => 1
 | 28 => 1
 | 29 => 3
 | _ => 0
def fsV (x : Str) : Option (Nat × Nat) := if x = (Str.ofString "word_read") then some (4, 1) else if x = (Str.ofString "number_read") then some (6, 1) else if x = (Str.ofString "_stack_read") then some (9, 1) else if x = (Str.ofString "_numbers_read") then some (10, 1) else if x = (Str.ofString "_wheres_read") then some (11, 1) else if x = (Str.ofString "_where_read") then some (12, 1) else if x = (Str.ofString "_seen_read") then some (13, 1) else if x = (Str.ofString "_seen_pair_read") then some (14, 1) else if x = (Str.ofString "_made_read") then some (15, 1) else if x = (Str.ofString "_choice_read") then some (16, 1) else none
def suS (c y : Str) : Option Bool := if c = (Str.ofString "NoText") ∧ y = (Str.ofString "TaleError") then some true else if c = (Str.ofString "NoText") ∧ y = (Str.ofString "LackError") then some false else if c = (Str.ofString "NoText") ∧ y = (Str.ofString "NoPaper") then some false else if c = (Str.ofString "NoText") ∧ y = (Str.ofString "NoStory") then some false else if c = (Str.ofString "NoText") ∧ y = (Str.ofString "NoChoice") then some false else if c = (Str.ofString "NoText") ∧ y = (Str.ofString "NoRow") then some false else if c = (Str.ofString "NoText") ∧ y = (Str.ofString "NoMore") then some false else if c = (Str.ofString "NoText") ∧ y = (Str.ofString "NoText") then some true else none
def stS (c : Str) (t : String) : Option Bool := if c = (Str.ofString "NoText") ∧ t = "ValueError" then some true else none
def flS : List Str := [(Str.ofString "at"), (Str.ofString "word"), (Str.ofString "why"), (Str.ofString "choice"), (Str.ofString "k"), (Str.ofString "line")]
structure Txt (w : World) (K : PySem.W.Frag) (mg : Str → Option Value) (f : Nat → Addr) (fd : Nat → FuncData) (xc cc : Nat → Addr) : Prop where
 d : ∀ i, i < 26 → DefAtW K mg (dX i) (dS i) (dP i) (dW i) (f i) (fd i)
 b_ValueError : mg (Str.ofString "ValueError") = none
 b_all : mg (Str.ofString "all") = none
 b_int : mg (Str.ofString "int") = none
 b_isinstance : mg (Str.ofString "isinstance") = none
 b_len : mg (Str.ofString "len") = none
 b_list : mg (Str.ofString "list") = none
 b_range : mg (Str.ofString "range") = none
 b_repr : mg (Str.ofString "repr") = none
 b_str : mg (Str.ofString "str") = none
 b_tuple : mg (Str.ofString "tuple") = none
 dx26 : DefAtW K mg (dX 26) (dS 26) (dP 26) (dW 26) (f 26) (fd 26)
 dx27 : DefAtW K mg (dX 27) (dS 27) (dP 27) (dW 27) (f 27) (fd 27)
 dx28 : DefAtW K mg (dX 28) (dS 28) (dP 28) (dW 28) (f 28) (fd 28)
 xg_TaleError : mg (Str.ofString "TaleError") = some (.ref (xc 0))
 xg_LackError : mg (Str.ofString "LackError") = some (.ref (xc 1))
 xg_NoPaper : mg (Str.ofString "NoPaper") = some (.ref (xc 2))
 xg_NoStory : mg (Str.ofString "NoStory") = some (.ref (xc 3))
 xg_NoChoice : mg (Str.ofString "NoChoice") = some (.ref (xc 4))
 xg_NoRow : mg (Str.ofString "NoRow") = some (.ref (xc 5))
 xg_NoMore : mg (Str.ofString "NoMore") = some (.ref (xc 6))
 xg_NoText : mg (Str.ofString "NoText") = some (.ref (xc 7))
 x2_NoText : XC2 K mg (Str.ofString "NoText") (Str.ofString "line") (Str.ofString "word") (xc 7) (f 29)
 xi_NoText : MetAt K (Str.ofString "__init__") (Str.ofString "NoText.__init__") s29 P29 (f 29) (fd 29)
 xk_NoText : XKit K mg suS stS flS (Str.ofString "NoText") (xc 7) (xc 0)
 c_FIGURES : ∃ u, mg (Str.ofString "FIGURES") = some u ∧ RelV (.str (Str.ofString "0123456789")) u
 c_DEEP : ∃ u, mg (Str.ofString "DEEP") = some u ∧ RelV (.int 3) u
 fl25 : FunL K (Str.ofString "law") (Str.ofString "law") s25 (f 25) (fd 25) (cc 25)
structure Lams [Tbl] (base : Heap) (mg : Str → Option Value) (cc pt : Nat → Addr) : Prop where
 t25 : LamX.TabB base mg (cc 25) (pt 25)
 m25 : (pt 25, (envOfC (Str.ofString "law") (defScope s25) 0 0 .none).qual ++ ("<lambda>" : Str)) ∈ Tbl.T
 u25 : ∀ p ∈ Tbl.T, p.1 = pt 25 → p.2 = (envOfC (Str.ofString "law") (defScope s25) 0 0 .none).qual ++ ("<lambda>" : Str)
def msS (a dd : Addr) (c : Str) : MS := mSeq (mAsg (mLst (mCons (mBlt (gIsE suS stS a dd c) (mCons (mVar 2) (mCons (mC (.fn (Str.ofString "NoPaper"))) (mNil)))) (mCons (mBlt (gIsE suS stS a dd c) (mCons (mVar 2) (mCons (mC (.fn (Str.ofString "NoChoice"))) (mNil)))) (mCons (mBlt (gIsE suS stS a dd c) (mCons (mVar 2) (mCons (mC (.fn (Str.ofString "NoRow"))) (mNil)))) (mCons (mBlt (gIsE suS stS a dd c) (mCons (mVar 2) (mCons (mC (.fn (Str.ofString "NoText"))) (mNil)))) (mNil)))))) (gN 3))
  (mSeq (mAsg (mOrV (mBlt (gIsE suS stS a dd c) (mCons (mVar 2) (mCons (mTup (mCons (mC (.fn (Str.ofString "NoStory"))) (mCons (mC (.fn (Str.ofString "NoMore"))) (mCons (mC (.fn (Str.ofString "LackError"))) (mNil))))) (mNil)))) (mNotV (mBlt (gIsE suS stS a dd c) (mCons (mVar 2) (mCons (mC (.ty "ValueError")) (mNil)))))) (gN 4))
  (mIfS (mAndT (asB (mBin dEq (mMt "list" gCountB (mVar 3) (mCons (mC (.bl true)) (mNil))) (mC (.int 1)))) (mNotT (mTru (mVar 4)))) (mIfS (mTru (mBin ixA (mVar 3) (mC (.int 0)))) (mAsg (mTup (mCons (mC (.str (Str.ofString "paper"))) (mCons (mFldE a dd (Str.ofString "word") (mVar 2)) (mCons (mFldE a dd (Str.ofString "at") (mVar 2)) (mNil))))) (gN 1)) (mIfS (mTru (mBin ixA (mVar 3) (mC (.int 1)))) (mAsg (mTup (mCons (mC (.str (Str.ofString "choice"))) (mCons (mFldE a dd (Str.ofString "choice") (mVar 2)) (mCons (mFldE a dd (Str.ofString "why") (mVar 2)) (mNil))))) (gN 1)) (mAsg (mIf (mTru (mBin ixA (mVar 3) (mC (.int 2)))) (mTup (mCons (mC (.str (Str.ofString "row"))) (mCons (mFldE a dd (Str.ofString "k") (mVar 2)) (mCons (mFldE a dd (Str.ofString "why") (mVar 2)) (mNil))))) (mTup (mCons (mC (.str (Str.ofString "text"))) (mCons (mFldE a dd (Str.ofString "line") (mVar 2)) (mCons (mFldE a dd (Str.ofString "word") (mVar 2)) (mNil)))))) (gN 1)))) (mNext)))
def hdS : Str → List Str → List D → Sto → Option (D × Sto) := fun c ns xs S =>
 if c = (Str.ofString "NoText") ∧ ns = [(Str.ofString "word"), (Str.ofString "line")] then (match xs with | [y, x] => some (.tup [.str (Str.ofString "text"), x, y], S ++ [.lst [.bl false, .bl false, .bl false, .bl true]]) | _ => none) else
 none
def okS (c : Str) : Prop := c = (Str.ofString "NoText")
def m0 (C : Nat → MF) : MF := mBody 1 (mSeq (mIfS (mOrT (mNotT (mTru (mBlt gIsi (mCons (mVar 0) (mCons (mC (.ty "str")) (mNil)))))) (asB (mBin xGt (mBlt gLen (mCons (mVar 0) (mNil))) (mC (.int 8))))) (mRet (mC (.bl false))) (mNext))
  (mRet (mAndV (mMt "str" (gIsT Txt.isascii) (mVar 0) mNil) (mAndV (mMt "str" (gIsT Txt.isalpha) (mVar 0) mNil) (mMt "str" (gIsT Txt.islower) (mVar 0) mNil)))))
def m1 (C : Nat → MF) : MF := mBody 1 (mRet (mIf (mTru (mVar 0)) (mMt "str" gJoinA (mC (.str (Str.ofString ","))) (mCons (mVar 0) (mNil))) (mC (.str (Str.ofString "-")))))
def m2 (C : Nat → MF) : MF := mBody 4 (mSeq (mIfS (asB (mBin dEq (mVar 0) (mC (.str (Str.ofString "-"))))) (mRet (mTup (mNil))) (mNext))
  (mSeq (mAsg (mLc (mItr (mMt "str" gSplit (mVar 0) (mCons (mC (.str (Str.ofString ","))) (mNil)))) (gN 3) (mYes) (mCallV 1 fsV C (mCons (mVar 3) (mNil))) [3]) (gN 2))
  (mRet (mIf (mOrTT (asB (mBin (inA id) (mC .non) (mVar 2))) (asB (mBin (inP false) (mC .non) (mVar 2)))) (mC .non) (mBlt gTuple (mCons (mVar 2) (mNil)))))))
def m3 (C : Nat → MF) : MF := mBody 3 (mSeq (mAsg (mMt "str" gSplit (mVar 0) (mCons (mVar 1) (mNil))) (gN 2))
  (mRet (mIf (asB (mBin dEq (mBlt gLen (mCons (mVar 2) (mNil))) (mC (.int 2)))) (mTup (mCons (mBin ixA (mVar 2) (mC (.int 0))) (mCons (mBin ixA (mVar 2) (mC (.int 1))) (mNil)))) (mC .non))))
def m4 (C : Nat → MF) : MF := mBody 1 (mRet (mIf (mTru (mCall 1 (C 0) (mCons (mVar 0) (mNil)))) (mVar 0) (mC .non)))
def m5 (C : Nat → MF) : MF := mBody 3 (mSeq (mAsg (mCall 2 (C 3) (mCons (mVar 0) (mCons (mVar 1) (mNil)))) (gN 2))
  (mSeq (mIfS (mOrT (asB (mBin dIsO (mVar 2) (mC .non))) (mOrT (mNotT (mTru (mCall 1 (C 0) (mCons (mBin ixA (mVar 2) (mC (.int 0))) (mNil))))) (mNotT (mTru (mCall 1 (C 0) (mCons (mBin ixA (mVar 2) (mC (.int 1))) (mNil))))))) (mRet (mC .non)) (mNext))
  (mRet (mVar 2))))
def m6 (C : Nat → MF) : MF := mBody 2 (mSeq (mAsg (mIf (mTru (mMt "str" gStarts (mVar 0) (mCons (mC (.str (Str.ofString "-"))) (mNil)))) (mSl slA (mVar 0) (mPart (mC (.int 1))) (mNo)) (mVar 0)) (gN 1))
  (mSeq (mIfS (mOrT (mNotT (asB (mChain xLe xLe (mC (.int 1)) (mBlt gLen (mCons (mVar 1) (mNil))) (mC (.int 60))))) (mNotT (mTru (mCall 1 (C 7) (mCons (mVar 1) (mNil)))))) (mRet (mC .non)) (mNext))
  (mSeq (mIfS (mAndT (asB (mBin dEq (mBin ixA (mVar 1) (mC (.int 0))) (mC (.str (Str.ofString "0"))))) (asB (mBin dNe (mVar 0) (mC (.str (Str.ofString "0")))))) (mRet (mC .non)) (mNext))
  (mRet (mBlt (gOr gInt gIntS) (mCons (mVar 0) (mNil)))))))
def m7 (C : Nat → MF) : MF := mBody 2 (mRet (mBlt gAll (mCons (mLc (mItr (mVar 0)) (gN 1) (mYes) (mOr (mBin (inA id) (mVar 1) (mC (.str (Str.ofString "0123456789")))) (mBin (inP false) (mVar 1) (mC (.str (Str.ofString "0123456789"))))) [1]) (mNil))))
def m8 (C : Nat → MF) : MF := mBody 14 (mSeq (mAsg (mVar 0) (gT 7 (gsC (gN 1) (gsC (gN 2) (gsC (gN 3) (gsC (gN 4) (gsC (gN 5) (gsC (gN 6) (gsC (gN 7) (gsN))))))))))
  (mSeq (mAsg (mLst (mCons (mVar 1) (mCons (mCall 1 (C 1) (mCons (mVar 2) (mNil))) (mCons (mCall 1 (C 1) (mCons (mLc (mItr (mVar 3)) (gN 9) (mYes) (mBlt gStrI (mCons (mVar 9) (mNil))) [9]) (mNil))) (mCons (mCall 1 (C 1) (mCons (mLc (mItr (mVar 4)) (gN 10) (mYes) (mMt "str" gJoinA (mC (.str (Str.ofString ":"))) (mCons (mVar 10) (mNil))) [10]) (mNil))) (mCons (mCall 1 (C 1) (mCons (mLc (mItr (mVar 5)) (gT 2 (gsC (gN 11) (gsC (gN 12) (gsN)))) (mYes) (mFstr [(mFmt (mVar 11)), (mC (.str (Str.ofString ":"))), (mFmt (mVar 12))]) [11, 12]) (mNil))) (mCons (mCall 1 (C 1) (mCons (mLc (mItr (mVar 6)) (gN 13) (mYes) (mMt "str" gJoinA (mC (.str (Str.ofString "."))) (mCons (mVar 13) (mNil))) [13]) (mNil))) (mCons (mBlt gStrI (mCons (mVar 7) (mNil))) (mNil))))))))) (gN 8))
  (mRet (mMt "str" gJoinA (mC (.str (Str.ofString " "))) (mCons (mVar 8) (mNil))))))
def m9 (C : Nat → MF) : MF := mBody 2 (mSeq (mAsg (mCall 2 (C 2) (mCons (mVar 0) (mCons (mC (.fn (Str.ofString "word_read"))) (mNil)))) (gN 1))
  (mRet (mIf (mOrT (asB (mBin dIsO (mVar 1) (mC .non))) (asB (mBin xGt (mBlt gLen (mCons (mVar 1) (mNil))) (mC (.int 3))))) (mC .non) (mVar 1))))
def m10 (C : Nat → MF) : MF := mBody 1 (mRet (mCall 2 (C 2) (mCons (mVar 0) (mCons (mC (.fn (Str.ofString "number_read"))) (mNil)))))
def m11 (C : Nat → MF) : MF := mBody 1 (mRet (mCall 2 (C 2) (mCons (mVar 0) (mCons (mC (.fn (Str.ofString "_where_read"))) (mNil)))))
def m12 (C : Nat → MF) : MF := mBody 2 (mSeq (mAsg (mCall 2 (C 5) (mCons (mVar 0) (mCons (mC (.str (Str.ofString ":"))) (mNil)))) (gN 1))
  (mRet (mIf (mOrT (asB (mBin dIsO (mVar 1) (mC .non))) (mOrTT (asB (mBin (inA not) (mBin ixA (mVar 1) (mC (.int 0))) (mTup (mCons (mC (.str (Str.ofString "at"))) (mCons (mC (.str (Str.ofString "with"))) (mNil)))))) (asB (mBin (inP true) (mBin ixA (mVar 1) (mC (.int 0))) (mTup (mCons (mC (.str (Str.ofString "at"))) (mCons (mC (.str (Str.ofString "with"))) (mNil)))))))) (mC .non) (mVar 1))))
def m13 (C : Nat → MF) : MF := mBody 1 (mRet (mCall 2 (C 2) (mCons (mVar 0) (mCons (mC (.fn (Str.ofString "_seen_pair_read"))) (mNil)))))
def m14 (C : Nat → MF) : MF := mBody 3 (mSeq (mAsg (mCall 2 (C 3) (mCons (mVar 0) (mCons (mC (.str (Str.ofString ":"))) (mNil)))) (gN 1))
  (mSeq (mIfS (mOrT (asB (mBin dIsO (mVar 1) (mC .non))) (mNotT (mTru (mCall 1 (C 0) (mCons (mBin ixA (mVar 1) (mC (.int 0))) (mNil)))))) (mRet (mC .non)) (mNext))
  (mSeq (mAsg (mCall 1 (C 6) (mCons (mBin ixA (mVar 1) (mC (.int 1))) (mNil))) (gN 2))
  (mRet (mIf (asB (mBin dIsO (mVar 2) (mC .non))) (mC .non) (mTup (mCons (mBin ixA (mVar 1) (mC (.int 0))) (mCons (mVar 2) (mNil)))))))))
def m15 (C : Nat → MF) : MF := mBody 1 (mRet (mCall 2 (C 2) (mCons (mVar 0) (mCons (mC (.fn (Str.ofString "_choice_read"))) (mNil)))))
def m16 (C : Nat → MF) : MF := mBody 1 (mRet (mCall 2 (C 5) (mCons (mVar 0) (mCons (mC (.str (Str.ofString "."))) (mNil)))))
def m17 (C : Nat → MF) : MF := mBody 1 (mRet (mLst (mCons (mBlt gList (mCons (mSl slA (mVar 0) (mNo) (mPart (mC (.int 63)))) (mNil))) (mCons (mC (.int 0)) (mCons (mC (.int 0)) (mCons (mC (.int 0)) (mNil)))))))
def m18 (C : Nat → MF) : MF := mBody 5 (mSeq (mAsg (mBin dAdd (mBin ixA (mVar 0) (mC (.int 3))) (mC (.int 1))) (gSubM (mVar 0) (mC (.int 3)) setSeq))
  (mSeq (mIfS (asB (mBin xGt (mBin ixA (mVar 0) (mC (.int 2))) (mC (.int 0)))) (mSeq (mAsg (mBin dMod (mBin ixA (mVar 0) (mC (.int 2))) (mVar 1)) (gN 2))
  (mSeq (mAsg (mBin dDiv (mBin ixA (mVar 0) (mC (.int 2))) (mVar 1)) (gSubM (mVar 0) (mC (.int 2)) setSeq))
  (mRet (mVar 2)))) (mNext))
  (mSeq (mAsg (mIf (asB (mBin dNe (mBin ixA (mVar 0) (mC (.int 0))) (mLst (mNil)))) (mBin ixA (mBin ixA (mVar 0) (mC (.int 0))) (mBin dMod (mBin ixA (mVar 0) (mC (.int 1))) (mBlt gLen (mCons (mBin ixA (mVar 0) (mC (.int 0))) (mNil))))) (mC (.int 67))) (gN 3))
  (mSeq (mAsg (mBin dAdd (mBin ixA (mVar 0) (mC (.int 1))) (mC (.int 1))) (gSubM (mVar 0) (mC (.int 1)) setSeq))
  (mSeq (mIfS (mAndT (asB (mBin xGe (mVar 3) (mBin dPow (mC (.int 10)) (mC (.int 18))))) (asB (mBin xLe (mBin ixA (mVar 0) (mC (.int 1))) (mBlt gLen (mCons (mBin ixA (mVar 0) (mC (.int 0))) (mNil)))))) (mSeq (mAsg (mBin dDiv (mVar 3) (mVar 1)) (gSubM (mVar 0) (mC (.int 2)) setSeq))
  (mRet (mBin dMod (mVar 3) (mVar 1)))) (mNext))
  (mSeq (mAsg (mBin dMod (mBin dPow (mBin dAdd (mBin dAdd (mBin dMod (mVar 3) (mC (.int 1000003919))) (mBin dMulZ (mC (.int 7907)) (mBin ixA (mVar 0) (mC (.int 3))))) (mC (.int 17))) (mC (.int 3))) (mC (.int 2147483629))) (gN 4))
  (mRet (mBin dMod (mBin dDiv (mBin dMod (mBin dPow (mBin dAdd (mVar 4) (mBin dMulZ (mC (.int 104659)) (mBin ixA (mVar 0) (mC (.int 3))))) (mC (.int 3))) (mC (.int 2147483587))) (mC (.int 32))) (mVar 1)))))))))
def m19 (C : Nat → MF) : MF := mBody 2 (mRet (mBin ixA (mVar 1) (mCall 2 (C 18) (mCons (mVar 0) (mCons (mBlt gLen (mCons (mVar 1) (mNil))) (mNil))))))
def m20 (C : Nat → MF) : MF := mBody 1 (mRet (mIf (asB (mBin xGt (mBlt gLen (mCons (mVar 0) (mNil))) (mC (.int 0)))) (mMt "str" gJoinA (mC (.str (Str.ofString ","))) (mCons (mVar 0) (mNil))) (mC (.str (Str.ofString "-")))))
def m21 (C : Nat → MF) : MF := mBody 6 (mSeq (mAsg (mLst (mCons (mBin ixA (mVar 0) (mC (.int 0))) (mCons (mCall 1 (C 20) (mCons (mBin ixA (mVar 0) (mC (.int 1))) (mNil))) (mCons (mCall 1 (C 20) (mCons (mLc (mItr (mBin ixA (mVar 0) (mC (.int 2)))) (gN 2) (mYes) (mBlt gStrI (mCons (mVar 2) (mNil))) [2]) (mNil))) (mNil))))) (gN 1))
  (mSeq (mDrop (mMt "list" gAppend (mVar 1) (mCons (mCall 1 (C 20) (mCons (mLc (mItr (mBin ixA (mVar 0) (mC (.int 3)))) (gT 2 (gsC (gN 3) (gsC (gN 4) (gsN)))) (mYes) (mBin dAdd (mBin dAdd (mVar 3) (mC (.str (Str.ofString ":")))) (mVar 4)) [3, 4]) (mNil))) (mNil))))
  (mSeq (mDrop (mMt "list" gAppend (mVar 1) (mCons (mCall 1 (C 20) (mCons (mLc (mItr (mBin ixA (mVar 0) (mC (.int 4)))) (gT 2 (gsC (gN 4) (gsC (gN 2) (gsN)))) (mYes) (mBin dAdd (mBin dAdd (mVar 4) (mC (.str (Str.ofString ":")))) (mBlt gStrI (mCons (mVar 2) (mNil)))) [4, 2]) (mNil))) (mNil))))
  (mRet (mBin dAdd (mVar 1) (mLst (mCons (mCall 1 (C 20) (mCons (mLc (mItr (mBin ixA (mVar 0) (mC (.int 5)))) (gT 2 (gsC (gN 4) (gsC (gN 5) (gsN)))) (mYes) (mBin dAdd (mBin dAdd (mVar 4) (mC (.str (Str.ofString ".")))) (mVar 5)) [4, 5]) (mNil))) (mCons (mBlt gStrI (mCons (mBin ixA (mVar 0) (mC (.int 6))) (mNil))) (mNil)))))))))
def m22 (C : Nat → MF) : MF := mBody 9 (mSeq (mAsg (mLst (mCons (mC (.str (Str.ofString "a"))) (mCons (mC (.str (Str.ofString "hall"))) (mCons (mC (.str (Str.ofString "abcdefgh"))) (mCons (mC (.str (Str.ofString "with"))) (mNil)))))) (gN 1))
  (mSeq (mAsg (mLst (mCons (mC (.int 0)) (mCons (mC (.int 7)) (mCons (mNeg (mC (.int 1))) (mCons (mNeg (mC (.int 30))) (mCons (mBin dPow (mC (.int 10)) (mC (.int 9))) (mCons (mBin dPow (mC (.int 10)) (mC (.int 59))) (mCons (mBin dSub (mC (.int 1)) (mBin dPow (mC (.int 10)) (mC (.int 60)))) (mNil))))))))) (gN 2))
  (mSeq (mAsg (mBlt gTuple (mCons (mLc (mR1 (mCons (mCall 2 (C 18) (mCons (mVar 0) (mCons (mC (.int 4)) (mNil)))) (mNil))) (gN 4) (mYes) (mCall 2 (C 19) (mCons (mVar 0) (mCons (mVar 1) (mNil)))) [4]) (mNil))) (gN 3))
  (mSeq (mAsg (mBlt gTuple (mCons (mLc (mR1 (mCons (mCall 2 (C 18) (mCons (mVar 0) (mCons (mC (.int 4)) (mNil)))) (mNil))) (gN 4) (mYes) (mCall 2 (C 19) (mCons (mVar 0) (mCons (mVar 2) (mNil)))) [4]) (mNil))) (gN 5))
  (mSeq (mAsg (mBlt gTuple (mCons (mLc (mR1 (mCons (mCall 2 (C 18) (mCons (mVar 0) (mCons (mC (.int 4)) (mNil)))) (mNil))) (gN 4) (mYes) (mTup (mCons (mCall 2 (C 19) (mCons (mVar 0) (mCons (mLst (mCons (mC (.str (Str.ofString "at"))) (mCons (mC (.str (Str.ofString "with"))) (mNil)))) (mNil)))) (mCons (mCall 2 (C 19) (mCons (mVar 0) (mCons (mVar 1) (mNil)))) (mNil)))) [4]) (mNil))) (gN 6))
  (mSeq (mAsg (mBlt gTuple (mCons (mLc (mR1 (mCons (mCall 2 (C 18) (mCons (mVar 0) (mCons (mC (.int 4)) (mNil)))) (mNil))) (gN 4) (mYes) (mTup (mCons (mCall 2 (C 19) (mCons (mVar 0) (mCons (mVar 1) (mNil)))) (mCons (mCall 2 (C 19) (mCons (mVar 0) (mCons (mVar 2) (mNil)))) (mNil)))) [4]) (mNil))) (gN 7))
  (mSeq (mAsg (mBlt gTuple (mCons (mLc (mR1 (mCons (mCall 2 (C 18) (mCons (mVar 0) (mCons (mC (.int 4)) (mNil)))) (mNil))) (gN 4) (mYes) (mTup (mCons (mCall 2 (C 19) (mCons (mVar 0) (mCons (mVar 1) (mNil)))) (mCons (mCall 2 (C 19) (mCons (mVar 0) (mCons (mVar 1) (mNil)))) (mNil)))) [4]) (mNil))) (gN 8))
  (mRet (mTup (mCons (mCall 2 (C 19) (mCons (mVar 0) (mCons (mVar 1) (mNil)))) (mCons (mVar 3) (mCons (mVar 5) (mCons (mVar 6) (mCons (mVar 7) (mCons (mVar 8) (mCons (mCall 2 (C 19) (mCons (mVar 0) (mCons (mVar 2) (mNil)))) (mNil)))))))))))))))))
def m23 (C : Nat → MF) : MF := mBody 4 (mSeq (mAsg (mLst (mCons (mC (.str (Str.ofString ""))) (mCons (mC (.str (Str.ofString "A"))) (mCons (mBin dAdd (mSl slA (mC (.str (Str.ofString "a b"))) (mNo) (mPart (mC (.int 1)))) (mC (.str (Str.ofString ",")))) (mCons (mC (.str (Str.ofString ",a"))) (mCons (mC (.str (Str.ofString "a,,b"))) (mCons (mC (.str (Str.ofString "-,a"))) (mCons (mC (.str (Str.ofString "a-"))) (mNil))))))))) (gN 1))
  (mSeq (mAsg (mLst (mCons (mC (.str (Str.ofString ""))) (mCons (mC (.str (Str.ofString "01"))) (mCons (mC (.str (Str.ofString "-0"))) (mCons (mC (.str (Str.ofString "+1"))) (mCons (mC (.str (Str.ofString "a"))) (mCons (mC (.str (Str.ofString "1."))) (mCons (mC (.str (Str.ofString "--1"))) (mCons (mBin dMulZ (mC (.str (Str.ofString "1"))) (mC (.int 61))) (mCons (mC (.str (Str.ofString "1/2"))) (mCons (mBin dAdd (mSl slA (mC (.str (Str.ofString "- 1"))) (mNo) (mPart (mC (.int 1)))) (mC (.str (Str.ofString "-")))) (mNil)))))))))))) (gN 2))
  (mSeq (mAsg (mDisp [(mC (.int 0), mLst (mCons (mC (.str (Str.ofString ""))) (mCons (mC (.str (Str.ofString "-"))) (mCons (mC (.str (Str.ofString "A"))) (mCons (mC (.str (Str.ofString "abcdefghi"))) (mCons (mC (.str (Str.ofString "a,b"))) (mCons (mC (.str (Str.ofString "7"))) (mCons (mC (.str (Str.ofString "a:"))) (mNil))))))))), (mC (.int 1), mBin dAdd (mVar 1) (mLst (mCons (mC (.str (Str.ofString "a,b,a,b"))) (mCons (mC (.str (Str.ofString "abcdefghi"))) (mCons (mC (.str (Str.ofString "a:b"))) (mNil))))))]) (gN 3))
  (mSeq (mAsg (mBin dAdd (mVar 2) (mLst (mCons (mC (.str (Str.ofString "1,"))) (mCons (mC (.str (Str.ofString "1,,2"))) (mCons (mC (.str (Str.ofString "0,-0"))) (mNil)))))) (gSubM (mVar 3) (mC (.int 2)) setSeq))
  (mSeq (mAsg (mBin dAdd (mVar 1) (mLst (mCons (mC (.str (Str.ofString "in:a"))) (mCons (mC (.str (Str.ofString "at"))) (mCons (mC (.str (Str.ofString "at:"))) (mCons (mC (.str (Str.ofString "at:A"))) (mCons (mC (.str (Str.ofString "at:a:b"))) (mCons (mC (.str (Str.ofString "with:abcdefghi"))) (mCons (mC (.str (Str.ofString ":a"))) (mNil)))))))))) (gSubM (mVar 3) (mC (.int 3)) setSeq))
  (mSeq (mAsg (mBin dAdd (mVar 1) (mLst (mCons (mC (.str (Str.ofString "a:"))) (mCons (mC (.str (Str.ofString "a:01"))) (mCons (mC (.str (Str.ofString "a:x"))) (mCons (mC (.str (Str.ofString ":1"))) (mCons (mC (.str (Str.ofString "a:1:2"))) (mCons (mC (.str (Str.ofString "A:1"))) (mCons (mC (.str (Str.ofString "a:1,b"))) (mNil)))))))))) (gSubM (mVar 3) (mC (.int 4)) setSeq))
  (mSeq (mAsg (mBin dAdd (mVar 1) (mLst (mCons (mC (.str (Str.ofString "a"))) (mCons (mC (.str (Str.ofString "a."))) (mCons (mC (.str (Str.ofString ".a"))) (mCons (mC (.str (Str.ofString "a.b.c"))) (mCons (mC (.str (Str.ofString "a:b"))) (mCons (mC (.str (Str.ofString "a.B"))) (mNil))))))))) (gSubM (mVar 3) (mC (.int 5)) setSeq))
  (mSeq (mAsg (mBin dAdd (mVar 2) (mLst (mCons (mC (.str (Str.ofString "-"))) (mCons (mC (.str (Str.ofString "0,1"))) (mNil))))) (gSubM (mVar 3) (mC (.int 6)) setSeq))
  (mRet (mBin ixA (mVar 3) (mVar 0)))))))))))
def m24 (C : Nat → MF) : MF := mBody 2 (mSeq (mAsg (mDisp [(mC (.int 0), mC (.str (Str.ofString "zz"))), (mC (.int 1), mC (.str (Str.ofString "b,b"))), (mC (.int 2), mC (.str (Str.ofString "0,-9"))), (mC (.int 3), mC (.str (Str.ofString "with:at,at:with"))), (mC (.int 4), mC (.str (Str.ofString "a:0,a:-5"))), (mC (.int 5), mC (.str (Str.ofString "b.a,a.b"))), (mC (.int 6), mC (.str (Str.ofString "-12")))]) (gN 1))
  (mRet (mBin ixA (mVar 1) (mVar 0))))
def m25 (C : Nat → MF) : MF := mBody 20 (mSeq (mAsg (mCall 1 (C 17) (mCons (mVar 0) (mNil))) (gN 1))
  (mSeq (mFor (mR1 (mCons (mC (.int 6)) (mNil))) (gN 2) (mSeq (mAsg (mCall 1 (C 22) (mCons (mVar 1) (mNil))) (gN 3))
  (mSeq (mAsg (mTup (mCons (mBlt (gOr (gOr gReprN (gOr gReprA gReprS)) gReprIB) (mCons (mVar 3) (mNil))) (mCons (mCall 1 (C 21) (mCons (mVar 3) (mNil))) (mNil)))) (gT 2 (gsC (gN 4) (gsC (gN 5) (gsN)))))
  (mSeq (mIfS (mOrT (asB (mBin dNe (mCall 1 (C 8) (mCons (mVar 3) (mNil))) (mMt "str" gJoinA (mC (.str (Str.ofString " "))) (mCons (mVar 5) (mNil))))) (mOrT (asB (mBin dNe (mCallK 1 1 [0] (C 8) (mCons (mVar 3) (mNil))) (mMt "str" gJoinA (mC (.str (Str.ofString " "))) (mCons (mVar 5) (mNil))))) (asB (mBin dNe (mBlt (gOr (gOr gReprN (gOr gReprA gReprS)) gReprIB) (mCons (mVar 3) (mNil))) (mVar 4))))) (mRet (mC (.bl false))) (mNext))
  (mSeq (mIfS (asB (mBin dNe (mBlt (gOr (gOr gReprN (gOr gReprA gReprS)) gReprIB) (mCons (mSaid (Str.ofString "told") hdS (mCallK 1 1 [0] (C 27) (mCons (mMt "str" gJoinA (mC (.str (Str.ofString " "))) (mCons (mVar 5) (mNil))) (mNil)))) (mNil))) (mBlt (gOr (gOr gReprN (gOr gReprA gReprS)) gReprIB) (mCons (mTup (mCons (mC (.str (Str.ofString "told"))) (mCons (mVar 3) (mNil)))) (mNil))))) (mRet (mC (.bl false))) (mNext))
  (mSeq (mAsg (mBin dAdd (mLc (mR2 (mCons (mC (.int 1)) (mCons (mC (.int 7)) (mNil)))) (gN 7) (mYes) (mTup (mCons (mMt "str" gJoinA (mC (.str (Str.ofString " "))) (mCons (mSl slA (mVar 5) (mNo) (mPart (mVar 7))) (mNil))) (mCons (mVar 7) (mNil)))) [7]) (mLst (mCons (mTup (mCons (mMt "str" gJoinA (mC (.str (Str.ofString " "))) (mCons (mBin dAdd (mVar 5) (mLst (mCons (mC (.str (Str.ofString "0"))) (mNil)))) (mNil))) (mCons (mC (.int 7)) (mNil)))) (mCons (mTup (mCons (mC (.str (Str.ofString ""))) (mCons (mC (.int 0)) (mNil)))) (mCons (mTup (mCons (mC (.str (Str.ofString " "))) (mCons (mC (.int 0)) (mNil)))) (mNil)))))) (gN 6))
  (mSeq (mAsg (mBin dAdd (mVar 6) (mLst (mCons (mTup (mCons (mBin dAdd (mMt "str" gJoinA (mC (.str (Str.ofString " "))) (mCons (mVar 5) (mNil))) (mC (.str (Str.ofString " ")))) (mCons (mC (.int 7)) (mNil)))) (mCons (mTup (mCons (mBin dAdd (mC (.str (Str.ofString " "))) (mMt "str" gJoinA (mC (.str (Str.ofString " "))) (mCons (mVar 5) (mNil)))) (mCons (mC (.int 0)) (mNil)))) (mCons (mTup (mCons (mMt "str" gJoinA (mC (.str (Str.ofString " "))) (mCons (mBin dAdd (mVar 5) (mLst (mCons (mC (.str (Str.ofString ""))) (mCons (mC (.str (Str.ofString "x"))) (mNil))))) (mNil))) (mCons (mC (.int 7)) (mNil)))) (mNil)))))) (gN 6))
  (mSeq (mFor (mR1 (mCons (mC (.int 7)) (mNil))) (gN 7) (mSeq (mFor (mItr (mCall 1 (C 23) (mCons (mVar 7) (mNil)))) (gN 8) (mDrop (mMt "list" gAppend (mVar 6) (mCons (mTup (mCons (mMt "str" gJoinA (mC (.str (Str.ofString " "))) (mCons (mBin dAdd (mBin dAdd (mSl slA (mVar 5) (mNo) (mPart (mVar 7))) (mLst (mCons (mVar 8) (mNil)))) (mSl slA (mVar 5) (mPart (mBin dAdd (mVar 7) (mC (.int 1)))) (mNo))) (mNil))) (mCons (mVar 7) (mNil)))) (mNil)))))
  (mSeq (mAsg (mBin dAdd (mBin dAdd (mSl slA (mVar 5) (mNo) (mPart (mVar 7))) (mLst (mCons (mCall 1 (C 24) (mCons (mVar 7) (mNil))) (mNil)))) (mSl slA (mVar 5) (mPart (mBin dAdd (mVar 7) (mC (.int 1)))) (mNo))) (gN 9))
  (mSeq (mAsg (mSaid (Str.ofString "told") hdS (mCallD 1 [] (C 27) (mCons (mMt "str" gJoinA (mC (.str (Str.ofString " "))) (mCons (mVar 9) (mNil))) (mNil)))) (gN 10))
  (mSeq (mIfS (mOrT (asB (mBin dNe (mBin ixA (mVar 10) (mC (.int 0))) (mC (.str (Str.ofString "told"))))) (asB (mBin dNe (mCall 1 (C 8) (mCons (mBin ixA (mVar 10) (mC (.int 1))) (mNil))) (mMt "str" gJoinA (mC (.str (Str.ofString " "))) (mCons (mVar 9) (mNil)))))) (mRet (mC (.bl false))) (mNext))
  (mSeq (mAsg (mCall 2 (C 18) (mCons (mVar 1) (mCons (mC (.int 7)) (mNil)))) (gN 11))
  (mSeq (mAsg (mBin ixA (mCall 1 (C 23) (mCons (mVar 11) (mNil))) (mCall 2 (C 18) (mCons (mVar 1) (mCons (mC (.int 7)) (mNil))))) (gN 12))
  (mSeq (mAsg (mBin ixA (mCall 1 (C 23) (mCons (mVar 7) (mNil))) (mCall 2 (C 18) (mCons (mVar 1) (mCons (mC (.int 7)) (mNil))))) (gN 13))
  (mSeq (mAsg (mBin dAdd (mBin dAdd (mSl slA (mVar 5) (mNo) (mPart (mVar 7))) (mLst (mCons (mVar 13) (mNil)))) (mSl slA (mVar 5) (mPart (mBin dAdd (mVar 7) (mC (.int 1)))) (mNo))) (gN 14))
  (mSeq (mAsg (mIf (asB (mBin xGt (mVar 11) (mVar 7))) (mBin dAdd (mBin dAdd (mSl slA (mVar 14) (mNo) (mPart (mVar 11))) (mLst (mCons (mVar 12) (mNil)))) (mSl slA (mVar 14) (mPart (mBin dAdd (mVar 11) (mC (.int 1)))) (mNo))) (mVar 14)) (gN 14))
  (mDrop (mMt "list" gAppend (mVar 6) (mCons (mTup (mCons (mMt "str" gJoinA (mC (.str (Str.ofString " "))) (mCons (mVar 14) (mNil))) (mCons (mVar 7) (mNil)))) (mNil))))))))))))))
  (mFor (mItr (mVar 6)) (gT 2 (gsC (gN 15) (gsC (gN 16) (gsN)))) (mIfS (asB (mBin dNe (mBlt (gOr (gOr gReprN (gOr gReprA gReprS)) gReprIB) (mCons (mSaid (Str.ofString "told") hdS (mCallD 1 [] (C 27) (mCons (mVar 15) (mNil)))) (mNil))) (mBlt (gOr (gOr gReprN (gOr gReprA gReprS)) gReprIB) (mCons (mTup (mCons (mC (.str (Str.ofString "text"))) (mCons (mC (.int 0)) (mCons (mVar 16) (mNil))))) (mNil))))) (mRet (mC (.bl false))) (mNext)))))))))))
  (mSeq (mAsg (mLst (mNil)) (gN 17))
  (mSeq (mFor (mItr (mC (.str (Str.ofString "abcdefgh")))) (gN 18) (mDrop (mMt "list" gExtend (mVar 17) (mCons (mLc (mItr (mC (.str (Str.ofString "pqrs")))) (gN 19) (mYes) (mTup (mCons (mVar 18) (mCons (mVar 19) (mNil)))) [19]) (mNil)))))
  (mSeq (mAsg (mTup (mCons (mC (.str (Str.ofString "a"))) (mCons (mTup (mNil)) (mCons (mTup (mCons (mC (.int 0)) (mCons (mC (.int 1)) (mCons (mC (.int 2)) (mCons (mC (.int 3)) (mNil)))))) (mCons (mBin dMulZ (mTup (mCons (mTup (mCons (mC (.str (Str.ofString "at"))) (mCons (mC (.str (Str.ofString "b"))) (mNil)))) (mNil))) (mC (.int 4))) (mCons (mBlt gTuple (mCons (mLc (mItr (mC (.str (Str.ofString "abcdefgh")))) (gN 18) (mYes) (mTup (mCons (mVar 18) (mCons (mC (.int 9)) (mNil)))) [18]) (mNil))) (mCons (mBlt gTuple (mCons (mVar 17) (mNil))) (mCons (mC (.int 5)) (mNil))))))))) (gN 3))
  (mSeq (mIfS (mOrT (asB (mBin dNe (mCall 1 (C 8) (mCons (mVar 3) (mNil))) (mMt "str" gJoinA (mC (.str (Str.ofString " "))) (mCons (mCall 1 (C 21) (mCons (mVar 3) (mNil))) (mNil))))) (asB (mBin dNe (mBlt (gOr (gOr gReprN (gOr gReprA gReprS)) gReprIB) (mCons (mCall 1 (mNoXF (C 27)) (mCons (mMt "str" gJoinA (mC (.str (Str.ofString " "))) (mCons (mCall 1 (C 21) (mCons (mVar 3) (mNil))) (mNil))) (mNil))) (mNil))) (mBlt (gOr (gOr gReprN (gOr gReprA gReprS)) gReprIB) (mCons (mVar 3) (mNil)))))) (mRet (mC (.bl false))) (mNext))
  (mRet (mBin dEq (mBlt (gOr (gOr gReprN (gOr gReprA gReprS)) gReprIB) (mCons (mSaid (Str.ofString "told") hdS (mCallD 1 [] (C 27) (mCons (mC (.str (Str.ofString "a - - - - - 0"))) (mNil)))) (mNil))) (mBlt (gOr (gOr gReprN (gOr gReprA gReprS)) gReprIB) (mCons (mTup (mCons (mC (.str (Str.ofString "told"))) (mCons (mTup (mCons (mC (.str (Str.ofString "a"))) (mCons (mTup (mNil)) (mCons (mTup (mNil)) (mCons (mTup (mNil)) (mCons (mTup (mNil)) (mCons (mTup (mNil)) (mCons (mC (.int 0)) (mNil))))))))) (mNil)))) (mNil)))))))))))
def m26 (C : Nat → MF) : MF := mBody 8 (mSeq (mNx (mAsg (mLst (mNil)) (gN 4)))
  (mSeq (mFor (mItr (mVar 3)) (gN 5) (mSeq (mNx (mAsg (mBin dAdd (mVar 2) (mBlt gLen (mCons (mVar 4) (mNil)))) (gN 6)))
  (mSeq (mNx (mAsg (mIf (asB (mBin xLt (mVar 6) (mBlt gLen (mCons (mVar 1) (mNil))))) (mCallV 5 fsV C (mCons (mBin ixA (mVar 1) (mVar 6)) (mNil))) (mC .non)) (gN 7)))
  (mSeq (mIfS (asB (mBin dIsO (mVar 7) (mC .non))) (mRaise (Str.ofString "NoText") [(Str.ofString "word"), (Str.ofString "line")] (mCons (mVar 0) (mCons (mVar 6) (mNil)))) mNext)
  (mSeq (mNx (mDrop (mMt "list" gAppend (mVar 4) (mCons (mVar 7) (mNil)))))
  (mNext))))))
  (mSeq (mIfS (asB (mBin xGt (mBlt gLen (mCons (mVar 1) (mNil))) (mBin dAdd (mVar 2) (mBlt gLen (mCons (mVar 4) (mNil)))))) (mRaise (Str.ofString "NoText") [(Str.ofString "word"), (Str.ofString "line")] (mCons (mVar 0) (mCons (mBin dAdd (mVar 2) (mBlt gLen (mCons (mVar 4) (mNil)))) (mNil)))) mNext)
  (mRet (mNoX (mVar 4))))))
def m27 (C : Nat → MF) : MF := mBody 2 (mSeq (mNx (mAsg (mTup (mCons (mC (.fn (Str.ofString "word_read"))) (mCons (mC (.fn (Str.ofString "_stack_read"))) (mCons (mC (.fn (Str.ofString "_numbers_read"))) (mCons (mC (.fn (Str.ofString "_wheres_read"))) (mCons (mC (.fn (Str.ofString "_seen_read"))) (mCons (mC (.fn (Str.ofString "_made_read"))) (mCons (mC (.fn (Str.ofString "number_read"))) (mNil))))))))) (gN 1)))
  (mRet (mTyX gTuple (mCallD 4 [] (C 26) (mCons (mC (.int 0)) (mCons (mMt "str" gSplit (mVar 0) (mCons (mC (.str (Str.ofString " "))) (mNil))) (mCons (mC (.int 0)) (mCons (mVar 1) (mNil)))))))))
def lv : Nat → Nat → MF
 | 0, _ => fun _ _ => none
 | k + 1, i => match i with
  | 0 => m0 (lv k)
  | 1 => m1 (lv k)
  | 2 => m2 (lv k)
  | 3 => m3 (lv k)
  | 4 => m4 (lv k)
  | 5 => m5 (lv k)
  | 6 => m6 (lv k)
  | 7 => m7 (lv k)
  | 8 => m8 (lv k)
  | 9 => m9 (lv k)
  | 10 => m10 (lv k)
  | 11 => m11 (lv k)
  | 12 => m12 (lv k)
  | 13 => m13 (lv k)
  | 14 => m14 (lv k)
  | 15 => m15 (lv k)
  | 16 => m16 (lv k)
  | 17 => m17 (lv k)
  | 18 => m18 (lv k)
  | 19 => m19 (lv k)
  | 20 => m20 (lv k)
  | 21 => m21 (lv k)
  | 22 => m22 (lv k)
  | 23 => m23 (lv k)
  | 24 => m24 (lv k)
  | 25 => m25 (lv k)
  | 26 => m26 (lv k)
  | 27 => m27 (lv k)
  | _ => fun _ _ => none
theorem hd_NoText (a dd : Addr) (S : Sto) (x y : D) : ∃ env', msS a dd (Str.ofString "NoText") (envSd N28.length (Str.ofString "odd") a dd (Str.ofString "NoText") [(Str.ofString "word"), (Str.ofString "line")] [y, x]) S = some (.nx, env', S ++ [.lst [.bl false, .bl false, .bl false, .bl true]]) ∧ env'[1]? = some (some (.tup [.str (Str.ofString "text"), x, y])) := by
 refine ⟨(((envSd N28.length (Str.ofString "odd") a dd (Str.ofString "NoText") [(Str.ofString "word"), (Str.ofString "line")] [y, x]).set 3 (some (.ref S.length))).set 4 (some (.bl false))).set 1 (some (.tup [.str (Str.ofString "text"), x, y])), ?_, rfl⟩
 have one : ∀ (z : Str) (b : Bool) (S : Sto), isOne suS stS (Str.ofString "NoText") (.fn z) = some b → gIsE suS stS a dd (Str.ofString "NoText") [(.exc a dd (Str.ofString "NoText") [(Str.ofString "word"), (Str.ofString "line")] [y, x]), .fn z] S = some (.bl b, S) := fun z b S h => by
  simp [gIsE, h]
 have onT : ∀ (z : String) (b : Bool) (S : Sto), isOne suS stS (Str.ofString "NoText") (.ty z) = some b → gIsE suS stS a dd (Str.ofString "NoText") [(.exc a dd (Str.ofString "NoText") [(Str.ofString "word"), (Str.ofString "line")] [y, x]), .ty z] S = some (.bl b, S) := fun z b S h => by
  simp [gIsE, h]
 have any : ∀ (zs : List D) (b : Bool) (S : Sto), isAny suS stS (Str.ofString "NoText") zs = some b → gIsE suS stS a dd (Str.ofString "NoText") [(.exc a dd (Str.ofString "NoText") [(Str.ofString "word"), (Str.ofString "line")] [y, x]), .tup zs] S = some (.bl b, S) := fun z b S h => by
  simp [gIsE, h]
 have n5 : N28.length = 5 := rfl
 have o1 := fun S => one (Str.ofString "NoPaper") false S (by decide)
 have o2 := fun S => one (Str.ofString "NoChoice") false S (by decide)
 have o3 := fun S => one (Str.ofString "NoRow") false S (by decide)
 have o4 := fun S => one (Str.ofString "NoText") true S (by decide)
 have o5 := fun S => any [.fn (Str.ofString "NoStory"), .fn (Str.ofString "NoMore"), .fn (Str.ofString "LackError")] false S (by decide)
 have o6 := fun S => onT "ValueError" true S (by decide)
 have k1 : (4 : Nat) ≤ sizeLine := by decide
 have k2 : (3 : Nat) ≤ sizeLine := by decide
 have dT : ∀ (b : Bool) (T : Sto), dTru (.bl b) T = some b := fun _ _ => rfl
 have k3 : ∀ xs : List D, dIs "list" (.ref S.length) (S ++ [.lst xs]) = true := fun xs => by simp [dIs]
 have e1 : ∀ T : Sto, dEq (.int 1) (.int 1) T = some (.bl true, T) := fun _ => rfl
 have i0 : ∀ (p q r t : D), ixA (.ref S.length) (.int 0) (S ++ [.lst [p, q, r, t]]) = some (p, S ++ [.lst [p, q, r, t]]) := fun _ _ _ _ => by simp [ixA, ixSeq, seqD, seqAt, L2.atI, show ixN 4 0 = some 0 from rfl]
 have i1 : ∀ (p q r t : D), ixA (.ref S.length) (.int 1) (S ++ [.lst [p, q, r, t]]) = some (q, S ++ [.lst [p, q, r, t]]) := fun _ _ _ _ => by simp [ixA, ixSeq, seqD, seqAt, L2.atI, show ixN 4 1 = some 1 from rfl]
 have i2 : ∀ (p q r t : D), ixA (.ref S.length) (.int 2) (S ++ [.lst [p, q, r, t]]) = some (r, S ++ [.lst [p, q, r, t]]) := fun _ _ _ _ => by simp [ixA, ixSeq, seqD, seqAt, L2.atI, show ixN 4 2 = some 2 from rfl]
 have zf : ((Str.ofString "line") == (Str.ofString "word")) = false := by decide
 unfold msS envSd
 rw [n5]
 simp [zf, mSeq, mAsg, mLst, mCons, mNil, mBlt, mVar, mC, o1, o2, o3, o4, o5, o6, mTup, k1, k2, newL, gN, mOrV, mNotV, mIfS, mAndT, asB, mBin, mMt, gCountB, seqAt, blsOf, mNotT, mTru, mFldE, mIf, List.lookup, dT, k3, e1, i0, i1, i2]
theorem hd_ok : ∀ c ns xs S d S', hdS c ns xs S = some (d, S') → okS c ∧ ∀ a dd, ∃ env', msS a dd c (envSd N28.length (Str.ofString "odd") a dd c ns xs) S = some (.nx, env', S') ∧ env'[1]? = some (some d) := by
 intro c ns xs S d S' h
 unfold hdS at h
 split at h
 ·rename_i e
  obtain ⟨rfl, rfl⟩ := e
  split at h
  case h_2 => cases h
  cases h
  refine ⟨by unfold okS; simp, fun a dd => ?_⟩
  exact hd_NoText a dd _ _ _
 cases h
theorem suite_ok {w : World} {f : Nat → Addr} {fd : Nat → FuncData} {xc cc : Nat → Addr} [Tbl] {X : Cx} {g : Addr} {cdg : Value} {s : Shared} {H : Hp} {k : Nat} {c : Str} {C CT a dd : Addr} {oe : Obj} {pn : List (Addr × Obj)} (T : Txt w X.K X.mg f fd xc cc) (KX : XKit X.K X.mg suS stS flS c C CT)
 (hr : Room (k + 1) (X.A.deeper (envOfC (Str.ofString "_law_said") (defScope s28) s.heap.objs.size g cdg))) (hz : Zc (.ref C) (some dd) oe) (hf : ∃ vs, oe.data = .fields vs) : CSs ((zCx X N28 (Str.ofString "_law_said") (defScope s28) g cdg s H).suite a ((a, oe) :: pn)) ((match defBody s28 with | [_, .Try _ [.ExceptHandler _ _ b _] _ _ _, _] => b | _ => [])) (msS a dd c) := by
 have hu70 := suite_un (X := zCx X N28 (Str.ofString "_law_said") (defScope s28) g cdg s H) (a := a) (pn := (a, oe) :: pn) hr
 refine cSs_cons ?_ ?_
 ·refine kSet 3 S28.nd ?_
  refine cE_lst ?_
  refine kA ?_ ?_
  ·refine kB (callR_isX KX.ex hz hf) (callS_isE KX.sb) T.b_isinstance (by rfl) ?_
   refine kA ?_ ?_
   ·exact cV 2
   ·refine kA ?_ ?_
    ·exact cE_fn (by rfl) T.xg_NoPaper
    ·exact cA_nil
  ·refine kA ?_ ?_
   ·refine kB (callR_isX KX.ex hz hf) (callS_isE KX.sb) T.b_isinstance (by rfl) ?_
    refine kA ?_ ?_
    ·exact cV 2
    ·refine kA ?_ ?_
     ·exact cE_fn (by rfl) T.xg_NoChoice
     ·exact cA_nil
   ·refine kA ?_ ?_
    ·refine kB (callR_isX KX.ex hz hf) (callS_isE KX.sb) T.b_isinstance (by rfl) ?_
     refine kA ?_ ?_
     ·exact cV 2
     ·refine kA ?_ ?_
      ·exact cE_fn (by rfl) T.xg_NoRow
      ·exact cA_nil
    ·refine kA ?_ ?_
     ·refine kB (callR_isX KX.ex hz hf) (callS_isE KX.sb) T.b_isinstance (by rfl) ?_
      refine kA ?_ ?_
      ·exact cV 2
      ·refine kA ?_ ?_
       ·exact cE_fn (by rfl) T.xg_NoText
       ·exact cA_nil
     ·exact cA_nil
 ·refine cSs_cons ?_ ?_
  ·refine kSet 4 S28.nd ?_
   refine cE_or ?_ ?_
   ·refine kB (callR_isX KX.ex hz hf) (callS_isE KX.sb) T.b_isinstance (by rfl) ?_
    refine kA ?_ ?_
    ·exact cV 2
    ·refine kA ?_ ?_
     ·refine cE_tup ?_
      refine kA ?_ ?_
      ·exact cE_fn (by rfl) T.xg_NoStory
      ·refine kA ?_ ?_
       ·exact cE_fn (by rfl) T.xg_NoMore
       ·refine kA ?_ ?_
        ·exact cE_fn (by rfl) T.xg_LackError
        ·exact cA_nil
     ·exact cA_nil
   ·refine cE_one ?_
    refine cE_not ?_
    refine kB (callR_isX KX.ex hz hf) (callS_isE KX.sb) T.b_isinstance (by rfl) ?_
    refine kA ?_ ?_
    ·exact cV 2
    ·refine kA ?_ ?_
     ·exact cE_bty T.b_ValueError (by rfl)
     ·exact cA_nil
  ·refine cSs_one ?_
   refine cS_if ?_ ?_ ?_
   ·refine cT_w ?_
    refine cW_and ?_ ?_
    ·refine kCmpT (op_eq.or (op_eqD (by omega))) (OpS.alt opS_sEq opS_deepEq) ?_ ?_
     ·refine kMt PySem.F.plainAttrs_list PySem.F.slot_list_count PySem.F.type_list_count mt_countB mtS_countB ?_ ?_
      ·exact cV 3
      ·refine kA ?_ ?_
       ·exact cE_bl
       ·exact cA_nil
     ·exact cE_int
    ·refine cW_and1 ?_
     refine cT_not ?_
     refine kTru ?_
     exact cV 4
   ·refine cSs_one ?_
    refine cS_if ?_ ?_ ?_
    ·refine kTru ?_
     refine kIx (by omega) ?_ ?_
     ·exact cV 3
     ·exact cE_int
    ·refine cSs_one ?_
     refine kSet 1 S28.nd ?_
     refine cE_tup ?_
     refine kA ?_ ?_
     ·exact cE_str
     ·refine kA ?_ ?_
      ·refine cE_fldE KX.xf (KX.nf _ (by decide)) hz hf ?_
       exact cV 2
      ·refine kA ?_ ?_
       ·refine cE_fldE KX.xf (KX.nf _ (by decide)) hz hf ?_
        exact cV 2
       ·exact cA_nil
    ·refine cSs_one ?_
     refine cS_if ?_ ?_ ?_
     ·refine kTru ?_
      refine kIx (by omega) ?_ ?_
      ·exact cV 3
      ·exact cE_int
     ·refine cSs_one ?_
      refine kSet 1 S28.nd ?_
      refine cE_tup ?_
      refine kA ?_ ?_
      ·exact cE_str
      ·refine kA ?_ ?_
       ·refine cE_fldE KX.xf (KX.nf _ (by decide)) hz hf ?_
        exact cV 2
       ·refine kA ?_ ?_
        ·refine cE_fldE KX.xf (KX.nf _ (by decide)) hz hf ?_
         exact cV 2
        ·exact cA_nil
     ·refine cSs_one ?_
      refine kSet 1 S28.nd ?_
      refine cE_if ?_ ?_ ?_
      ·refine kTru ?_
       refine kIx (by omega) ?_ ?_
       ·exact cV 3
       ·exact cE_int
      ·refine cE_tup ?_
       refine kA ?_ ?_
       ·exact cE_str
       ·refine kA ?_ ?_
        ·refine cE_fldE KX.xf (KX.nf _ (by decide)) hz hf ?_
         exact cV 2
        ·refine kA ?_ ?_
         ·refine cE_fldE KX.xf (KX.nf _ (by decide)) hz hf ?_
          exact cV 2
         ·exact cA_nil
      ·refine cE_tup ?_
       refine kA ?_ ?_
       ·exact cE_str
       ·refine kA ?_ ?_
        ·refine cE_fldE KX.xf (KX.nf _ (by decide)) hz hf ?_
         exact cV 2
        ·refine kA ?_ ?_
         ·refine cE_fldE KX.xf (KX.nf _ (by decide)) hz hf ?_
          exact cV 2
         ·exact cA_nil
   ·exact cSs_nil
theorem kSaid {w : World} {f : Nat → Addr} {fd : Nat → FuncData} {xc cc : Nat → Addr} [Tbl] {X : Cx} {c P : Addr} {params : Arguments} {body : Expr} {scope : Scope} {m : ME} {k : Nat} {p lpos pos : Pos} (T : Txt w X.K X.mg f fd xc cc) (tx : TabX X c P) (hr : Room (k + 2) X.A) (hgd : X.A.guards = some [])
 (hdef : defaultsOf params X.env = ([], []) := by rfl) (hg : Gl X (Str.ofString "_law_said") := by rfl) (hbind : ∀ (q : Str) (cl : List (Str × Addr)) (pm cv ctv : Value), bindArgs (PySem.W.kla_fn "<lambda>" q params body scope cl pm cv ctv) ⟨[], []⟩ = pure []) (L : LamX.LamS X.env.scope scope) (hB : LamB X k scope body m) :
 CE X (.Call (.Name (Str.ofString "_law_said") p) [.Lambda params body scope lpos] [] pos) (mSaid (Str.ofString "told") hdS m) := by
 refine cE_said (Ng := N28) (ms := msS) (okc := okS) ⟨T.dx28.fn, T.dx28.mg, T.dx28.bi rfl⟩ S28 rfl hr hgd tx L hdef hbind hB rfl rfl rfl (.inl rfl) rfl rfl rfl T.xg_TaleError ?_ hd_ok hg
 intro c C ok hC
 rcases ok with rfl
 ·have e := T.xk_NoText.gC.symm.trans hC
  cases e
  exact ⟨T.xk_NoText.em, fun cdg s H a dd oe pn hr hz hf => suite_ok T T.xk_NoText hr hz hf⟩
section
variable {P : Program} {w : World} {K : PySem.W.Frag} {mg : Str → Option Value} {base : Heap} {f : Nat → Addr} {fd : Nat → FuncData} {xc cc pt : Nat → Addr} [Tbl]
theorem fsV_ok (T : Txt w K mg f fd xc cc) {k : Nat} {C : Nat → MF} (G : ∀ i, i < 26 → FnG P w K mg base (3 * k) (f i) (fd i) (dP i) (spM K mg (dN i) (C i))) : ∀ y j n, fsV y = some (j, n) → ∃ (a : Addr) (d : FuncData) (ps : List Str), mg y = some (.ref a) ∧ FnG P w K mg base (3 * k) a d ps (spM K mg n (C j)) ∧ PySem.W.keepIn K (.ref a) = true ∧ Binds K d ps [] := by
 intro y j n h
 unfold fsV at h
 by_cases c4 : y = (Str.ofString "word_read")
 ·rw [if_pos c4] at h
  cases h
  subst c4
  exact ⟨f 4, fd 4, dP 4, (T.d 4 (by decide)).mg, G 4 (by decide), (T.d 4 (by decide)).fn.kp, ((T.d 4 (by decide)).bi rfl)⟩
 rw [if_neg c4] at h
 by_cases c6 : y = (Str.ofString "number_read")
 ·rw [if_pos c6] at h
  cases h
  subst c6
  exact ⟨f 6, fd 6, dP 6, (T.d 6 (by decide)).mg, G 6 (by decide), (T.d 6 (by decide)).fn.kp, ((T.d 6 (by decide)).bi rfl)⟩
 rw [if_neg c6] at h
 by_cases c9 : y = (Str.ofString "_stack_read")
 ·rw [if_pos c9] at h
  cases h
  subst c9
  exact ⟨f 9, fd 9, dP 9, (T.d 9 (by decide)).mg, G 9 (by decide), (T.d 9 (by decide)).fn.kp, ((T.d 9 (by decide)).bi rfl)⟩
 rw [if_neg c9] at h
 by_cases c10 : y = (Str.ofString "_numbers_read")
 ·rw [if_pos c10] at h
  cases h
  subst c10
  exact ⟨f 10, fd 10, dP 10, (T.d 10 (by decide)).mg, G 10 (by decide), (T.d 10 (by decide)).fn.kp, ((T.d 10 (by decide)).bi rfl)⟩
 rw [if_neg c10] at h
 by_cases c11 : y = (Str.ofString "_wheres_read")
 ·rw [if_pos c11] at h
  cases h
  subst c11
  exact ⟨f 11, fd 11, dP 11, (T.d 11 (by decide)).mg, G 11 (by decide), (T.d 11 (by decide)).fn.kp, ((T.d 11 (by decide)).bi rfl)⟩
 rw [if_neg c11] at h
 by_cases c12 : y = (Str.ofString "_where_read")
 ·rw [if_pos c12] at h
  cases h
  subst c12
  exact ⟨f 12, fd 12, dP 12, (T.d 12 (by decide)).mg, G 12 (by decide), (T.d 12 (by decide)).fn.kp, ((T.d 12 (by decide)).bi rfl)⟩
 rw [if_neg c12] at h
 by_cases c13 : y = (Str.ofString "_seen_read")
 ·rw [if_pos c13] at h
  cases h
  subst c13
  exact ⟨f 13, fd 13, dP 13, (T.d 13 (by decide)).mg, G 13 (by decide), (T.d 13 (by decide)).fn.kp, ((T.d 13 (by decide)).bi rfl)⟩
 rw [if_neg c13] at h
 by_cases c14 : y = (Str.ofString "_seen_pair_read")
 ·rw [if_pos c14] at h
  cases h
  subst c14
  exact ⟨f 14, fd 14, dP 14, (T.d 14 (by decide)).mg, G 14 (by decide), (T.d 14 (by decide)).fn.kp, ((T.d 14 (by decide)).bi rfl)⟩
 rw [if_neg c14] at h
 by_cases c15 : y = (Str.ofString "_made_read")
 ·rw [if_pos c15] at h
  cases h
  subst c15
  exact ⟨f 15, fd 15, dP 15, (T.d 15 (by decide)).mg, G 15 (by decide), (T.d 15 (by decide)).fn.kp, ((T.d 15 (by decide)).bi rfl)⟩
 rw [if_neg c15] at h
 by_cases c16 : y = (Str.ofString "_choice_read")
 ·rw [if_pos c16] at h
  cases h
  subst c16
  exact ⟨f 16, fd 16, dP 16, (T.d 16 (by decide)).mg, G 16 (by decide), (T.d 16 (by decide)).fn.kp, ((T.d 16 (by decide)).bi rfl)⟩
 rw [if_neg c16] at h
 cases h
theorem ok0 (T : Txt w K mg f fd xc cc) (V : Lams base mg cc pt) {k : Nat} {C : Nat → MF} (G : ∀ i, i < 26 → FnG P w K mg base (3 * k) (f i) (fd i) (dP i) (spM K mg (dN i) (C i))) (GX : ∀ i, 26 ≤ i → i < 28 → FnX P w K mg base (3 * k) (f i) (fd i) (dP i) (spE K mg (dN i) (C i))) : FnG P w K mg base (3 * k + 3) (f 0) (fd 0) (dP 0) (spM K mg 1 (m0 C)) := by
 refine fnG_ok (st := s0) (x := (Str.ofString "is_word")) (qual := (Str.ofString "is_word")) (T.d 0 (by decide)).fn S0 rfl (fun cdv A outer s H E hr2 hgd => ?_)
 have hr := hr2.mono (j := 3 * k) (by omega)
 refine cSs_cons ?_ ?_
 ·refine cS_if ?_ ?_ ?_
  ·refine cT_w ?_
   refine cW_or ?_ ?_
   ·refine cT_not ?_
    refine kTru ?_
    refine kB call_isi callS_isi T.b_isinstance (by rfl) ?_
    refine kA ?_ ?_
    ·exact cV 0
    ·refine kA ?_ ?_
     ·exact cE_bty T.b_str (by rfl)
     ·exact cA_nil
   ·refine cW_or1 ?_
    refine kCmpT (op_gt.or (op_gt_str.or (op_gtD hr.units))) (OpS.alt opS_iiB (OpS.alt opS_ssB opS_ord)) ?_ ?_
    ·refine kB (call_len_seq.or call_len_str) callS_len T.b_len PySem.boot_len ?_
     refine kA ?_ ?_
     ·exact cV 0
     ·exact cA_nil
    ·exact cE_int
  ·refine cSs_one ?_
   refine cS_ret ?_
   exact cE_bl
  ·exact cSs_nil
 ·refine cSs_one ?_
  refine cS_ret ?_
  refine cE_and ?_ ?_
  ·refine kMt0 PySem.F.plainAttrs_str PySem.F.slot_str_isascii PySem.F.type_str_isascii mt_isascii mtS_is ?_
   exact cV 0
  ·refine cE_and ?_ ?_
   ·refine kMt0 PySem.F.plainAttrs_str PySem.F.slot_str_isalpha PySem.F.type_str_isalpha mt_isalpha mtS_is ?_
    exact cV 0
   ·refine cE_one ?_
    refine kMt0 PySem.F.plainAttrs_str PySem.F.slot_str_islower PySem.F.type_str_islower mt_islower mtS_is ?_
    exact cV 0
theorem ok1 (T : Txt w K mg f fd xc cc) (V : Lams base mg cc pt) {k : Nat} {C : Nat → MF} (G : ∀ i, i < 26 → FnG P w K mg base (3 * k) (f i) (fd i) (dP i) (spM K mg (dN i) (C i))) (GX : ∀ i, 26 ≤ i → i < 28 → FnX P w K mg base (3 * k) (f i) (fd i) (dP i) (spE K mg (dN i) (C i))) : FnG P w K mg base (3 * k + 3) (f 1) (fd 1) (dP 1) (spM K mg 1 (m1 C)) := by
 refine fnG_ok (st := s1) (x := (Str.ofString "listed")) (qual := (Str.ofString "listed")) (T.d 1 (by decide)).fn S1 rfl (fun cdv A outer s H E hr2 hgd => ?_)
 have hr := hr2.mono (j := 3 * k) (by omega)
 refine cSs_one ?_
 refine cS_ret ?_
 refine cE_if ?_ ?_ ?_
 ·refine kTru ?_
  exact cV 0
 ·refine kMt PySem.F.plainAttrs_str PySem.F.slot_str_join PySem.F.type_str_join mt_join mtS_joinA ?_ ?_
  ·exact cE_str
  ·refine kA ?_ ?_
   ·exact cV 0
   ·exact cA_nil
 ·exact cE_str
theorem ok2 (T : Txt w K mg f fd xc cc) (V : Lams base mg cc pt) {k : Nat} {C : Nat → MF} (G : ∀ i, i < 26 → FnG P w K mg base (3 * k) (f i) (fd i) (dP i) (spM K mg (dN i) (C i))) (GX : ∀ i, 26 ≤ i → i < 28 → FnX P w K mg base (3 * k) (f i) (fd i) (dP i) (spE K mg (dN i) (C i))) : FnG P w K mg base (3 * k + 3) (f 2) (fd 2) (dP 2) (spM K mg 2 (m2 C)) := by
 refine fnG_ok (st := s2) (x := (Str.ofString "unlisted")) (qual := (Str.ofString "unlisted")) (T.d 2 (by decide)).fn S2 rfl (fun cdv A outer s H E hr2 hgd => ?_)
 have hr := hr2.mono (j := 3 * k) (by omega)
 refine cSs_cons ?_ ?_
 ·refine cS_if ?_ ?_ ?_
  ·refine kCmpT (op_eq.or (op_eqD hr.units)) (OpS.alt opS_sEq opS_deepEq) ?_ ?_
   ·exact cV 0
   ·exact cE_str
  ·refine cSs_one ?_
   refine cS_ret ?_
   refine cE_tup ?_
   exact cA_nil
  ·exact cSs_nil
 ·refine cSs_cons ?_ ?_
  ·refine kSetLc (L := [3]) (i := 2) (own := [ ((Str.ofString "part") , 3) ]) rfl S2.nd rfl rfl rfl (by decide +kernel) rfl ?_ (by exact show blkC N2 (defScope s2) _ [ ((Str.ofString "part") , 3) ] = true from by decide +kernel) (by decide) (fun _ _ _ _ _ => ?_) (fun _ _ _ _ _ => ?_) (fun _ _ _ _ _ => ?_)
   ·refine cI_seq ?_
    refine kMt PySem.F.plainAttrs_str PySem.F.slot_str_split PySem.F.type_str_split mt_split mtS_split ?_ ?_
    ·exact cV 0
    ·refine kA ?_ ?_
     ·exact cE_str
     ·exact cA_nil
   ·exact cGn 3 S2.nd
   ·exact cTs_nil
   ·refine kCallV 1 (fsV_ok T G) hr hgd ?_
    refine kA ?_ ?_
    ·exact cV 3
    ·exact cA_nil
  ·refine cSs_one ?_
   refine cS_ret ?_
   refine cE_if ?_ ?_ ?_
   ·refine kInXT hr.units ?_ ?_
    ·exact cE_non
    ·exact cV 2
   ·exact cE_non
   ·refine kTy call_tuple_of callS_tuple T.b_tuple boot_tuple ?_
    refine kA ?_ ?_
    ·exact cV 2
    ·exact cA_nil
theorem ok3 (T : Txt w K mg f fd xc cc) (V : Lams base mg cc pt) {k : Nat} {C : Nat → MF} (G : ∀ i, i < 26 → FnG P w K mg base (3 * k) (f i) (fd i) (dP i) (spM K mg (dN i) (C i))) (GX : ∀ i, 26 ≤ i → i < 28 → FnX P w K mg base (3 * k) (f i) (fd i) (dP i) (spE K mg (dN i) (C i))) : FnG P w K mg base (3 * k + 3) (f 3) (fd 3) (dP 3) (spM K mg 2 (m3 C)) := by
 refine fnG_ok (st := s3) (x := (Str.ofString "halves")) (qual := (Str.ofString "halves")) (T.d 3 (by decide)).fn S3 rfl (fun cdv A outer s H E hr2 hgd => ?_)
 have hr := hr2.mono (j := 3 * k) (by omega)
 refine cSs_cons ?_ ?_
 ·refine kSet 2 S3.nd ?_
  refine kMt PySem.F.plainAttrs_str PySem.F.slot_str_split PySem.F.type_str_split mt_split mtS_split ?_ ?_
  ·exact cV 0
  ·refine kA ?_ ?_
   ·exact cV 1
   ·exact cA_nil
 ·refine cSs_one ?_
  refine cS_ret ?_
  refine cE_if ?_ ?_ ?_
  ·refine kCmpT (op_eq.or (op_eqD hr.units)) (OpS.alt opS_sEq opS_deepEq) ?_ ?_
   ·refine kB (call_len_seq.or call_len_str) callS_len T.b_len PySem.boot_len ?_
    refine kA ?_ ?_
    ·exact cV 2
    ·exact cA_nil
   ·exact cE_int
  ·refine cE_tup ?_
   refine kA ?_ ?_
   ·refine kIx (hu_of hr) ?_ ?_
    ·exact cV 2
    ·exact cE_int
   ·refine kA ?_ ?_
    ·refine kIx (hu_of hr) ?_ ?_
     ·exact cV 2
     ·exact cE_int
    ·exact cA_nil
  ·exact cE_non
theorem ok4 (T : Txt w K mg f fd xc cc) (V : Lams base mg cc pt) {k : Nat} {C : Nat → MF} (G : ∀ i, i < 26 → FnG P w K mg base (3 * k) (f i) (fd i) (dP i) (spM K mg (dN i) (C i))) (GX : ∀ i, 26 ≤ i → i < 28 → FnX P w K mg base (3 * k) (f i) (fd i) (dP i) (spE K mg (dN i) (C i))) : FnG P w K mg base (3 * k + 3) (f 4) (fd 4) (dP 4) (spM K mg 1 (m4 C)) := by
 refine fnG_ok (st := s4) (x := (Str.ofString "word_read")) (qual := (Str.ofString "word_read")) (T.d 4 (by decide)).fn S4 rfl (fun cdv A outer s H E hr2 hgd => ?_)
 have hr := hr2.mono (j := 3 * k) (by omega)
 refine cSs_one ?_
 refine cS_ret ?_
 refine cE_if ?_ ?_ ?_
 ·refine kTru ?_
  refine kCall (x := dX 0) (ps := P0) (G 0 (by decide)) hr hgd (T.d 0 (by decide)).fn.kp ((T.d 0 (by decide)).bi rfl) (T.d 0 (by decide)).mg ?_
  refine kA ?_ ?_
  ·exact cV 0
  ·exact cA_nil
 ·exact cV 0
 ·exact cE_non
theorem ok5 (T : Txt w K mg f fd xc cc) (V : Lams base mg cc pt) {k : Nat} {C : Nat → MF} (G : ∀ i, i < 26 → FnG P w K mg base (3 * k) (f i) (fd i) (dP i) (spM K mg (dN i) (C i))) (GX : ∀ i, 26 ≤ i → i < 28 → FnX P w K mg base (3 * k) (f i) (fd i) (dP i) (spE K mg (dN i) (C i))) : FnG P w K mg base (3 * k + 3) (f 5) (fd 5) (dP 5) (spM K mg 2 (m5 C)) := by
 refine fnG_ok (st := s5) (x := (Str.ofString "pair_read")) (qual := (Str.ofString "pair_read")) (T.d 5 (by decide)).fn S5 rfl (fun cdv A outer s H E hr2 hgd => ?_)
 have hr := hr2.mono (j := 3 * k) (by omega)
 refine cSs_cons ?_ ?_
 ·refine kSet 2 S5.nd ?_
  refine kCall (x := dX 3) (ps := P3) (G 3 (by decide)) hr hgd (T.d 3 (by decide)).fn.kp ((T.d 3 (by decide)).bi rfl) (T.d 3 (by decide)).mg ?_
  refine kA ?_ ?_
  ·exact cV 0
  ·refine kA ?_ ?_
   ·exact cV 1
   ·exact cA_nil
 ·refine cSs_cons ?_ ?_
  ·refine cS_if ?_ ?_ ?_
   ·refine cT_w ?_
    refine cW_or ?_ ?_
    ·refine kCmpT (op_isN.or op_isBl) (OpS.alt opS_isN opS_isB) ?_ ?_
     ·exact cV 2
     ·exact cE_non
    ·refine cW_or ?_ ?_
     ·refine cT_not ?_
      refine kTru ?_
      refine kCall (x := dX 0) (ps := P0) (G 0 (by decide)) hr hgd (T.d 0 (by decide)).fn.kp ((T.d 0 (by decide)).bi rfl) (T.d 0 (by decide)).mg ?_
      refine kA ?_ ?_
      ·refine kIx (hu_of hr) ?_ ?_
       ·exact cV 2
       ·exact cE_int
      ·exact cA_nil
     ·refine cW_or1 ?_
      refine cT_not ?_
      refine kTru ?_
      refine kCall (x := dX 0) (ps := P0) (G 0 (by decide)) hr hgd (T.d 0 (by decide)).fn.kp ((T.d 0 (by decide)).bi rfl) (T.d 0 (by decide)).mg ?_
      refine kA ?_ ?_
      ·refine kIx (hu_of hr) ?_ ?_
       ·exact cV 2
       ·exact cE_int
      ·exact cA_nil
   ·refine cSs_one ?_
    refine cS_ret ?_
    exact cE_non
   ·exact cSs_nil
  ·refine cSs_one ?_
   refine cS_ret ?_
   exact cV 2
theorem ok6 (T : Txt w K mg f fd xc cc) (V : Lams base mg cc pt) {k : Nat} {C : Nat → MF} (G : ∀ i, i < 26 → FnG P w K mg base (3 * k) (f i) (fd i) (dP i) (spM K mg (dN i) (C i))) (GX : ∀ i, 26 ≤ i → i < 28 → FnX P w K mg base (3 * k) (f i) (fd i) (dP i) (spE K mg (dN i) (C i))) : FnG P w K mg base (3 * k + 3) (f 6) (fd 6) (dP 6) (spM K mg 1 (m6 C)) := by
 refine fnG_ok (st := s6) (x := (Str.ofString "number_read")) (qual := (Str.ofString "number_read")) (T.d 6 (by decide)).fn S6 rfl (fun cdv A outer s H E hr2 hgd => ?_)
 have hr := hr2.mono (j := 3 * k) (by omega)
 refine cSs_cons ?_ ?_
 ·refine kSet 1 S6.nd ?_
  refine cE_if ?_ ?_ ?_
  ·refine kTru ?_
   refine kMt PySem.F.plainAttrs_str PySem.F.slot_str_startswith PySem.F.type_str_startswith mt_startswith mtS_starts ?_ ?_
   ·exact cV 0
   ·refine kA ?_ ?_
    ·exact cE_str
    ·exact cA_nil
  ·refine cE_slA ?_ ?_ ?_
   ·exact cV 0
   ·refine cO_some ?_
    exact cE_int
   ·exact cO_none
  ·exact cV 0
 ·refine cSs_cons ?_ ?_
  ·refine cS_if ?_ ?_ ?_
   ·refine cT_w ?_
    refine cW_or ?_ ?_
    ·refine cT_not ?_
     refine kChainT (op_le.or (op_le_str.or (op_leD hr.units))) (OpS.alt opS_iiB (OpS.alt opS_ssB opS_ord)) (op_le.or (op_le_str.or (op_leD hr.units))) (OpS.alt opS_iiB (OpS.alt opS_ssB opS_ord)) ?_ ?_ ?_
     ·exact cE_int
     ·refine kB (call_len_seq.or call_len_str) callS_len T.b_len PySem.boot_len ?_
      refine kA ?_ ?_
      ·exact cV 1
      ·exact cA_nil
     ·exact cE_int
    ·refine cW_or1 ?_
     refine cT_not ?_
     refine kTru ?_
     refine kCall (x := dX 7) (ps := P7) (G 7 (by decide)) hr hgd (T.d 7 (by decide)).fn.kp ((T.d 7 (by decide)).bi rfl) (T.d 7 (by decide)).mg ?_
     refine kA ?_ ?_
     ·exact cV 1
     ·exact cA_nil
   ·refine cSs_one ?_
    refine cS_ret ?_
    exact cE_non
   ·exact cSs_nil
  ·refine cSs_cons ?_ ?_
   ·refine cS_if ?_ ?_ ?_
    ·refine cT_w ?_
     refine cW_and ?_ ?_
     ·refine kCmpT (op_eq.or (op_eqD hr.units)) (OpS.alt opS_sEq opS_deepEq) ?_ ?_
      ·refine kIx (hu_of hr) ?_ ?_
       ·exact cV 1
       ·exact cE_int
      ·exact cE_str
     ·refine cW_and1 ?_
      refine kCmpT (op_ne.or (op_neD hr.units)) (OpS.alt opS_sNe opS_deepNe) ?_ ?_
      ·exact cV 0
      ·exact cE_str
    ·refine cSs_one ?_
     refine cS_ret ?_
     exact cE_non
    ·exact cSs_nil
   ·refine cSs_one ?_
    refine cS_ret ?_
    refine kTy (call_int1.or call_int_str) (CallS.or callS_int callS_intS) T.b_int (by rfl) ?_
    refine kA ?_ ?_
    ·exact cV 0
    ·exact cA_nil
theorem ok7 (T : Txt w K mg f fd xc cc) (V : Lams base mg cc pt) {k : Nat} {C : Nat → MF} (G : ∀ i, i < 26 → FnG P w K mg base (3 * k) (f i) (fd i) (dP i) (spM K mg (dN i) (C i))) (GX : ∀ i, 26 ≤ i → i < 28 → FnX P w K mg base (3 * k) (f i) (fd i) (dP i) (spE K mg (dN i) (C i))) : FnG P w K mg base (3 * k + 3) (f 7) (fd 7) (dP 7) (spM K mg 1 (m7 C)) := by
 refine fnG_ok (st := s7) (x := (Str.ofString "_are_figures")) (qual := (Str.ofString "_are_figures")) (T.d 7 (by decide)).fn S7 rfl (fun cdv A outer s H E hr2 hgd => ?_)
 have hr := hr2.mono (j := 3 * k) (by omega)
 refine cSs_one ?_
 refine cS_ret ?_
 refine kB (cr_all rfl) callS_all T.b_all (by rfl) ?_
 refine kA ?_ ?_
 ·refine kLc (L := [1]) (own := [ ((Str.ofString "sign") , 1) ]) rfl S7.nd ?_ (by exact show blkC N7 (defScope s7) _ [ ((Str.ofString "sign") , 1) ] = true from by decide +kernel) (by decide) (fun _ _ _ _ _ => ?_) (fun _ _ _ _ _ => ?_) (fun _ _ _ _ _ => ?_)
  ·refine cI_seq ?_
   exact cV 0
  ·exact cGn 1 S7.nd
  ·exact cTs_nil
  ·refine kInX hr.units ?_ ?_
   ·exact cV 1
   ·exact kConst (v := .str (Str.ofString "0123456789")) T.c_FIGURES (fun _ _ => .str _)
 ·exact cA_nil
theorem ok8 (T : Txt w K mg f fd xc cc) (V : Lams base mg cc pt) {k : Nat} {C : Nat → MF} (G : ∀ i, i < 26 → FnG P w K mg base (3 * k) (f i) (fd i) (dP i) (spM K mg (dN i) (C i))) (GX : ∀ i, 26 ≤ i → i < 28 → FnX P w K mg base (3 * k) (f i) (fd i) (dP i) (spE K mg (dN i) (C i))) : FnG P w K mg base (3 * k + 3) (f 8) (fd 8) (dP 8) (spM K mg 1 (m8 C)) := by
 refine fnG_ok (st := s8) (x := (Str.ofString "stand_text")) (qual := (Str.ofString "stand_text")) (T.d 8 (by decide)).fn S8 rfl (fun cdv A outer s H E hr2 hgd => ?_)
 have hr := hr2.mono (j := 3 * k) (by omega)
 refine cSs_cons ?_ ?_
 ·refine kAsg (L := ([1] ++ ([2] ++ ([3] ++ ([4] ++ ([5] ++ ([6] ++ ([7] ++ [])))))))) ?_ ?_
  ·exact cV 0
  ·refine kGt rfl ?_
   refine kGc ?_ ?_
   ·exact cGn 1 S8.nd
   ·refine kGc ?_ ?_
    ·exact cGn 2 S8.nd
    ·refine kGc ?_ ?_
     ·exact cGn 3 S8.nd
     ·refine kGc ?_ ?_
      ·exact cGn 4 S8.nd
      ·refine kGc ?_ ?_
       ·exact cGn 5 S8.nd
       ·refine kGc ?_ ?_
        ·exact cGn 6 S8.nd
        ·refine kGc ?_ ?_
         ·exact cGn 7 S8.nd
         ·exact cGs_nil
 ·refine cSs_cons ?_ ?_
  ·refine kSet 8 S8.nd ?_
   refine cE_lst ?_
   refine kA ?_ ?_
   ·exact cV 1
   ·refine kA ?_ ?_
    ·refine kCall (x := dX 1) (ps := P1) (G 1 (by decide)) hr hgd (T.d 1 (by decide)).fn.kp ((T.d 1 (by decide)).bi rfl) (T.d 1 (by decide)).mg ?_
     refine kA ?_ ?_
     ·exact cV 2
     ·exact cA_nil
    ·refine kA ?_ ?_
     ·refine kCall (x := dX 1) (ps := P1) (G 1 (by decide)) hr hgd (T.d 1 (by decide)).fn.kp ((T.d 1 (by decide)).bi rfl) (T.d 1 (by decide)).mg ?_
      refine kA ?_ ?_
      ·refine kLc (L := [9]) (own := [ ((Str.ofString "number") , 9) ]) rfl S8.nd ?_ (by exact show blkC N8 (defScope s8) _ [ ((Str.ofString "number") , 9) ] = true from by decide +kernel) (by decide) (fun _ _ _ _ _ => ?_) (fun _ _ _ _ _ => ?_) (fun _ _ _ _ _ => ?_)
       ·refine cI_seq ?_
        exact cV 3
       ·exact cGn 9 S8.nd
       ·exact cTs_nil
       ·refine kTy call_str_int callS_strI T.b_str (by rfl) ?_
        refine kA ?_ ?_
        ·exact cV 9
        ·exact cA_nil
      ·exact cA_nil
     ·refine kA ?_ ?_
      ·refine kCall (x := dX 1) (ps := P1) (G 1 (by decide)) hr hgd (T.d 1 (by decide)).fn.kp ((T.d 1 (by decide)).bi rfl) (T.d 1 (by decide)).mg ?_
       refine kA ?_ ?_
       ·refine kLc (L := [10]) (own := [ ((Str.ofString "where") , 10) ]) rfl S8.nd ?_ (by exact show blkC N8 (defScope s8) _ [ ((Str.ofString "where") , 10) ] = true from by decide +kernel) (by decide) (fun _ _ _ _ _ => ?_) (fun _ _ _ _ _ => ?_) (fun _ _ _ _ _ => ?_)
        ·refine cI_seq ?_
         exact cV 4
        ·exact cGn 10 S8.nd
        ·exact cTs_nil
        ·refine kMt PySem.F.plainAttrs_str PySem.F.slot_str_join PySem.F.type_str_join mt_join mtS_joinA ?_ ?_
         ·exact cE_str
         ·refine kA ?_ ?_
          ·exact cV 10
          ·exact cA_nil
       ·exact cA_nil
      ·refine kA ?_ ?_
       ·refine kCall (x := dX 1) (ps := P1) (G 1 (by decide)) hr hgd (T.d 1 (by decide)).fn.kp ((T.d 1 (by decide)).bi rfl) (T.d 1 (by decide)).mg ?_
        refine kA ?_ ?_
        ·refine kLc (L := ([11] ++ ([12] ++ []))) (own := [ ((Str.ofString "name") , 11) , ((Str.ofString "many") , 12) ]) rfl S8.nd ?_ (by exact show blkC N8 (defScope s8) _ [ ((Str.ofString "name") , 11) , ((Str.ofString "many") , 12) ] = true from by decide +kernel) (by decide) (fun _ _ _ _ _ => ?_) (fun _ _ _ _ _ => ?_) (fun _ _ _ _ _ => ?_)
         ·refine cI_seq ?_
          exact cV 5
         ·refine kGt rfl ?_
          refine kGc ?_ ?_
          ·exact cGn 11 S8.nd
          ·refine kGc ?_ ?_
           ·exact cGn 12 S8.nd
           ·exact cGs_nil
         ·exact cTs_nil
         ·refine cE_fstr (CJs.cons ?_ (CJs.cons ?_ (CJs.cons ?_ CJs.nil)))
          ·refine cE_fmt ?_
           exact cV 11
          ·exact cE_str
          ·refine cE_fmt ?_
           exact cV 12
        ·exact cA_nil
       ·refine kA ?_ ?_
        ·refine kCall (x := dX 1) (ps := P1) (G 1 (by decide)) hr hgd (T.d 1 (by decide)).fn.kp ((T.d 1 (by decide)).bi rfl) (T.d 1 (by decide)).mg ?_
         refine kA ?_ ?_
         ·refine kLc (L := [13]) (own := [ ((Str.ofString "choice") , 13) ]) rfl S8.nd ?_ (by exact show blkC N8 (defScope s8) _ [ ((Str.ofString "choice") , 13) ] = true from by decide +kernel) (by decide) (fun _ _ _ _ _ => ?_) (fun _ _ _ _ _ => ?_) (fun _ _ _ _ _ => ?_)
          ·refine cI_seq ?_
           exact cV 6
          ·exact cGn 13 S8.nd
          ·exact cTs_nil
          ·refine kMt PySem.F.plainAttrs_str PySem.F.slot_str_join PySem.F.type_str_join mt_join mtS_joinA ?_ ?_
           ·exact cE_str
           ·refine kA ?_ ?_
            ·exact cV 13
            ·exact cA_nil
         ·exact cA_nil
        ·refine kA ?_ ?_
         ·refine kTy call_str_int callS_strI T.b_str (by rfl) ?_
          refine kA ?_ ?_
          ·exact cV 7
          ·exact cA_nil
         ·exact cA_nil
  ·refine cSs_one ?_
   refine cS_ret ?_
   refine kMt PySem.F.plainAttrs_str PySem.F.slot_str_join PySem.F.type_str_join mt_join mtS_joinA ?_ ?_
   ·exact cE_str
   ·refine kA ?_ ?_
    ·exact cV 8
    ·exact cA_nil
theorem ok9 (T : Txt w K mg f fd xc cc) (V : Lams base mg cc pt) {k : Nat} {C : Nat → MF} (G : ∀ i, i < 26 → FnG P w K mg base (3 * k) (f i) (fd i) (dP i) (spM K mg (dN i) (C i))) (GX : ∀ i, 26 ≤ i → i < 28 → FnX P w K mg base (3 * k) (f i) (fd i) (dP i) (spE K mg (dN i) (C i))) : FnG P w K mg base (3 * k + 3) (f 9) (fd 9) (dP 9) (spM K mg 1 (m9 C)) := by
 refine fnG_ok (st := s9) (x := (Str.ofString "_stack_read")) (qual := (Str.ofString "_stack_read")) (T.d 9 (by decide)).fn S9 rfl (fun cdv A outer s H E hr2 hgd => ?_)
 have hr := hr2.mono (j := 3 * k) (by omega)
 refine cSs_cons ?_ ?_
 ·refine kSet 1 S9.nd ?_
  refine kCall (x := dX 2) (ps := P2) (G 2 (by decide)) hr hgd (T.d 2 (by decide)).fn.kp ((T.d 2 (by decide)).bi rfl) (T.d 2 (by decide)).mg ?_
  refine kA ?_ ?_
  ·exact cV 0
  ·refine kA ?_ ?_
   ·exact cE_fn (by rfl) (T.d 4 (by decide)).mg
   ·exact cA_nil
 ·refine cSs_one ?_
  refine cS_ret ?_
  refine cE_if ?_ ?_ ?_
  ·refine cT_w ?_
   refine cW_or ?_ ?_
   ·refine kCmpT (op_isN.or op_isBl) (OpS.alt opS_isN opS_isB) ?_ ?_
    ·exact cV 1
    ·exact cE_non
   ·refine cW_or1 ?_
    refine kCmpT (op_gt.or (op_gt_str.or (op_gtD hr.units))) (OpS.alt opS_iiB (OpS.alt opS_ssB opS_ord)) ?_ ?_
    ·refine kB (call_len_seq.or call_len_str) callS_len T.b_len PySem.boot_len ?_
     refine kA ?_ ?_
     ·exact cV 1
     ·exact cA_nil
    ·exact kConst (v := .int 3) T.c_DEEP (fun _ _ => .int _)
  ·exact cE_non
  ·exact cV 1
theorem ok10 (T : Txt w K mg f fd xc cc) (V : Lams base mg cc pt) {k : Nat} {C : Nat → MF} (G : ∀ i, i < 26 → FnG P w K mg base (3 * k) (f i) (fd i) (dP i) (spM K mg (dN i) (C i))) (GX : ∀ i, 26 ≤ i → i < 28 → FnX P w K mg base (3 * k) (f i) (fd i) (dP i) (spE K mg (dN i) (C i))) : FnG P w K mg base (3 * k + 3) (f 10) (fd 10) (dP 10) (spM K mg 1 (m10 C)) := by
 refine fnG_ok (st := s10) (x := (Str.ofString "_numbers_read")) (qual := (Str.ofString "_numbers_read")) (T.d 10 (by decide)).fn S10 rfl (fun cdv A outer s H E hr2 hgd => ?_)
 have hr := hr2.mono (j := 3 * k) (by omega)
 refine cSs_one ?_
 refine cS_ret ?_
 refine kCall (x := dX 2) (ps := P2) (G 2 (by decide)) hr hgd (T.d 2 (by decide)).fn.kp ((T.d 2 (by decide)).bi rfl) (T.d 2 (by decide)).mg ?_
 refine kA ?_ ?_
 ·exact cV 0
 ·refine kA ?_ ?_
  ·exact cE_fn (by rfl) (T.d 6 (by decide)).mg
  ·exact cA_nil
theorem ok11 (T : Txt w K mg f fd xc cc) (V : Lams base mg cc pt) {k : Nat} {C : Nat → MF} (G : ∀ i, i < 26 → FnG P w K mg base (3 * k) (f i) (fd i) (dP i) (spM K mg (dN i) (C i))) (GX : ∀ i, 26 ≤ i → i < 28 → FnX P w K mg base (3 * k) (f i) (fd i) (dP i) (spE K mg (dN i) (C i))) : FnG P w K mg base (3 * k + 3) (f 11) (fd 11) (dP 11) (spM K mg 1 (m11 C)) := by
 refine fnG_ok (st := s11) (x := (Str.ofString "_wheres_read")) (qual := (Str.ofString "_wheres_read")) (T.d 11 (by decide)).fn S11 rfl (fun cdv A outer s H E hr2 hgd => ?_)
 have hr := hr2.mono (j := 3 * k) (by omega)
 refine cSs_one ?_
 refine cS_ret ?_
 refine kCall (x := dX 2) (ps := P2) (G 2 (by decide)) hr hgd (T.d 2 (by decide)).fn.kp ((T.d 2 (by decide)).bi rfl) (T.d 2 (by decide)).mg ?_
 refine kA ?_ ?_
 ·exact cV 0
 ·refine kA ?_ ?_
  ·exact cE_fn (by rfl) (T.d 12 (by decide)).mg
  ·exact cA_nil
theorem ok12 (T : Txt w K mg f fd xc cc) (V : Lams base mg cc pt) {k : Nat} {C : Nat → MF} (G : ∀ i, i < 26 → FnG P w K mg base (3 * k) (f i) (fd i) (dP i) (spM K mg (dN i) (C i))) (GX : ∀ i, 26 ≤ i → i < 28 → FnX P w K mg base (3 * k) (f i) (fd i) (dP i) (spE K mg (dN i) (C i))) : FnG P w K mg base (3 * k + 3) (f 12) (fd 12) (dP 12) (spM K mg 1 (m12 C)) := by
 refine fnG_ok (st := s12) (x := (Str.ofString "_where_read")) (qual := (Str.ofString "_where_read")) (T.d 12 (by decide)).fn S12 rfl (fun cdv A outer s H E hr2 hgd => ?_)
 have hr := hr2.mono (j := 3 * k) (by omega)
 refine cSs_cons ?_ ?_
 ·refine kSet 1 S12.nd ?_
  refine kCall (x := dX 5) (ps := P5) (G 5 (by decide)) hr hgd (T.d 5 (by decide)).fn.kp ((T.d 5 (by decide)).bi rfl) (T.d 5 (by decide)).mg ?_
  refine kA ?_ ?_
  ·exact cV 0
  ·refine kA ?_ ?_
   ·exact cE_str
   ·exact cA_nil
 ·refine cSs_one ?_
  refine cS_ret ?_
  refine cE_if ?_ ?_ ?_
  ·refine cT_w ?_
   refine cW_or ?_ ?_
   ·refine kCmpT (op_isN.or op_isBl) (OpS.alt opS_isN opS_isB) ?_ ?_
    ·exact cV 1
    ·exact cE_non
   ·refine cW_or1 ?_
    refine kNotInXT hr.units ?_ ?_
    ·refine kIx (hu_of hr) ?_ ?_
     ·exact cV 1
     ·exact cE_int
    ·refine cE_tup ?_
     refine kA ?_ ?_
     ·exact cE_str
     ·refine kA ?_ ?_
      ·exact cE_str
      ·exact cA_nil
  ·exact cE_non
  ·exact cV 1
theorem ok13 (T : Txt w K mg f fd xc cc) (V : Lams base mg cc pt) {k : Nat} {C : Nat → MF} (G : ∀ i, i < 26 → FnG P w K mg base (3 * k) (f i) (fd i) (dP i) (spM K mg (dN i) (C i))) (GX : ∀ i, 26 ≤ i → i < 28 → FnX P w K mg base (3 * k) (f i) (fd i) (dP i) (spE K mg (dN i) (C i))) : FnG P w K mg base (3 * k + 3) (f 13) (fd 13) (dP 13) (spM K mg 1 (m13 C)) := by
 refine fnG_ok (st := s13) (x := (Str.ofString "_seen_read")) (qual := (Str.ofString "_seen_read")) (T.d 13 (by decide)).fn S13 rfl (fun cdv A outer s H E hr2 hgd => ?_)
 have hr := hr2.mono (j := 3 * k) (by omega)
 refine cSs_one ?_
 refine cS_ret ?_
 refine kCall (x := dX 2) (ps := P2) (G 2 (by decide)) hr hgd (T.d 2 (by decide)).fn.kp ((T.d 2 (by decide)).bi rfl) (T.d 2 (by decide)).mg ?_
 refine kA ?_ ?_
 ·exact cV 0
 ·refine kA ?_ ?_
  ·exact cE_fn (by rfl) (T.d 14 (by decide)).mg
  ·exact cA_nil
theorem ok14 (T : Txt w K mg f fd xc cc) (V : Lams base mg cc pt) {k : Nat} {C : Nat → MF} (G : ∀ i, i < 26 → FnG P w K mg base (3 * k) (f i) (fd i) (dP i) (spM K mg (dN i) (C i))) (GX : ∀ i, 26 ≤ i → i < 28 → FnX P w K mg base (3 * k) (f i) (fd i) (dP i) (spE K mg (dN i) (C i))) : FnG P w K mg base (3 * k + 3) (f 14) (fd 14) (dP 14) (spM K mg 1 (m14 C)) := by
 refine fnG_ok (st := s14) (x := (Str.ofString "_seen_pair_read")) (qual := (Str.ofString "_seen_pair_read")) (T.d 14 (by decide)).fn S14 rfl (fun cdv A outer s H E hr2 hgd => ?_)
 have hr := hr2.mono (j := 3 * k) (by omega)
 refine cSs_cons ?_ ?_
 ·refine kSet 1 S14.nd ?_
  refine kCall (x := dX 3) (ps := P3) (G 3 (by decide)) hr hgd (T.d 3 (by decide)).fn.kp ((T.d 3 (by decide)).bi rfl) (T.d 3 (by decide)).mg ?_
  refine kA ?_ ?_
  ·exact cV 0
  ·refine kA ?_ ?_
   ·exact cE_str
   ·exact cA_nil
 ·refine cSs_cons ?_ ?_
  ·refine cS_if ?_ ?_ ?_
   ·refine cT_w ?_
    refine cW_or ?_ ?_
    ·refine kCmpT (op_isN.or op_isBl) (OpS.alt opS_isN opS_isB) ?_ ?_
     ·exact cV 1
     ·exact cE_non
    ·refine cW_or1 ?_
     refine cT_not ?_
     refine kTru ?_
     refine kCall (x := dX 0) (ps := P0) (G 0 (by decide)) hr hgd (T.d 0 (by decide)).fn.kp ((T.d 0 (by decide)).bi rfl) (T.d 0 (by decide)).mg ?_
     refine kA ?_ ?_
     ·refine kIx (hu_of hr) ?_ ?_
      ·exact cV 1
      ·exact cE_int
     ·exact cA_nil
   ·refine cSs_one ?_
    refine cS_ret ?_
    exact cE_non
   ·exact cSs_nil
  ·refine cSs_cons ?_ ?_
   ·refine kSet 2 S14.nd ?_
    refine kCall (x := dX 6) (ps := P6) (G 6 (by decide)) hr hgd (T.d 6 (by decide)).fn.kp ((T.d 6 (by decide)).bi rfl) (T.d 6 (by decide)).mg ?_
    refine kA ?_ ?_
    ·refine kIx (hu_of hr) ?_ ?_
     ·exact cV 1
     ·exact cE_int
    ·exact cA_nil
   ·refine cSs_one ?_
    refine cS_ret ?_
    refine cE_if ?_ ?_ ?_
    ·refine kCmpT (op_isN.or op_isBl) (OpS.alt opS_isN opS_isB) ?_ ?_
     ·exact cV 2
     ·exact cE_non
    ·exact cE_non
    ·refine cE_tup ?_
     refine kA ?_ ?_
     ·refine kIx (hu_of hr) ?_ ?_
      ·exact cV 1
      ·exact cE_int
     ·refine kA ?_ ?_
      ·exact cV 2
      ·exact cA_nil
theorem ok15 (T : Txt w K mg f fd xc cc) (V : Lams base mg cc pt) {k : Nat} {C : Nat → MF} (G : ∀ i, i < 26 → FnG P w K mg base (3 * k) (f i) (fd i) (dP i) (spM K mg (dN i) (C i))) (GX : ∀ i, 26 ≤ i → i < 28 → FnX P w K mg base (3 * k) (f i) (fd i) (dP i) (spE K mg (dN i) (C i))) : FnG P w K mg base (3 * k + 3) (f 15) (fd 15) (dP 15) (spM K mg 1 (m15 C)) := by
 refine fnG_ok (st := s15) (x := (Str.ofString "_made_read")) (qual := (Str.ofString "_made_read")) (T.d 15 (by decide)).fn S15 rfl (fun cdv A outer s H E hr2 hgd => ?_)
 have hr := hr2.mono (j := 3 * k) (by omega)
 refine cSs_one ?_
 refine cS_ret ?_
 refine kCall (x := dX 2) (ps := P2) (G 2 (by decide)) hr hgd (T.d 2 (by decide)).fn.kp ((T.d 2 (by decide)).bi rfl) (T.d 2 (by decide)).mg ?_
 refine kA ?_ ?_
 ·exact cV 0
 ·refine kA ?_ ?_
  ·exact cE_fn (by rfl) (T.d 16 (by decide)).mg
  ·exact cA_nil
theorem ok16 (T : Txt w K mg f fd xc cc) (V : Lams base mg cc pt) {k : Nat} {C : Nat → MF} (G : ∀ i, i < 26 → FnG P w K mg base (3 * k) (f i) (fd i) (dP i) (spM K mg (dN i) (C i))) (GX : ∀ i, 26 ≤ i → i < 28 → FnX P w K mg base (3 * k) (f i) (fd i) (dP i) (spE K mg (dN i) (C i))) : FnG P w K mg base (3 * k + 3) (f 16) (fd 16) (dP 16) (spM K mg 1 (m16 C)) := by
 refine fnG_ok (st := s16) (x := (Str.ofString "_choice_read")) (qual := (Str.ofString "_choice_read")) (T.d 16 (by decide)).fn S16 rfl (fun cdv A outer s H E hr2 hgd => ?_)
 have hr := hr2.mono (j := 3 * k) (by omega)
 refine cSs_one ?_
 refine cS_ret ?_
 refine kCall (x := dX 5) (ps := P5) (G 5 (by decide)) hr hgd (T.d 5 (by decide)).fn.kp ((T.d 5 (by decide)).bi rfl) (T.d 5 (by decide)).mg ?_
 refine kA ?_ ?_
 ·exact cV 0
 ·refine kA ?_ ?_
  ·exact cE_str
  ·exact cA_nil
theorem ok17 (T : Txt w K mg f fd xc cc) (V : Lams base mg cc pt) {k : Nat} {C : Nat → MF} (G : ∀ i, i < 26 → FnG P w K mg base (3 * k) (f i) (fd i) (dP i) (spM K mg (dN i) (C i))) (GX : ∀ i, 26 ≤ i → i < 28 → FnX P w K mg base (3 * k) (f i) (fd i) (dP i) (spE K mg (dN i) (C i))) : FnG P w K mg base (3 * k + 3) (f 17) (fd 17) (dP 17) (spM K mg 1 (m17 C)) := by
 refine fnG_ok (st := s17) (x := (Str.ofString "_law_feed")) (qual := (Str.ofString "_law_feed")) (T.d 17 (by decide)).fn S17 rfl (fun cdv A outer s H E hr2 hgd => ?_)
 have hr := hr2.mono (j := 3 * k) (by omega)
 refine cSs_one ?_
 refine cS_ret ?_
 refine cE_lst ?_
 refine kA ?_ ?_
 ·refine kTy call_list_of callS_list T.b_list boot_list ?_
  refine kA ?_ ?_
  ·refine cE_slA ?_ ?_ ?_
   ·exact cV 0
   ·exact cO_none
   ·refine cO_some ?_
    exact cE_int
  ·exact cA_nil
 ·refine kA ?_ ?_
  ·exact cE_int
  ·refine kA ?_ ?_
   ·exact cE_int
   ·refine kA ?_ ?_
    ·exact cE_int
    ·exact cA_nil
theorem ok18 (T : Txt w K mg f fd xc cc) (V : Lams base mg cc pt) {k : Nat} {C : Nat → MF} (G : ∀ i, i < 26 → FnG P w K mg base (3 * k) (f i) (fd i) (dP i) (spM K mg (dN i) (C i))) (GX : ∀ i, 26 ≤ i → i < 28 → FnX P w K mg base (3 * k) (f i) (fd i) (dP i) (spE K mg (dN i) (C i))) : FnG P w K mg base (3 * k + 3) (f 18) (fd 18) (dP 18) (spM K mg 2 (m18 C)) := by
 refine fnG_ok (st := s18) (x := (Str.ofString "_law_draw")) (qual := (Str.ofString "_law_draw")) (T.d 18 (by decide)).fn S18 rfl (fun cdv A outer s H E hr2 hgd => ?_)
 have hr := hr2.mono (j := 3 * k) (by omega)
 refine cSs_cons ?_ ?_
 ·refine kAsgT (L := []) ?_ ?_
  ·refine cE_bin (op_add.or (op_add_str.or (op_catA.or op_cat))) (OpS.alt opS_iiI0 (OpS.alt opS_ssS (OpS.alt opS_ttT opS_llL))) ?_ ?_
   ·refine kIx (hu_of hr) ?_ ?_
    ·exact cV 0
    ·exact cE_int
   ·exact cE_int
  ·refine kGs (hu_of hr) ?_ ?_
   ·exact cV 0
   ·exact cE_int
 ·refine cSs_cons ?_ ?_
  ·refine cS_if ?_ ?_ ?_
   ·refine kCmpT (op_gt.or (op_gt_str.or (op_gtD hr.units))) (OpS.alt opS_iiB (OpS.alt opS_ssB opS_ord)) ?_ ?_
    ·refine kIx (hu_of hr) ?_ ?_
     ·exact cV 0
     ·exact cE_int
    ·exact cE_int
   ·refine cSs_cons ?_ ?_
    ·refine kSet 2 S18.nd ?_
     refine cE_bin op_mod opS_mod ?_ ?_
     ·refine kIx (hu_of hr) ?_ ?_
      ·exact cV 0
      ·exact cE_int
     ·exact cV 1
    ·refine cSs_cons ?_ ?_
     ·refine kAsgT (L := []) ?_ ?_
      ·refine cE_bin op_fdiv opS_fdiv ?_ ?_
       ·refine kIx (hu_of hr) ?_ ?_
        ·exact cV 0
        ·exact cE_int
       ·exact cV 1
      ·refine kGs (hu_of hr) ?_ ?_
       ·exact cV 0
       ·exact cE_int
     ·refine cSs_one ?_
      refine cS_ret ?_
      exact cV 2
   ·exact cSs_nil
  ·refine cSs_cons ?_ ?_
   ·refine kSet 3 S18.nd ?_
    refine cE_if ?_ ?_ ?_
    ·refine kCmpT (op_ne.or (op_neD hr.units)) (OpS.alt opS_sNe opS_deepNe) ?_ ?_
     ·refine kIx (hu_of hr) ?_ ?_
      ·exact cV 0
      ·exact cE_int
     ·refine cE_lst ?_
      exact cA_nil
    ·refine kIx (hu_of hr) ?_ ?_
     ·refine kIx (hu_of hr) ?_ ?_
      ·exact cV 0
      ·exact cE_int
     ·refine cE_bin op_mod opS_mod ?_ ?_
      ·refine kIx (hu_of hr) ?_ ?_
       ·exact cV 0
       ·exact cE_int
      ·refine kB (call_len_seq.or call_len_str) callS_len T.b_len PySem.boot_len ?_
       refine kA ?_ ?_
       ·refine kIx (hu_of hr) ?_ ?_
        ·exact cV 0
        ·exact cE_int
       ·exact cA_nil
    ·exact cE_int
   ·refine cSs_cons ?_ ?_
    ·refine kAsgT (L := []) ?_ ?_
     ·refine cE_bin (op_add.or (op_add_str.or (op_catA.or op_cat))) (OpS.alt opS_iiI0 (OpS.alt opS_ssS (OpS.alt opS_ttT opS_llL))) ?_ ?_
      ·refine kIx (hu_of hr) ?_ ?_
       ·exact cV 0
       ·exact cE_int
      ·exact cE_int
     ·refine kGs (hu_of hr) ?_ ?_
      ·exact cV 0
      ·exact cE_int
    ·refine cSs_cons ?_ ?_
     ·refine cS_if ?_ ?_ ?_
      ·refine cT_w ?_
       refine cW_and ?_ ?_
       ·refine kCmpT (op_ge.or (op_ge_str.or (op_geD hr.units))) (OpS.alt opS_iiB (OpS.alt opS_ssB opS_ord)) ?_ ?_
        ·exact cV 3
        ·refine cE_bin op_pow opS_pow ?_ ?_
         ·exact cE_int
         ·exact cE_int
       ·refine cW_and1 ?_
        refine kCmpT (op_le.or (op_le_str.or (op_leD hr.units))) (OpS.alt opS_iiB (OpS.alt opS_ssB opS_ord)) ?_ ?_
        ·refine kIx (hu_of hr) ?_ ?_
         ·exact cV 0
         ·exact cE_int
        ·refine kB (call_len_seq.or call_len_str) callS_len T.b_len PySem.boot_len ?_
         refine kA ?_ ?_
         ·refine kIx (hu_of hr) ?_ ?_
          ·exact cV 0
          ·exact cE_int
         ·exact cA_nil
      ·refine cSs_cons ?_ ?_
       ·refine kAsgT (L := []) ?_ ?_
        ·refine cE_bin op_fdiv opS_fdiv ?_ ?_
         ·exact cV 3
         ·exact cV 1
        ·refine kGs (hu_of hr) ?_ ?_
         ·exact cV 0
         ·exact cE_int
       ·refine cSs_one ?_
        refine cS_ret ?_
        refine cE_bin op_mod opS_mod ?_ ?_
        ·exact cV 3
        ·exact cV 1
      ·exact cSs_nil
     ·refine cSs_cons ?_ ?_
      ·refine kSet 4 S18.nd ?_
       refine cE_bin op_mod opS_mod ?_ ?_
       ·refine cE_bin op_pow opS_pow ?_ ?_
        ·refine cE_bin (op_add.or (op_add_str.or (op_catA.or op_cat))) (OpS.alt opS_iiI0 (OpS.alt opS_ssS (OpS.alt opS_ttT opS_llL))) ?_ ?_
         ·refine cE_bin (op_add.or (op_add_str.or (op_catA.or op_cat))) (OpS.alt opS_iiI0 (OpS.alt opS_ssS (OpS.alt opS_ttT opS_llL))) ?_ ?_
          ·refine cE_bin op_mod opS_mod ?_ ?_
           ·exact cV 3
           ·exact cE_int
          ·refine cE_bin ((op_mul.or (op_repT.or op_rep)).or op_repS) (OpS.alt (OpS.alt opS_mul (OpS.alt opS_tiT opS_liL)) opS_siS) ?_ ?_
           ·exact cE_int
           ·refine kIx (hu_of hr) ?_ ?_
            ·exact cV 0
            ·exact cE_int
         ·exact cE_int
        ·exact cE_int
       ·exact cE_int
      ·refine cSs_one ?_
       refine cS_ret ?_
       refine cE_bin op_mod opS_mod ?_ ?_
       ·refine cE_bin op_fdiv opS_fdiv ?_ ?_
        ·refine cE_bin op_mod opS_mod ?_ ?_
         ·refine cE_bin op_pow opS_pow ?_ ?_
          ·refine cE_bin (op_add.or (op_add_str.or (op_catA.or op_cat))) (OpS.alt opS_iiI0 (OpS.alt opS_ssS (OpS.alt opS_ttT opS_llL))) ?_ ?_
           ·exact cV 4
           ·refine cE_bin ((op_mul.or (op_repT.or op_rep)).or op_repS) (OpS.alt (OpS.alt opS_mul (OpS.alt opS_tiT opS_liL)) opS_siS) ?_ ?_
            ·exact cE_int
            ·refine kIx (hu_of hr) ?_ ?_
             ·exact cV 0
             ·exact cE_int
          ·exact cE_int
         ·exact cE_int
        ·exact cE_int
       ·exact cV 1
theorem ok19 (T : Txt w K mg f fd xc cc) (V : Lams base mg cc pt) {k : Nat} {C : Nat → MF} (G : ∀ i, i < 26 → FnG P w K mg base (3 * k) (f i) (fd i) (dP i) (spM K mg (dN i) (C i))) (GX : ∀ i, 26 ≤ i → i < 28 → FnX P w K mg base (3 * k) (f i) (fd i) (dP i) (spE K mg (dN i) (C i))) : FnG P w K mg base (3 * k + 3) (f 19) (fd 19) (dP 19) (spM K mg 2 (m19 C)) := by
 refine fnG_ok (st := s19) (x := (Str.ofString "_law_any")) (qual := (Str.ofString "_law_any")) (T.d 19 (by decide)).fn S19 rfl (fun cdv A outer s H E hr2 hgd => ?_)
 have hr := hr2.mono (j := 3 * k) (by omega)
 refine cSs_one ?_
 refine cS_ret ?_
 refine kIx (hu_of hr) ?_ ?_
 ·exact cV 1
 ·refine kCall (x := dX 18) (ps := P18) (G 18 (by decide)) hr hgd (T.d 18 (by decide)).fn.kp ((T.d 18 (by decide)).bi rfl) (T.d 18 (by decide)).mg ?_
  refine kA ?_ ?_
  ·exact cV 0
  ·refine kA ?_ ?_
   ·refine kB (call_len_seq.or call_len_str) callS_len T.b_len PySem.boot_len ?_
    refine kA ?_ ?_
    ·exact cV 1
    ·exact cA_nil
   ·exact cA_nil
theorem ok20 (T : Txt w K mg f fd xc cc) (V : Lams base mg cc pt) {k : Nat} {C : Nat → MF} (G : ∀ i, i < 26 → FnG P w K mg base (3 * k) (f i) (fd i) (dP i) (spM K mg (dN i) (C i))) (GX : ∀ i, 26 ≤ i → i < 28 → FnX P w K mg base (3 * k) (f i) (fd i) (dP i) (spE K mg (dN i) (C i))) : FnG P w K mg base (3 * k + 3) (f 20) (fd 20) (dP 20) (spM K mg 1 (m20 C)) := by
 refine fnG_ok (st := s20) (x := (Str.ofString "_law_joined")) (qual := (Str.ofString "_law_joined")) (T.d 20 (by decide)).fn S20 rfl (fun cdv A outer s H E hr2 hgd => ?_)
 have hr := hr2.mono (j := 3 * k) (by omega)
 refine cSs_one ?_
 refine cS_ret ?_
 refine cE_if ?_ ?_ ?_
 ·refine kCmpT (op_gt.or (op_gt_str.or (op_gtD hr.units))) (OpS.alt opS_iiB (OpS.alt opS_ssB opS_ord)) ?_ ?_
  ·refine kB (call_len_seq.or call_len_str) callS_len T.b_len PySem.boot_len ?_
   refine kA ?_ ?_
   ·exact cV 0
   ·exact cA_nil
  ·exact cE_int
 ·refine kMt PySem.F.plainAttrs_str PySem.F.slot_str_join PySem.F.type_str_join mt_join mtS_joinA ?_ ?_
  ·exact cE_str
  ·refine kA ?_ ?_
   ·exact cV 0
   ·exact cA_nil
 ·exact cE_str
theorem ok21 (T : Txt w K mg f fd xc cc) (V : Lams base mg cc pt) {k : Nat} {C : Nat → MF} (G : ∀ i, i < 26 → FnG P w K mg base (3 * k) (f i) (fd i) (dP i) (spM K mg (dN i) (C i))) (GX : ∀ i, 26 ≤ i → i < 28 → FnX P w K mg base (3 * k) (f i) (fd i) (dP i) (spE K mg (dN i) (C i))) : FnG P w K mg base (3 * k + 3) (f 21) (fd 21) (dP 21) (spM K mg 1 (m21 C)) := by
 refine fnG_ok (st := s21) (x := (Str.ofString "_law_words")) (qual := (Str.ofString "_law_words")) (T.d 21 (by decide)).fn S21 rfl (fun cdv A outer s H E hr2 hgd => ?_)
 have hr := hr2.mono (j := 3 * k) (by omega)
 refine cSs_cons ?_ ?_
 ·refine kSet 1 S21.nd ?_
  refine cE_lst ?_
  refine kA ?_ ?_
  ·refine kIx (hu_of hr) ?_ ?_
   ·exact cV 0
   ·exact cE_int
  ·refine kA ?_ ?_
   ·refine kCall (x := dX 20) (ps := P20) (G 20 (by decide)) hr hgd (T.d 20 (by decide)).fn.kp ((T.d 20 (by decide)).bi rfl) (T.d 20 (by decide)).mg ?_
    refine kA ?_ ?_
    ·refine kIx (hu_of hr) ?_ ?_
     ·exact cV 0
     ·exact cE_int
    ·exact cA_nil
   ·refine kA ?_ ?_
    ·refine kCall (x := dX 20) (ps := P20) (G 20 (by decide)) hr hgd (T.d 20 (by decide)).fn.kp ((T.d 20 (by decide)).bi rfl) (T.d 20 (by decide)).mg ?_
     refine kA ?_ ?_
     ·refine kLc (L := [2]) (own := [ ((Str.ofString "_law_many") , 2) ]) rfl S21.nd ?_ (by exact show blkC N21 (defScope s21) _ [ ((Str.ofString "_law_many") , 2) ] = true from by decide +kernel) (by decide) (fun _ _ _ _ _ => ?_) (fun _ _ _ _ _ => ?_) (fun _ _ _ _ _ => ?_)
      ·refine cI_seq ?_
       refine kIx (hu_of hr) ?_ ?_
       ·exact cV 0
       ·exact cE_int
      ·exact cGn 2 S21.nd
      ·exact cTs_nil
      ·refine kTy call_str_int callS_strI T.b_str (by rfl) ?_
       refine kA ?_ ?_
       ·exact cV 2
       ·exact cA_nil
     ·exact cA_nil
    ·exact cA_nil
 ·refine cSs_cons ?_ ?_
  ·refine kExpr ?_
   refine kMt PySem.F.plainAttrs_list PySem.F.slot_list_append PySem.F.type_list_append mt_append mtS_append ?_ ?_
   ·exact cV 1
   ·refine kA ?_ ?_
    ·refine kCall (x := dX 20) (ps := P20) (G 20 (by decide)) hr hgd (T.d 20 (by decide)).fn.kp ((T.d 20 (by decide)).bi rfl) (T.d 20 (by decide)).mg ?_
     refine kA ?_ ?_
     ·refine kLc (L := ([3] ++ ([4] ++ []))) (own := [ ((Str.ofString "_law_word") , 3) , ((Str.ofString "_law_name") , 4) ]) rfl S21.nd ?_ (by exact show blkC N21 (defScope s21) _ [ ((Str.ofString "_law_word") , 3) , ((Str.ofString "_law_name") , 4) ] = true from by decide +kernel) (by decide) (fun _ _ _ _ _ => ?_) (fun _ _ _ _ _ => ?_) (fun _ _ _ _ _ => ?_)
      ·refine cI_seq ?_
       refine kIx (hu_of hr) ?_ ?_
       ·exact cV 0
       ·exact cE_int
      ·refine kGt rfl ?_
       refine kGc ?_ ?_
       ·exact cGn 3 S21.nd
       ·refine kGc ?_ ?_
        ·exact cGn 4 S21.nd
        ·exact cGs_nil
      ·exact cTs_nil
      ·refine cE_bin (op_add.or (op_add_str.or (op_catA.or op_cat))) (OpS.alt opS_iiI0 (OpS.alt opS_ssS (OpS.alt opS_ttT opS_llL))) ?_ ?_
       ·refine cE_bin (op_add.or (op_add_str.or (op_catA.or op_cat))) (OpS.alt opS_iiI0 (OpS.alt opS_ssS (OpS.alt opS_ttT opS_llL))) ?_ ?_
        ·exact cV 3
        ·exact cE_str
       ·exact cV 4
     ·exact cA_nil
    ·exact cA_nil
  ·refine cSs_cons ?_ ?_
   ·refine kExpr ?_
    refine kMt PySem.F.plainAttrs_list PySem.F.slot_list_append PySem.F.type_list_append mt_append mtS_append ?_ ?_
    ·exact cV 1
    ·refine kA ?_ ?_
     ·refine kCall (x := dX 20) (ps := P20) (G 20 (by decide)) hr hgd (T.d 20 (by decide)).fn.kp ((T.d 20 (by decide)).bi rfl) (T.d 20 (by decide)).mg ?_
      refine kA ?_ ?_
      ·refine kLc (L := ([4] ++ ([2] ++ []))) (own := [ ((Str.ofString "_law_name") , 4) , ((Str.ofString "_law_many") , 2) ]) rfl S21.nd ?_ (by exact show blkC N21 (defScope s21) _ [ ((Str.ofString "_law_name") , 4) , ((Str.ofString "_law_many") , 2) ] = true from by decide +kernel) (by decide) (fun _ _ _ _ _ => ?_) (fun _ _ _ _ _ => ?_) (fun _ _ _ _ _ => ?_)
       ·refine cI_seq ?_
        refine kIx (hu_of hr) ?_ ?_
        ·exact cV 0
        ·exact cE_int
       ·refine kGt rfl ?_
        refine kGc ?_ ?_
        ·exact cGn 4 S21.nd
        ·refine kGc ?_ ?_
         ·exact cGn 2 S21.nd
         ·exact cGs_nil
       ·exact cTs_nil
       ·refine cE_bin (op_add.or (op_add_str.or (op_catA.or op_cat))) (OpS.alt opS_iiI0 (OpS.alt opS_ssS (OpS.alt opS_ttT opS_llL))) ?_ ?_
        ·refine cE_bin (op_add.or (op_add_str.or (op_catA.or op_cat))) (OpS.alt opS_iiI0 (OpS.alt opS_ssS (OpS.alt opS_ttT opS_llL))) ?_ ?_
         ·exact cV 4
         ·exact cE_str
        ·refine kTy call_str_int callS_strI T.b_str (by rfl) ?_
         refine kA ?_ ?_
         ·exact cV 2
         ·exact cA_nil
      ·exact cA_nil
     ·exact cA_nil
   ·refine cSs_one ?_
    refine cS_ret ?_
    refine cE_bin (op_add.or (op_add_str.or (op_catA.or op_cat))) (OpS.alt opS_iiI0 (OpS.alt opS_ssS (OpS.alt opS_ttT opS_llL))) ?_ ?_
    ·exact cV 1
    ·refine cE_lst ?_
     refine kA ?_ ?_
     ·refine kCall (x := dX 20) (ps := P20) (G 20 (by decide)) hr hgd (T.d 20 (by decide)).fn.kp ((T.d 20 (by decide)).bi rfl) (T.d 20 (by decide)).mg ?_
      refine kA ?_ ?_
      ·refine kLc (L := ([4] ++ ([5] ++ []))) (own := [ ((Str.ofString "_law_name") , 4) , ((Str.ofString "_law_tag") , 5) ]) rfl S21.nd ?_ (by exact show blkC N21 (defScope s21) _ [ ((Str.ofString "_law_name") , 4) , ((Str.ofString "_law_tag") , 5) ] = true from by decide +kernel) (by decide) (fun _ _ _ _ _ => ?_) (fun _ _ _ _ _ => ?_) (fun _ _ _ _ _ => ?_)
       ·refine cI_seq ?_
        refine kIx (hu_of hr) ?_ ?_
        ·exact cV 0
        ·exact cE_int
       ·refine kGt rfl ?_
        refine kGc ?_ ?_
        ·exact cGn 4 S21.nd
        ·refine kGc ?_ ?_
         ·exact cGn 5 S21.nd
         ·exact cGs_nil
       ·exact cTs_nil
       ·refine cE_bin (op_add.or (op_add_str.or (op_catA.or op_cat))) (OpS.alt opS_iiI0 (OpS.alt opS_ssS (OpS.alt opS_ttT opS_llL))) ?_ ?_
        ·refine cE_bin (op_add.or (op_add_str.or (op_catA.or op_cat))) (OpS.alt opS_iiI0 (OpS.alt opS_ssS (OpS.alt opS_ttT opS_llL))) ?_ ?_
         ·exact cV 4
         ·exact cE_str
        ·exact cV 5
      ·exact cA_nil
     ·refine kA ?_ ?_
      ·refine kTy call_str_int callS_strI T.b_str (by rfl) ?_
       refine kA ?_ ?_
       ·refine kIx (hu_of hr) ?_ ?_
        ·exact cV 0
        ·exact cE_int
       ·exact cA_nil
      ·exact cA_nil
theorem ok22 (T : Txt w K mg f fd xc cc) (V : Lams base mg cc pt) {k : Nat} {C : Nat → MF} (G : ∀ i, i < 26 → FnG P w K mg base (3 * k) (f i) (fd i) (dP i) (spM K mg (dN i) (C i))) (GX : ∀ i, 26 ≤ i → i < 28 → FnX P w K mg base (3 * k) (f i) (fd i) (dP i) (spE K mg (dN i) (C i))) : FnG P w K mg base (3 * k + 3) (f 22) (fd 22) (dP 22) (spM K mg 1 (m22 C)) := by
 refine fnG_ok (st := s22) (x := (Str.ofString "_law_any_post")) (qual := (Str.ofString "_law_any_post")) (T.d 22 (by decide)).fn S22 rfl (fun cdv A outer s H E hr2 hgd => ?_)
 have hr := hr2.mono (j := 3 * k) (by omega)
 refine cSs_cons ?_ ?_
 ·refine kSet 1 S22.nd ?_
  refine cE_lst ?_
  refine kA ?_ ?_
  ·exact cE_str
  ·refine kA ?_ ?_
   ·exact cE_str
   ·refine kA ?_ ?_
    ·exact cE_str
    ·refine kA ?_ ?_
     ·exact cE_str
     ·exact cA_nil
 ·refine cSs_cons ?_ ?_
  ·refine kSet 2 S22.nd ?_
   refine cE_lst ?_
   refine kA ?_ ?_
   ·exact cE_int
   ·refine kA ?_ ?_
    ·exact cE_int
    ·refine kA ?_ ?_
     ·refine cE_neg ?_
      exact cE_int
     ·refine kA ?_ ?_
      ·refine cE_neg ?_
       exact cE_int
      ·refine kA ?_ ?_
       ·refine cE_bin op_pow opS_pow ?_ ?_
        ·exact cE_int
        ·exact cE_int
       ·refine kA ?_ ?_
        ·refine cE_bin op_pow opS_pow ?_ ?_
         ·exact cE_int
         ·exact cE_int
        ·refine kA ?_ ?_
         ·refine cE_bin op_sub opS_iiI0 ?_ ?_
          ·exact cE_int
          ·refine cE_bin op_pow opS_pow ?_ ?_
           ·exact cE_int
           ·exact cE_int
         ·exact cA_nil
  ·refine cSs_cons ?_ ?_
   ·refine kSet 3 S22.nd ?_
    refine kTy call_tuple_of callS_tuple T.b_tuple boot_tuple ?_
    refine kA ?_ ?_
    ·refine kLc (L := [4]) (own := [ ((Str.ofString "_law_k") , 4) ]) rfl S22.nd ?_ (by exact show blkC N22 (defScope s22) _ [ ((Str.ofString "_law_k") , 4) ] = true from by decide +kernel) (by decide) (fun _ _ _ _ _ => ?_) (fun _ _ _ _ _ => ?_) (fun _ _ _ _ _ => ?_)
     ·refine kR1 T.b_range ?_
      refine kA ?_ ?_
      ·refine kCall (x := dX 18) (ps := P18) (G 18 (by decide)) hr hgd (T.d 18 (by decide)).fn.kp ((T.d 18 (by decide)).bi rfl) (T.d 18 (by decide)).mg ?_
       refine kA ?_ ?_
       ·exact cV 0
       ·refine kA ?_ ?_
        ·exact cE_int
        ·exact cA_nil
      ·exact cA_nil
     ·exact cGn 4 S22.nd
     ·exact cTs_nil
     ·refine kCall (x := dX 19) (ps := P19) (G 19 (by decide)) hr hgd (T.d 19 (by decide)).fn.kp ((T.d 19 (by decide)).bi rfl) (T.d 19 (by decide)).mg ?_
      refine kA ?_ ?_
      ·exact cV 0
      ·refine kA ?_ ?_
       ·exact cV 1
       ·exact cA_nil
    ·exact cA_nil
   ·refine cSs_cons ?_ ?_
    ·refine kSet 5 S22.nd ?_
     refine kTy call_tuple_of callS_tuple T.b_tuple boot_tuple ?_
     refine kA ?_ ?_
     ·refine kLc (L := [4]) (own := [ ((Str.ofString "_law_k") , 4) ]) rfl S22.nd ?_ (by exact show blkC N22 (defScope s22) _ [ ((Str.ofString "_law_k") , 4) ] = true from by decide +kernel) (by decide) (fun _ _ _ _ _ => ?_) (fun _ _ _ _ _ => ?_) (fun _ _ _ _ _ => ?_)
      ·refine kR1 T.b_range ?_
       refine kA ?_ ?_
       ·refine kCall (x := dX 18) (ps := P18) (G 18 (by decide)) hr hgd (T.d 18 (by decide)).fn.kp ((T.d 18 (by decide)).bi rfl) (T.d 18 (by decide)).mg ?_
        refine kA ?_ ?_
        ·exact cV 0
        ·refine kA ?_ ?_
         ·exact cE_int
         ·exact cA_nil
       ·exact cA_nil
      ·exact cGn 4 S22.nd
      ·exact cTs_nil
      ·refine kCall (x := dX 19) (ps := P19) (G 19 (by decide)) hr hgd (T.d 19 (by decide)).fn.kp ((T.d 19 (by decide)).bi rfl) (T.d 19 (by decide)).mg ?_
       refine kA ?_ ?_
       ·exact cV 0
       ·refine kA ?_ ?_
        ·exact cV 2
        ·exact cA_nil
     ·exact cA_nil
    ·refine cSs_cons ?_ ?_
     ·refine kSet 6 S22.nd ?_
      refine kTy call_tuple_of callS_tuple T.b_tuple boot_tuple ?_
      refine kA ?_ ?_
      ·refine kLc (L := [4]) (own := [ ((Str.ofString "_law_k") , 4) ]) rfl S22.nd ?_ (by exact show blkC N22 (defScope s22) _ [ ((Str.ofString "_law_k") , 4) ] = true from by decide +kernel) (by decide) (fun _ _ _ _ _ => ?_) (fun _ _ _ _ _ => ?_) (fun _ _ _ _ _ => ?_)
       ·refine kR1 T.b_range ?_
        refine kA ?_ ?_
        ·refine kCall (x := dX 18) (ps := P18) (G 18 (by decide)) hr hgd (T.d 18 (by decide)).fn.kp ((T.d 18 (by decide)).bi rfl) (T.d 18 (by decide)).mg ?_
         refine kA ?_ ?_
         ·exact cV 0
         ·refine kA ?_ ?_
          ·exact cE_int
          ·exact cA_nil
        ·exact cA_nil
       ·exact cGn 4 S22.nd
       ·exact cTs_nil
       ·refine cE_tup ?_
        refine kA ?_ ?_
        ·refine kCall (x := dX 19) (ps := P19) (G 19 (by decide)) hr hgd (T.d 19 (by decide)).fn.kp ((T.d 19 (by decide)).bi rfl) (T.d 19 (by decide)).mg ?_
         refine kA ?_ ?_
         ·exact cV 0
         ·refine kA ?_ ?_
          ·refine cE_lst ?_
           refine kA ?_ ?_
           ·exact cE_str
           ·refine kA ?_ ?_
            ·exact cE_str
            ·exact cA_nil
          ·exact cA_nil
        ·refine kA ?_ ?_
         ·refine kCall (x := dX 19) (ps := P19) (G 19 (by decide)) hr hgd (T.d 19 (by decide)).fn.kp ((T.d 19 (by decide)).bi rfl) (T.d 19 (by decide)).mg ?_
          refine kA ?_ ?_
          ·exact cV 0
          ·refine kA ?_ ?_
           ·exact cV 1
           ·exact cA_nil
         ·exact cA_nil
      ·exact cA_nil
     ·refine cSs_cons ?_ ?_
      ·refine kSet 7 S22.nd ?_
       refine kTy call_tuple_of callS_tuple T.b_tuple boot_tuple ?_
       refine kA ?_ ?_
       ·refine kLc (L := [4]) (own := [ ((Str.ofString "_law_k") , 4) ]) rfl S22.nd ?_ (by exact show blkC N22 (defScope s22) _ [ ((Str.ofString "_law_k") , 4) ] = true from by decide +kernel) (by decide) (fun _ _ _ _ _ => ?_) (fun _ _ _ _ _ => ?_) (fun _ _ _ _ _ => ?_)
        ·refine kR1 T.b_range ?_
         refine kA ?_ ?_
         ·refine kCall (x := dX 18) (ps := P18) (G 18 (by decide)) hr hgd (T.d 18 (by decide)).fn.kp ((T.d 18 (by decide)).bi rfl) (T.d 18 (by decide)).mg ?_
          refine kA ?_ ?_
          ·exact cV 0
          ·refine kA ?_ ?_
           ·exact cE_int
           ·exact cA_nil
         ·exact cA_nil
        ·exact cGn 4 S22.nd
        ·exact cTs_nil
        ·refine cE_tup ?_
         refine kA ?_ ?_
         ·refine kCall (x := dX 19) (ps := P19) (G 19 (by decide)) hr hgd (T.d 19 (by decide)).fn.kp ((T.d 19 (by decide)).bi rfl) (T.d 19 (by decide)).mg ?_
          refine kA ?_ ?_
          ·exact cV 0
          ·refine kA ?_ ?_
           ·exact cV 1
           ·exact cA_nil
         ·refine kA ?_ ?_
          ·refine kCall (x := dX 19) (ps := P19) (G 19 (by decide)) hr hgd (T.d 19 (by decide)).fn.kp ((T.d 19 (by decide)).bi rfl) (T.d 19 (by decide)).mg ?_
           refine kA ?_ ?_
           ·exact cV 0
           ·refine kA ?_ ?_
            ·exact cV 2
            ·exact cA_nil
          ·exact cA_nil
       ·exact cA_nil
      ·refine cSs_cons ?_ ?_
       ·refine kSet 8 S22.nd ?_
        refine kTy call_tuple_of callS_tuple T.b_tuple boot_tuple ?_
        refine kA ?_ ?_
        ·refine kLc (L := [4]) (own := [ ((Str.ofString "_law_k") , 4) ]) rfl S22.nd ?_ (by exact show blkC N22 (defScope s22) _ [ ((Str.ofString "_law_k") , 4) ] = true from by decide +kernel) (by decide) (fun _ _ _ _ _ => ?_) (fun _ _ _ _ _ => ?_) (fun _ _ _ _ _ => ?_)
         ·refine kR1 T.b_range ?_
          refine kA ?_ ?_
          ·refine kCall (x := dX 18) (ps := P18) (G 18 (by decide)) hr hgd (T.d 18 (by decide)).fn.kp ((T.d 18 (by decide)).bi rfl) (T.d 18 (by decide)).mg ?_
           refine kA ?_ ?_
           ·exact cV 0
           ·refine kA ?_ ?_
            ·exact cE_int
            ·exact cA_nil
          ·exact cA_nil
         ·exact cGn 4 S22.nd
         ·exact cTs_nil
         ·refine cE_tup ?_
          refine kA ?_ ?_
          ·refine kCall (x := dX 19) (ps := P19) (G 19 (by decide)) hr hgd (T.d 19 (by decide)).fn.kp ((T.d 19 (by decide)).bi rfl) (T.d 19 (by decide)).mg ?_
           refine kA ?_ ?_
           ·exact cV 0
           ·refine kA ?_ ?_
            ·exact cV 1
            ·exact cA_nil
          ·refine kA ?_ ?_
           ·refine kCall (x := dX 19) (ps := P19) (G 19 (by decide)) hr hgd (T.d 19 (by decide)).fn.kp ((T.d 19 (by decide)).bi rfl) (T.d 19 (by decide)).mg ?_
            refine kA ?_ ?_
            ·exact cV 0
            ·refine kA ?_ ?_
             ·exact cV 1
             ·exact cA_nil
           ·exact cA_nil
        ·exact cA_nil
       ·refine cSs_one ?_
        refine cS_ret ?_
        refine cE_tup ?_
        refine kA ?_ ?_
        ·refine kCall (x := dX 19) (ps := P19) (G 19 (by decide)) hr hgd (T.d 19 (by decide)).fn.kp ((T.d 19 (by decide)).bi rfl) (T.d 19 (by decide)).mg ?_
         refine kA ?_ ?_
         ·exact cV 0
         ·refine kA ?_ ?_
          ·exact cV 1
          ·exact cA_nil
        ·refine kA ?_ ?_
         ·exact cV 3
         ·refine kA ?_ ?_
          ·exact cV 5
          ·refine kA ?_ ?_
           ·exact cV 6
           ·refine kA ?_ ?_
            ·exact cV 7
            ·refine kA ?_ ?_
             ·exact cV 8
             ·refine kA ?_ ?_
              ·refine kCall (x := dX 19) (ps := P19) (G 19 (by decide)) hr hgd (T.d 19 (by decide)).fn.kp ((T.d 19 (by decide)).bi rfl) (T.d 19 (by decide)).mg ?_
               refine kA ?_ ?_
               ·exact cV 0
               ·refine kA ?_ ?_
                ·exact cV 2
                ·exact cA_nil
              ·exact cA_nil
theorem ok23 (T : Txt w K mg f fd xc cc) (V : Lams base mg cc pt) {k : Nat} {C : Nat → MF} (G : ∀ i, i < 26 → FnG P w K mg base (3 * k) (f i) (fd i) (dP i) (spM K mg (dN i) (C i))) (GX : ∀ i, 26 ≤ i → i < 28 → FnX P w K mg base (3 * k) (f i) (fd i) (dP i) (spE K mg (dN i) (C i))) : FnG P w K mg base (3 * k + 3) (f 23) (fd 23) (dP 23) (spM K mg 1 (m23 C)) := by
 refine fnG_ok (st := s23) (x := (Str.ofString "_law_bad_words")) (qual := (Str.ofString "_law_bad_words")) (T.d 23 (by decide)).fn S23 rfl (fun cdv A outer s H E hr2 hgd => ?_)
 have hr := hr2.mono (j := 3 * k) (by omega)
 refine cSs_cons ?_ ?_
 ·refine kSet 1 S23.nd ?_
  refine cE_lst ?_
  refine kA ?_ ?_
  ·exact cE_str
  ·refine kA ?_ ?_
   ·exact cE_str
   ·refine kA ?_ ?_
    ·refine cE_bin (op_add.or (op_add_str.or (op_catA.or op_cat))) (OpS.alt opS_iiI0 (OpS.alt opS_ssS (OpS.alt opS_ttT opS_llL))) ?_ ?_
     ·refine cE_slA ?_ ?_ ?_
      ·exact cE_str
      ·exact cO_none
      ·refine cO_some ?_
       exact cE_int
     ·exact cE_str
    ·refine kA ?_ ?_
     ·exact cE_str
     ·refine kA ?_ ?_
      ·exact cE_str
      ·refine kA ?_ ?_
       ·exact cE_str
       ·refine kA ?_ ?_
        ·exact cE_str
        ·exact cA_nil
 ·refine cSs_cons ?_ ?_
  ·refine kSet 2 S23.nd ?_
   refine cE_lst ?_
   refine kA ?_ ?_
   ·exact cE_str
   ·refine kA ?_ ?_
    ·exact cE_str
    ·refine kA ?_ ?_
     ·exact cE_str
     ·refine kA ?_ ?_
      ·exact cE_str
      ·refine kA ?_ ?_
       ·exact cE_str
       ·refine kA ?_ ?_
        ·exact cE_str
        ·refine kA ?_ ?_
         ·exact cE_str
         ·refine kA ?_ ?_
          ·refine cE_bin ((op_mul.or (op_repT.or op_rep)).or op_repS) (OpS.alt (OpS.alt opS_mul (OpS.alt opS_tiT opS_liL)) opS_siS) ?_ ?_
           ·exact cE_str
           ·exact cE_int
          ·refine kA ?_ ?_
           ·exact cE_str
           ·refine kA ?_ ?_
            ·refine cE_bin (op_add.or (op_add_str.or (op_catA.or op_cat))) (OpS.alt opS_iiI0 (OpS.alt opS_ssS (OpS.alt opS_ttT opS_llL))) ?_ ?_
             ·refine cE_slA ?_ ?_ ?_
              ·exact cE_str
              ·exact cO_none
              ·refine cO_some ?_
               exact cE_int
             ·exact cE_str
            ·exact cA_nil
  ·refine cSs_cons ?_ ?_
   ·refine kSet 3 S23.nd ?_
    refine cE_disp ?_ rfl rfl (by simp) (by decide)
    refine cPs_cons ?_ ?_ ?_
    ·exact cE_int
    ·refine cE_lst ?_
     refine kA ?_ ?_
     ·exact cE_str
     ·refine kA ?_ ?_
      ·exact cE_str
      ·refine kA ?_ ?_
       ·exact cE_str
       ·refine kA ?_ ?_
        ·exact cE_str
        ·refine kA ?_ ?_
         ·exact cE_str
         ·refine kA ?_ ?_
          ·exact cE_str
          ·refine kA ?_ ?_
           ·exact cE_str
           ·exact cA_nil
    ·refine cPs_cons ?_ ?_ ?_
     ·exact cE_int
     ·refine cE_bin (op_add.or (op_add_str.or (op_catA.or op_cat))) (OpS.alt opS_iiI0 (OpS.alt opS_ssS (OpS.alt opS_ttT opS_llL))) ?_ ?_
      ·exact cV 1
      ·refine cE_lst ?_
       refine kA ?_ ?_
       ·exact cE_str
       ·refine kA ?_ ?_
        ·exact cE_str
        ·refine kA ?_ ?_
         ·exact cE_str
         ·exact cA_nil
     ·exact cPs_nil
   ·refine cSs_cons ?_ ?_
    ·refine kAsgT (L := []) ?_ ?_
     ·refine cE_bin (op_add.or (op_add_str.or (op_catA.or op_cat))) (OpS.alt opS_iiI0 (OpS.alt opS_ssS (OpS.alt opS_ttT opS_llL))) ?_ ?_
      ·exact cV 2
      ·refine cE_lst ?_
       refine kA ?_ ?_
       ·exact cE_str
       ·refine kA ?_ ?_
        ·exact cE_str
        ·refine kA ?_ ?_
         ·exact cE_str
         ·exact cA_nil
     ·refine kGs (hu_of hr) ?_ ?_
      ·exact cV 3
      ·exact cE_int
    ·refine cSs_cons ?_ ?_
     ·refine kAsgT (L := []) ?_ ?_
      ·refine cE_bin (op_add.or (op_add_str.or (op_catA.or op_cat))) (OpS.alt opS_iiI0 (OpS.alt opS_ssS (OpS.alt opS_ttT opS_llL))) ?_ ?_
       ·exact cV 1
       ·refine cE_lst ?_
        refine kA ?_ ?_
        ·exact cE_str
        ·refine kA ?_ ?_
         ·exact cE_str
         ·refine kA ?_ ?_
          ·exact cE_str
          ·refine kA ?_ ?_
           ·exact cE_str
           ·refine kA ?_ ?_
            ·exact cE_str
            ·refine kA ?_ ?_
             ·exact cE_str
             ·refine kA ?_ ?_
              ·exact cE_str
              ·exact cA_nil
      ·refine kGs (hu_of hr) ?_ ?_
       ·exact cV 3
       ·exact cE_int
     ·refine cSs_cons ?_ ?_
      ·refine kAsgT (L := []) ?_ ?_
       ·refine cE_bin (op_add.or (op_add_str.or (op_catA.or op_cat))) (OpS.alt opS_iiI0 (OpS.alt opS_ssS (OpS.alt opS_ttT opS_llL))) ?_ ?_
        ·exact cV 1
        ·refine cE_lst ?_
         refine kA ?_ ?_
         ·exact cE_str
         ·refine kA ?_ ?_
          ·exact cE_str
          ·refine kA ?_ ?_
           ·exact cE_str
           ·refine kA ?_ ?_
            ·exact cE_str
            ·refine kA ?_ ?_
             ·exact cE_str
             ·refine kA ?_ ?_
              ·exact cE_str
              ·refine kA ?_ ?_
               ·exact cE_str
               ·exact cA_nil
       ·refine kGs (hu_of hr) ?_ ?_
        ·exact cV 3
        ·exact cE_int
      ·refine cSs_cons ?_ ?_
       ·refine kAsgT (L := []) ?_ ?_
        ·refine cE_bin (op_add.or (op_add_str.or (op_catA.or op_cat))) (OpS.alt opS_iiI0 (OpS.alt opS_ssS (OpS.alt opS_ttT opS_llL))) ?_ ?_
         ·exact cV 1
         ·refine cE_lst ?_
          refine kA ?_ ?_
          ·exact cE_str
          ·refine kA ?_ ?_
           ·exact cE_str
           ·refine kA ?_ ?_
            ·exact cE_str
            ·refine kA ?_ ?_
             ·exact cE_str
             ·refine kA ?_ ?_
              ·exact cE_str
              ·refine kA ?_ ?_
               ·exact cE_str
               ·exact cA_nil
        ·refine kGs (hu_of hr) ?_ ?_
         ·exact cV 3
         ·exact cE_int
       ·refine cSs_cons ?_ ?_
        ·refine kAsgT (L := []) ?_ ?_
         ·refine cE_bin (op_add.or (op_add_str.or (op_catA.or op_cat))) (OpS.alt opS_iiI0 (OpS.alt opS_ssS (OpS.alt opS_ttT opS_llL))) ?_ ?_
          ·exact cV 2
          ·refine cE_lst ?_
           refine kA ?_ ?_
           ·exact cE_str
           ·refine kA ?_ ?_
            ·exact cE_str
            ·exact cA_nil
         ·refine kGs (hu_of hr) ?_ ?_
          ·exact cV 3
          ·exact cE_int
        ·refine cSs_one ?_
         refine cS_ret ?_
         refine kIx (hu_of hr) ?_ ?_
         ·exact cV 3
         ·exact cV 0
theorem ok24 (T : Txt w K mg f fd xc cc) (V : Lams base mg cc pt) {k : Nat} {C : Nat → MF} (G : ∀ i, i < 26 → FnG P w K mg base (3 * k) (f i) (fd i) (dP i) (spM K mg (dN i) (C i))) (GX : ∀ i, 26 ≤ i → i < 28 → FnX P w K mg base (3 * k) (f i) (fd i) (dP i) (spE K mg (dN i) (C i))) : FnG P w K mg base (3 * k + 3) (f 24) (fd 24) (dP 24) (spM K mg 1 (m24 C)) := by
 refine fnG_ok (st := s24) (x := (Str.ofString "_law_good_words")) (qual := (Str.ofString "_law_good_words")) (T.d 24 (by decide)).fn S24 rfl (fun cdv A outer s H E hr2 hgd => ?_)
 have hr := hr2.mono (j := 3 * k) (by omega)
 refine cSs_cons ?_ ?_
 ·refine kSet 1 S24.nd ?_
  refine cE_disp ?_ rfl rfl (by simp) (by decide)
  refine cPs_cons ?_ ?_ ?_
  ·exact cE_int
  ·exact cE_str
  ·refine cPs_cons ?_ ?_ ?_
   ·exact cE_int
   ·exact cE_str
   ·refine cPs_cons ?_ ?_ ?_
    ·exact cE_int
    ·exact cE_str
    ·refine cPs_cons ?_ ?_ ?_
     ·exact cE_int
     ·exact cE_str
     ·refine cPs_cons ?_ ?_ ?_
      ·exact cE_int
      ·exact cE_str
      ·refine cPs_cons ?_ ?_ ?_
       ·exact cE_int
       ·exact cE_str
       ·refine cPs_cons ?_ ?_ ?_
        ·exact cE_int
        ·exact cE_str
        ·exact cPs_nil
 ·refine cSs_one ?_
  refine cS_ret ?_
  refine kIx (hu_of hr) ?_ ?_
  ·exact cV 1
  ·exact cV 0
theorem ok25 (T : Txt w K mg f fd xc cc) (V : Lams base mg cc pt) {k : Nat} {C : Nat → MF} (G : ∀ i, i < 26 → FnG P w K mg base (3 * k) (f i) (fd i) (dP i) (spM K mg (dN i) (C i))) (GX : ∀ i, 26 ≤ i → i < 28 → FnX P w K mg base (3 * k) (f i) (fd i) (dP i) (spE K mg (dN i) (C i))) : FnG P w K mg base (3 * k + 3) (f 25) (fd 25) (dP 25) (spM K mg 1 (m25 C)) := by
 refine fnG_okL (st := s25) (x := (Str.ofString "law")) (qual := (Str.ofString "law")) T.fl25 S25 rfl (fun A outer s H E hr2 hgd => ?_)
 have hr := hr2.mono (j := 3 * k) (by omega)
 refine cSs_cons ?_ ?_
 ·refine kSet 1 S25.nd ?_
  refine kCall (x := dX 17) (ps := P17) (G 17 (by decide)) hr hgd (T.d 17 (by decide)).fn.kp ((T.d 17 (by decide)).bi rfl) (T.d 17 (by decide)).mg ?_
  refine kA ?_ ?_
  ·exact cV 0
  ·exact cA_nil
 ·refine cSs_cons ?_ ?_
  ·refine kFor (L := [2]) PassesOwn.never rfl ?_ ?_ ?_
   ·refine kR1 T.b_range ?_
    refine kA ?_ ?_
    ·exact cE_int
    ·exact cA_nil
   ·exact cGn 2 S25.nd
   ·refine cSs_cons ?_ ?_
    ·refine kSet 3 S25.nd ?_
     refine kCall (x := dX 22) (ps := P22) (G 22 (by decide)) hr hgd (T.d 22 (by decide)).fn.kp ((T.d 22 (by decide)).bi rfl) (T.d 22 (by decide)).mg ?_
     refine kA ?_ ?_
     ·exact cV 1
     ·exact cA_nil
    ·refine cSs_cons ?_ ?_
     ·refine kAsgC (L := ([4] ++ ([5] ++ []))) ?_ ?_ rfl
      ·refine cE_tup ?_
       refine kA ?_ ?_
       ·refine kB ((callR_reprN.or ((callR_repr hgd hr.units).or callR_reprS)).or (callR_reprIB hgd hr.units)) (CallS.or (CallS.or callS_reprN (CallS.or callS_reprA callS_reprS)) callS_reprIB) T.b_repr boot_repr ?_
        refine kA ?_ ?_
        ·exact cV 3
        ·exact cA_nil
       ·refine kA ?_ ?_
        ·refine kCall (x := dX 21) (ps := P21) (G 21 (by decide)) hr hgd (T.d 21 (by decide)).fn.kp ((T.d 21 (by decide)).bi rfl) (T.d 21 (by decide)).mg ?_
         refine kA ?_ ?_
         ·exact cV 3
         ·exact cA_nil
        ·exact cA_nil
      ·refine kGt rfl ?_
       refine kGc ?_ ?_
       ·exact cGn 4 S25.nd
       ·refine kGc ?_ ?_
        ·exact cGn 5 S25.nd
        ·exact cGs_nil
     ·refine cSs_cons ?_ ?_
      ·refine cS_if ?_ ?_ ?_
       ·refine cT_w ?_
        refine cW_or ?_ ?_
        ·refine kCmpT (op_ne.or (op_neD hr.units)) (OpS.alt opS_sNe opS_deepNe) ?_ ?_
         ·refine kCall (x := dX 8) (ps := P8) (G 8 (by decide)) hr hgd (T.d 8 (by decide)).fn.kp ((T.d 8 (by decide)).bi rfl) (T.d 8 (by decide)).mg ?_
          refine kA ?_ ?_
          ·exact cV 3
          ·exact cA_nil
         ·refine kMt PySem.F.plainAttrs_str PySem.F.slot_str_join PySem.F.type_str_join mt_join mtS_joinA ?_ ?_
          ·exact cE_str
          ·refine kA ?_ ?_
           ·exact cV 5
           ·exact cA_nil
        ·refine cW_or ?_ ?_
         ·refine kCmpT (op_ne.or (op_neD hr.units)) (OpS.alt opS_sNe opS_deepNe) ?_ ?_
          ·refine kCallKw (x := dX 8) (ps := P8) (ks := [ (Str.ofString "stand") ]) (pm := [0]) (G 8 (by decide)) hr hgd (T.d 8 (by decide)).fn.kp (kw_binds (T.d 8 (by decide)).fn (fun _ _ _ _ _ _ ws hl => match ws, hl with | [_], _ => rfl)) (T.d 8 (by decide)).mg ?_
           refine kKc ?_ ?_
           ·exact cV 3
           ·exact kKn
          ·refine kMt PySem.F.plainAttrs_str PySem.F.slot_str_join PySem.F.type_str_join mt_join mtS_joinA ?_ ?_
           ·exact cE_str
           ·refine kA ?_ ?_
            ·exact cV 5
            ·exact cA_nil
         ·refine cW_or1 ?_
          refine kCmpT (op_ne.or (op_neD hr.units)) (OpS.alt opS_sNe opS_deepNe) ?_ ?_
          ·refine kB ((callR_reprN.or ((callR_repr hgd hr.units).or callR_reprS)).or (callR_reprIB hgd hr.units)) (CallS.or (CallS.or callS_reprN (CallS.or callS_reprA callS_reprS)) callS_reprIB) T.b_repr boot_repr ?_
           refine kA ?_ ?_
           ·exact cV 3
           ·exact cA_nil
          ·exact cV 4
       ·refine cSs_one ?_
        refine cS_ret ?_
        exact cE_bl
       ·exact cSs_nil
      ·refine cSs_cons ?_ ?_
       ·refine cS_if ?_ ?_ ?_
        ·refine kCmpT (op_ne.or (op_neD hr.units)) (OpS.alt opS_sNe opS_deepNe) ?_ ?_
         ·refine kB ((callR_reprN.or ((callR_repr hgd hr.units).or callR_reprS)).or (callR_reprIB hgd hr.units)) (CallS.or (CallS.or callS_reprN (CallS.or callS_reprA callS_reprS)) callS_reprIB) T.b_repr boot_repr ?_
          refine kA ?_ ?_
          ·refine kSaid T ⟨V.t25, rfl, V.m25, V.u25⟩ hr2 hgd rfl rfl (fun _ _ _ _ _ => rfl) (LamX.lamS_by (by exact show LamX.lamSB (defScope s25) _ = true from by decide +kernel)) ?_
           refine kLam (fun A outer s H E f c2 hr hgd => ?_)
           refine cx_callKw (x := dX 27) (ps := P27) (ks := [ (Str.ofString "text") ]) (pm := [0]) (GX 27 (by decide) (by decide)) hr hgd T.dx27.fn.kp (kw_binds T.dx27.fn (fun _ _ _ _ _ _ ws hl => match ws, hl with | [_], _ => rfl)) T.dx27.mg ?_
           refine kKc ?_ ?_
           ·refine kMt PySem.F.plainAttrs_str PySem.F.slot_str_join PySem.F.type_str_join mt_join mtS_joinA ?_ ?_
            ·exact cE_str
            ·refine kA ?_ ?_
             ·exact cV 5
             ·exact cA_nil
           ·exact kKn
          ·exact cA_nil
         ·refine kB ((callR_reprN.or ((callR_repr hgd hr.units).or callR_reprS)).or (callR_reprIB hgd hr.units)) (CallS.or (CallS.or callS_reprN (CallS.or callS_reprA callS_reprS)) callS_reprIB) T.b_repr boot_repr ?_
          refine kA ?_ ?_
          ·refine cE_tup ?_
           refine kA ?_ ?_
           ·exact cE_str
           ·refine kA ?_ ?_
            ·exact cV 3
            ·exact cA_nil
          ·exact cA_nil
        ·refine cSs_one ?_
         refine cS_ret ?_
         exact cE_bl
        ·exact cSs_nil
       ·refine cSs_cons ?_ ?_
        ·refine kSet 6 S25.nd ?_
         refine cE_bin (op_add.or (op_add_str.or (op_catA.or op_cat))) (OpS.alt opS_iiI0 (OpS.alt opS_ssS (OpS.alt opS_ttT opS_llL))) ?_ ?_
         ·refine kLc (L := [7]) (own := [ ((Str.ofString "_law_k") , 7) ]) rfl S25.nd ?_ (by exact show blkC N25 (defScope s25) _ [ ((Str.ofString "_law_k") , 7) ] = true from by decide +kernel) (by decide) (fun _ _ _ _ _ => ?_) (fun _ _ _ _ _ => ?_) (fun _ _ _ _ _ => ?_)
          ·refine kR2 T.b_range ?_
           refine kA ?_ ?_
           ·exact cE_int
           ·refine kA ?_ ?_
            ·exact cE_int
            ·exact cA_nil
          ·exact cGn 7 S25.nd
          ·exact cTs_nil
          ·refine cE_tup ?_
           refine kA ?_ ?_
           ·refine kMt PySem.F.plainAttrs_str PySem.F.slot_str_join PySem.F.type_str_join mt_join mtS_joinA ?_ ?_
            ·exact cE_str
            ·refine kA ?_ ?_
             ·refine cE_slA ?_ ?_ ?_
              ·exact cV 5
              ·exact cO_none
              ·refine cO_some ?_
               exact cV 7
             ·exact cA_nil
           ·refine kA ?_ ?_
            ·exact cV 7
            ·exact cA_nil
         ·refine cE_lst ?_
          refine kA ?_ ?_
          ·refine cE_tup ?_
           refine kA ?_ ?_
           ·refine kMt PySem.F.plainAttrs_str PySem.F.slot_str_join PySem.F.type_str_join mt_join mtS_joinA ?_ ?_
            ·exact cE_str
            ·refine kA ?_ ?_
             ·refine cE_bin (op_add.or (op_add_str.or (op_catA.or op_cat))) (OpS.alt opS_iiI0 (OpS.alt opS_ssS (OpS.alt opS_ttT opS_llL))) ?_ ?_
              ·exact cV 5
              ·refine cE_lst ?_
               refine kA ?_ ?_
               ·exact cE_str
               ·exact cA_nil
             ·exact cA_nil
           ·refine kA ?_ ?_
            ·exact cE_int
            ·exact cA_nil
          ·refine kA ?_ ?_
           ·refine cE_tup ?_
            refine kA ?_ ?_
            ·exact cE_str
            ·refine kA ?_ ?_
             ·exact cE_int
             ·exact cA_nil
           ·refine kA ?_ ?_
            ·refine cE_tup ?_
             refine kA ?_ ?_
             ·exact cE_str
             ·refine kA ?_ ?_
              ·exact cE_int
              ·exact cA_nil
            ·exact cA_nil
        ·refine cSs_cons ?_ ?_
         ·refine kSet 6 S25.nd ?_
          refine cE_bin (op_add.or (op_add_str.or (op_catA.or op_cat))) (OpS.alt opS_iiI0 (OpS.alt opS_ssS (OpS.alt opS_ttT opS_llL))) ?_ ?_
          ·exact cV 6
          ·refine cE_lst ?_
           refine kA ?_ ?_
           ·refine cE_tup ?_
            refine kA ?_ ?_
            ·refine cE_bin (op_add.or (op_add_str.or (op_catA.or op_cat))) (OpS.alt opS_iiI0 (OpS.alt opS_ssS (OpS.alt opS_ttT opS_llL))) ?_ ?_
             ·refine kMt PySem.F.plainAttrs_str PySem.F.slot_str_join PySem.F.type_str_join mt_join mtS_joinA ?_ ?_
              ·exact cE_str
              ·refine kA ?_ ?_
               ·exact cV 5
               ·exact cA_nil
             ·exact cE_str
            ·refine kA ?_ ?_
             ·exact cE_int
             ·exact cA_nil
           ·refine kA ?_ ?_
            ·refine cE_tup ?_
             refine kA ?_ ?_
             ·refine cE_bin (op_add.or (op_add_str.or (op_catA.or op_cat))) (OpS.alt opS_iiI0 (OpS.alt opS_ssS (OpS.alt opS_ttT opS_llL))) ?_ ?_
              ·exact cE_str
              ·refine kMt PySem.F.plainAttrs_str PySem.F.slot_str_join PySem.F.type_str_join mt_join mtS_joinA ?_ ?_
               ·exact cE_str
               ·refine kA ?_ ?_
                ·exact cV 5
                ·exact cA_nil
             ·refine kA ?_ ?_
              ·exact cE_int
              ·exact cA_nil
            ·refine kA ?_ ?_
             ·refine cE_tup ?_
              refine kA ?_ ?_
              ·refine kMt PySem.F.plainAttrs_str PySem.F.slot_str_join PySem.F.type_str_join mt_join mtS_joinA ?_ ?_
               ·exact cE_str
               ·refine kA ?_ ?_
                ·refine cE_bin (op_add.or (op_add_str.or (op_catA.or op_cat))) (OpS.alt opS_iiI0 (OpS.alt opS_ssS (OpS.alt opS_ttT opS_llL))) ?_ ?_
                 ·exact cV 5
                 ·refine cE_lst ?_
                  refine kA ?_ ?_
                  ·exact cE_str
                  ·refine kA ?_ ?_
                   ·exact cE_str
                   ·exact cA_nil
                ·exact cA_nil
              ·refine kA ?_ ?_
               ·exact cE_int
               ·exact cA_nil
             ·exact cA_nil
         ·refine cSs_cons ?_ ?_
          ·refine kFor (L := [7]) PassesOwn.never rfl ?_ ?_ ?_
           ·refine kR1 T.b_range ?_
            refine kA ?_ ?_
            ·exact cE_int
            ·exact cA_nil
           ·exact cGn 7 S25.nd
           ·refine cSs_cons ?_ ?_
            ·refine kFor (L := [8]) PassesOwn.never rfl ?_ ?_ ?_
             ·refine cI_seq ?_
              refine kCall (x := dX 23) (ps := P23) (G 23 (by decide)) hr hgd (T.d 23 (by decide)).fn.kp ((T.d 23 (by decide)).bi rfl) (T.d 23 (by decide)).mg ?_
              refine kA ?_ ?_
              ·exact cV 7
              ·exact cA_nil
             ·exact cGn 8 S25.nd
             ·refine cSs_one ?_
              refine kExpr ?_
              refine kMt PySem.F.plainAttrs_list PySem.F.slot_list_append PySem.F.type_list_append mt_append mtS_append ?_ ?_
              ·exact cV 6
              ·refine kA ?_ ?_
               ·refine cE_tup ?_
                refine kA ?_ ?_
                ·refine kMt PySem.F.plainAttrs_str PySem.F.slot_str_join PySem.F.type_str_join mt_join mtS_joinA ?_ ?_
                 ·exact cE_str
                 ·refine kA ?_ ?_
                  ·refine cE_bin (op_add.or (op_add_str.or (op_catA.or op_cat))) (OpS.alt opS_iiI0 (OpS.alt opS_ssS (OpS.alt opS_ttT opS_llL))) ?_ ?_
                   ·refine cE_bin (op_add.or (op_add_str.or (op_catA.or op_cat))) (OpS.alt opS_iiI0 (OpS.alt opS_ssS (OpS.alt opS_ttT opS_llL))) ?_ ?_
                    ·refine cE_slA ?_ ?_ ?_
                     ·exact cV 5
                     ·exact cO_none
                     ·refine cO_some ?_
                      exact cV 7
                    ·refine cE_lst ?_
                     refine kA ?_ ?_
                     ·exact cV 8
                     ·exact cA_nil
                   ·refine cE_slA ?_ ?_ ?_
                    ·exact cV 5
                    ·refine cO_some ?_
                     refine cE_bin (op_add.or (op_add_str.or (op_catA.or op_cat))) (OpS.alt opS_iiI0 (OpS.alt opS_ssS (OpS.alt opS_ttT opS_llL))) ?_ ?_
                     ·exact cV 7
                     ·exact cE_int
                    ·exact cO_none
                  ·exact cA_nil
                ·refine kA ?_ ?_
                 ·exact cV 7
                 ·exact cA_nil
               ·exact cA_nil
            ·refine cSs_cons ?_ ?_
             ·refine kSet 9 S25.nd ?_
              refine cE_bin (op_add.or (op_add_str.or (op_catA.or op_cat))) (OpS.alt opS_iiI0 (OpS.alt opS_ssS (OpS.alt opS_ttT opS_llL))) ?_ ?_
              ·refine cE_bin (op_add.or (op_add_str.or (op_catA.or op_cat))) (OpS.alt opS_iiI0 (OpS.alt opS_ssS (OpS.alt opS_ttT opS_llL))) ?_ ?_
               ·refine cE_slA ?_ ?_ ?_
                ·exact cV 5
                ·exact cO_none
                ·refine cO_some ?_
                 exact cV 7
               ·refine cE_lst ?_
                refine kA ?_ ?_
                ·refine kCall (x := dX 24) (ps := P24) (G 24 (by decide)) hr hgd (T.d 24 (by decide)).fn.kp ((T.d 24 (by decide)).bi rfl) (T.d 24 (by decide)).mg ?_
                 refine kA ?_ ?_
                 ·exact cV 7
                 ·exact cA_nil
                ·exact cA_nil
              ·refine cE_slA ?_ ?_ ?_
               ·exact cV 5
               ·refine cO_some ?_
                refine cE_bin (op_add.or (op_add_str.or (op_catA.or op_cat))) (OpS.alt opS_iiI0 (OpS.alt opS_ssS (OpS.alt opS_ttT opS_llL))) ?_ ?_
                ·exact cV 7
                ·exact cE_int
               ·exact cO_none
             ·refine cSs_cons ?_ ?_
              ·refine kSet 10 S25.nd ?_
               refine kSaid T ⟨V.t25, rfl, V.m25, V.u25⟩ hr2 hgd rfl rfl (fun _ _ _ _ _ => rfl) (LamX.lamS_by (by exact show LamX.lamSB (defScope s25) _ = true from by decide +kernel)) ?_
               refine kLam (fun A outer s H E f c2 hr hgd => ?_)
               refine cx_callD (x := dX 27) (ps := P27) (dD := []) (GX 27 (by decide) (by decide)) hr hgd T.dx27.fn.kp (kwDef_nil (T.dx27.bi rfl)) rfl T.dx27.mg ?_
               refine kA ?_ ?_
               ·refine kMt PySem.F.plainAttrs_str PySem.F.slot_str_join PySem.F.type_str_join mt_join mtS_joinA ?_ ?_
                ·exact cE_str
                ·refine kA ?_ ?_
                 ·exact cV 9
                 ·exact cA_nil
               ·exact cA_nil
              ·refine cSs_cons ?_ ?_
               ·refine cS_if ?_ ?_ ?_
                ·refine cT_w ?_
                 refine cW_or ?_ ?_
                 ·refine kCmpT (op_ne.or (op_neD hr.units)) (OpS.alt opS_sNe opS_deepNe) ?_ ?_
                  ·refine kIx (hu_of hr) ?_ ?_
                   ·exact cV 10
                   ·exact cE_int
                  ·exact cE_str
                 ·refine cW_or1 ?_
                  refine kCmpT (op_ne.or (op_neD hr.units)) (OpS.alt opS_sNe opS_deepNe) ?_ ?_
                  ·refine kCall (x := dX 8) (ps := P8) (G 8 (by decide)) hr hgd (T.d 8 (by decide)).fn.kp ((T.d 8 (by decide)).bi rfl) (T.d 8 (by decide)).mg ?_
                   refine kA ?_ ?_
                   ·refine kIx (hu_of hr) ?_ ?_
                    ·exact cV 10
                    ·exact cE_int
                   ·exact cA_nil
                  ·refine kMt PySem.F.plainAttrs_str PySem.F.slot_str_join PySem.F.type_str_join mt_join mtS_joinA ?_ ?_
                   ·exact cE_str
                   ·refine kA ?_ ?_
                    ·exact cV 9
                    ·exact cA_nil
                ·refine cSs_one ?_
                 refine cS_ret ?_
                 exact cE_bl
                ·exact cSs_nil
               ·refine cSs_cons ?_ ?_
                ·refine kSet 11 S25.nd ?_
                 refine kCall (x := dX 18) (ps := P18) (G 18 (by decide)) hr hgd (T.d 18 (by decide)).fn.kp ((T.d 18 (by decide)).bi rfl) (T.d 18 (by decide)).mg ?_
                 refine kA ?_ ?_
                 ·exact cV 1
                 ·refine kA ?_ ?_
                  ·exact cE_int
                  ·exact cA_nil
                ·refine cSs_cons ?_ ?_
                 ·refine kSet 12 S25.nd ?_
                  refine kIx (hu_of hr) ?_ ?_
                  ·refine kCall (x := dX 23) (ps := P23) (G 23 (by decide)) hr hgd (T.d 23 (by decide)).fn.kp ((T.d 23 (by decide)).bi rfl) (T.d 23 (by decide)).mg ?_
                   refine kA ?_ ?_
                   ·exact cV 11
                   ·exact cA_nil
                  ·refine kCall (x := dX 18) (ps := P18) (G 18 (by decide)) hr hgd (T.d 18 (by decide)).fn.kp ((T.d 18 (by decide)).bi rfl) (T.d 18 (by decide)).mg ?_
                   refine kA ?_ ?_
                   ·exact cV 1
                   ·refine kA ?_ ?_
                    ·exact cE_int
                    ·exact cA_nil
                 ·refine cSs_cons ?_ ?_
                  ·refine kSet 13 S25.nd ?_
                   refine kIx (hu_of hr) ?_ ?_
                   ·refine kCall (x := dX 23) (ps := P23) (G 23 (by decide)) hr hgd (T.d 23 (by decide)).fn.kp ((T.d 23 (by decide)).bi rfl) (T.d 23 (by decide)).mg ?_
                    refine kA ?_ ?_
                    ·exact cV 7
                    ·exact cA_nil
                   ·refine kCall (x := dX 18) (ps := P18) (G 18 (by decide)) hr hgd (T.d 18 (by decide)).fn.kp ((T.d 18 (by decide)).bi rfl) (T.d 18 (by decide)).mg ?_
                    refine kA ?_ ?_
                    ·exact cV 1
                    ·refine kA ?_ ?_
                     ·exact cE_int
                     ·exact cA_nil
                  ·refine cSs_cons ?_ ?_
                   ·refine kSet 14 S25.nd ?_
                    refine cE_bin (op_add.or (op_add_str.or (op_catA.or op_cat))) (OpS.alt opS_iiI0 (OpS.alt opS_ssS (OpS.alt opS_ttT opS_llL))) ?_ ?_
                    ·refine cE_bin (op_add.or (op_add_str.or (op_catA.or op_cat))) (OpS.alt opS_iiI0 (OpS.alt opS_ssS (OpS.alt opS_ttT opS_llL))) ?_ ?_
                     ·refine cE_slA ?_ ?_ ?_
                      ·exact cV 5
                      ·exact cO_none
                      ·refine cO_some ?_
                       exact cV 7
                     ·refine cE_lst ?_
                      refine kA ?_ ?_
                      ·exact cV 13
                      ·exact cA_nil
                    ·refine cE_slA ?_ ?_ ?_
                     ·exact cV 5
                     ·refine cO_some ?_
                      refine cE_bin (op_add.or (op_add_str.or (op_catA.or op_cat))) (OpS.alt opS_iiI0 (OpS.alt opS_ssS (OpS.alt opS_ttT opS_llL))) ?_ ?_
                      ·exact cV 7
                      ·exact cE_int
                     ·exact cO_none
                   ·refine cSs_cons ?_ ?_
                    ·refine kSet 14 S25.nd ?_
                     refine cE_if ?_ ?_ ?_
                     ·refine kCmpT (op_gt.or (op_gt_str.or (op_gtD hr.units))) (OpS.alt opS_iiB (OpS.alt opS_ssB opS_ord)) ?_ ?_
                      ·exact cV 11
                      ·exact cV 7
                     ·refine cE_bin (op_add.or (op_add_str.or (op_catA.or op_cat))) (OpS.alt opS_iiI0 (OpS.alt opS_ssS (OpS.alt opS_ttT opS_llL))) ?_ ?_
                      ·refine cE_bin (op_add.or (op_add_str.or (op_catA.or op_cat))) (OpS.alt opS_iiI0 (OpS.alt opS_ssS (OpS.alt opS_ttT opS_llL))) ?_ ?_
                       ·refine cE_slA ?_ ?_ ?_
                        ·exact cV 14
                        ·exact cO_none
                        ·refine cO_some ?_
                         exact cV 11
                       ·refine cE_lst ?_
                        refine kA ?_ ?_
                        ·exact cV 12
                        ·exact cA_nil
                      ·refine cE_slA ?_ ?_ ?_
                       ·exact cV 14
                       ·refine cO_some ?_
                        refine cE_bin (op_add.or (op_add_str.or (op_catA.or op_cat))) (OpS.alt opS_iiI0 (OpS.alt opS_ssS (OpS.alt opS_ttT opS_llL))) ?_ ?_
                        ·exact cV 11
                        ·exact cE_int
                       ·exact cO_none
                     ·exact cV 14
                    ·refine cSs_one ?_
                     refine kExpr ?_
                     refine kMt PySem.F.plainAttrs_list PySem.F.slot_list_append PySem.F.type_list_append mt_append mtS_append ?_ ?_
                     ·exact cV 6
                     ·refine kA ?_ ?_
                      ·refine cE_tup ?_
                       refine kA ?_ ?_
                       ·refine kMt PySem.F.plainAttrs_str PySem.F.slot_str_join PySem.F.type_str_join mt_join mtS_joinA ?_ ?_
                        ·exact cE_str
                        ·refine kA ?_ ?_
                         ·exact cV 14
                         ·exact cA_nil
                       ·refine kA ?_ ?_
                        ·exact cV 7
                        ·exact cA_nil
                      ·exact cA_nil
          ·refine cSs_one ?_
           refine kFor (L := ([15] ++ ([16] ++ []))) PassesOwn.never rfl ?_ ?_ ?_
           ·refine cI_seq ?_
            exact cV 6
           ·refine kGt rfl ?_
            refine kGc ?_ ?_
            ·exact cGn 15 S25.nd
            ·refine kGc ?_ ?_
             ·exact cGn 16 S25.nd
             ·exact cGs_nil
           ·refine cSs_one ?_
            refine cS_if ?_ ?_ ?_
            ·refine kCmpT (op_ne.or (op_neD hr.units)) (OpS.alt opS_sNe opS_deepNe) ?_ ?_
             ·refine kB ((callR_reprN.or ((callR_repr hgd hr.units).or callR_reprS)).or (callR_reprIB hgd hr.units)) (CallS.or (CallS.or callS_reprN (CallS.or callS_reprA callS_reprS)) callS_reprIB) T.b_repr boot_repr ?_
              refine kA ?_ ?_
              ·refine kSaid T ⟨V.t25, rfl, V.m25, V.u25⟩ hr2 hgd rfl rfl (fun _ _ _ _ _ => rfl) (LamX.lamS_by (by exact show LamX.lamSB (defScope s25) _ = true from by decide +kernel)) ?_
               refine kLam (fun A outer s H E f c2 hr hgd => ?_)
               refine cx_callD (x := dX 27) (ps := P27) (dD := []) (GX 27 (by decide) (by decide)) hr hgd T.dx27.fn.kp (kwDef_nil (T.dx27.bi rfl)) rfl T.dx27.mg ?_
               refine kA ?_ ?_
               ·exact cV 15
               ·exact cA_nil
              ·exact cA_nil
             ·refine kB ((callR_reprN.or ((callR_repr hgd hr.units).or callR_reprS)).or (callR_reprIB hgd hr.units)) (CallS.or (CallS.or callS_reprN (CallS.or callS_reprA callS_reprS)) callS_reprIB) T.b_repr boot_repr ?_
              refine kA ?_ ?_
              ·refine cE_tup ?_
               refine kA ?_ ?_
               ·exact cE_str
               ·refine kA ?_ ?_
                ·exact cE_int
                ·refine kA ?_ ?_
                 ·exact cV 16
                 ·exact cA_nil
              ·exact cA_nil
            ·refine cSs_one ?_
             refine cS_ret ?_
             exact cE_bl
            ·exact cSs_nil
  ·refine cSs_cons ?_ ?_
   ·refine kSet 17 S25.nd ?_
    refine cE_lst ?_
    exact cA_nil
   ·refine cSs_cons ?_ ?_
    ·refine kFor (L := [18]) PassesOwn.never rfl ?_ ?_ ?_
     ·refine cI_seq ?_
      exact cE_str
     ·exact cGn 18 S25.nd
     ·refine cSs_one ?_
      refine kExpr ?_
      refine kMt PySem.F.plainAttrs_list PySem.F.slot_list_extend PySem.F.type_list_extend mt_extend mtS_extend ?_ ?_
      ·exact cV 17
      ·refine kA ?_ ?_
       ·refine kLc (L := [19]) (own := [ ((Str.ofString "_law_tag") , 19) ]) rfl S25.nd ?_ (by exact show blkC N25 (defScope s25) _ [ ((Str.ofString "_law_tag") , 19) ] = true from by decide +kernel) (by decide) (fun _ _ _ _ _ => ?_) (fun _ _ _ _ _ => ?_) (fun _ _ _ _ _ => ?_)
        ·refine cI_seq ?_
         exact cE_str
        ·exact cGn 19 S25.nd
        ·exact cTs_nil
        ·refine cE_tup ?_
         refine kA ?_ ?_
         ·exact cV 18
         ·refine kA ?_ ?_
          ·exact cV 19
          ·exact cA_nil
       ·exact cA_nil
    ·refine cSs_cons ?_ ?_
     ·refine kSet 3 S25.nd ?_
      refine cE_tup ?_
      refine kA ?_ ?_
      ·exact cE_str
      ·refine kA ?_ ?_
       ·refine cE_tup ?_
        exact cA_nil
       ·refine kA ?_ ?_
        ·refine cE_tup ?_
         refine kA ?_ ?_
         ·exact cE_int
         ·refine kA ?_ ?_
          ·exact cE_int
          ·refine kA ?_ ?_
           ·exact cE_int
           ·refine kA ?_ ?_
            ·exact cE_int
            ·exact cA_nil
        ·refine kA ?_ ?_
         ·refine cE_bin ((op_mul.or (op_repT.or op_rep)).or op_repS) (OpS.alt (OpS.alt opS_mul (OpS.alt opS_tiT opS_liL)) opS_siS) ?_ ?_
          ·refine cE_tup ?_
           refine kA ?_ ?_
           ·refine cE_tup ?_
            refine kA ?_ ?_
            ·exact cE_str
            ·refine kA ?_ ?_
             ·exact cE_str
             ·exact cA_nil
           ·exact cA_nil
          ·exact cE_int
         ·refine kA ?_ ?_
          ·refine kTy call_tuple_of callS_tuple T.b_tuple boot_tuple ?_
           refine kA ?_ ?_
           ·refine kLc (L := [18]) (own := [ ((Str.ofString "_law_name") , 18) ]) rfl S25.nd ?_ (by exact show blkC N25 (defScope s25) _ [ ((Str.ofString "_law_name") , 18) ] = true from by decide +kernel) (by decide) (fun _ _ _ _ _ => ?_) (fun _ _ _ _ _ => ?_) (fun _ _ _ _ _ => ?_)
            ·refine cI_seq ?_
             exact cE_str
            ·exact cGn 18 S25.nd
            ·exact cTs_nil
            ·refine cE_tup ?_
             refine kA ?_ ?_
             ·exact cV 18
             ·refine kA ?_ ?_
              ·exact cE_int
              ·exact cA_nil
           ·exact cA_nil
          ·refine kA ?_ ?_
           ·refine kTy call_tuple_of callS_tuple T.b_tuple boot_tuple ?_
            refine kA ?_ ?_
            ·exact cV 17
            ·exact cA_nil
           ·refine kA ?_ ?_
            ·exact cE_int
            ·exact cA_nil
     ·refine cSs_cons ?_ ?_
      ·refine cS_if ?_ ?_ ?_
       ·refine cT_w ?_
        refine cW_or ?_ ?_
        ·refine kCmpT (op_ne.or (op_neD hr.units)) (OpS.alt opS_sNe opS_deepNe) ?_ ?_
         ·refine kCall (x := dX 8) (ps := P8) (G 8 (by decide)) hr hgd (T.d 8 (by decide)).fn.kp ((T.d 8 (by decide)).bi rfl) (T.d 8 (by decide)).mg ?_
          refine kA ?_ ?_
          ·exact cV 3
          ·exact cA_nil
         ·refine kMt PySem.F.plainAttrs_str PySem.F.slot_str_join PySem.F.type_str_join mt_join mtS_joinA ?_ ?_
          ·exact cE_str
          ·refine kA ?_ ?_
           ·refine kCall (x := dX 21) (ps := P21) (G 21 (by decide)) hr hgd (T.d 21 (by decide)).fn.kp ((T.d 21 (by decide)).bi rfl) (T.d 21 (by decide)).mg ?_
            refine kA ?_ ?_
            ·exact cV 3
            ·exact cA_nil
           ·exact cA_nil
        ·refine cW_or1 ?_
         refine kCmpT (op_ne.or (op_neD hr.units)) (OpS.alt opS_sNe opS_deepNe) ?_ ?_
         ·refine kB ((callR_reprN.or ((callR_repr hgd hr.units).or callR_reprS)).or (callR_reprIB hgd hr.units)) (CallS.or (CallS.or callS_reprN (CallS.or callS_reprA callS_reprS)) callS_reprIB) T.b_repr boot_repr ?_
          refine kA ?_ ?_
          ·refine kCall (x := dX 27) (ps := P27) (fnG_ofX (GX 27 (by decide) (by decide))) hr hgd T.dx27.fn.kp (T.dx27.bi rfl) T.dx27.mg ?_
           refine kA ?_ ?_
           ·refine kMt PySem.F.plainAttrs_str PySem.F.slot_str_join PySem.F.type_str_join mt_join mtS_joinA ?_ ?_
            ·exact cE_str
            ·refine kA ?_ ?_
             ·refine kCall (x := dX 21) (ps := P21) (G 21 (by decide)) hr hgd (T.d 21 (by decide)).fn.kp ((T.d 21 (by decide)).bi rfl) (T.d 21 (by decide)).mg ?_
              refine kA ?_ ?_
              ·exact cV 3
              ·exact cA_nil
             ·exact cA_nil
           ·exact cA_nil
          ·exact cA_nil
         ·refine kB ((callR_reprN.or ((callR_repr hgd hr.units).or callR_reprS)).or (callR_reprIB hgd hr.units)) (CallS.or (CallS.or callS_reprN (CallS.or callS_reprA callS_reprS)) callS_reprIB) T.b_repr boot_repr ?_
          refine kA ?_ ?_
          ·exact cV 3
          ·exact cA_nil
       ·refine cSs_one ?_
        refine cS_ret ?_
        exact cE_bl
       ·exact cSs_nil
      ·refine cSs_one ?_
       refine cS_ret ?_
       refine kCmp (op_eq.or (op_eqD hr.units)) (OpS.alt opS_sEq opS_deepEq) ?_ ?_
       ·refine kB ((callR_reprN.or ((callR_repr hgd hr.units).or callR_reprS)).or (callR_reprIB hgd hr.units)) (CallS.or (CallS.or callS_reprN (CallS.or callS_reprA callS_reprS)) callS_reprIB) T.b_repr boot_repr ?_
        refine kA ?_ ?_
        ·refine kSaid T ⟨V.t25, rfl, V.m25, V.u25⟩ hr2 hgd rfl rfl (fun _ _ _ _ _ => rfl) (LamX.lamS_by (by exact show LamX.lamSB (defScope s25) _ = true from by decide +kernel)) ?_
         refine kLam (fun A outer s H E f c2 hr hgd => ?_)
         refine cx_callD (x := dX 27) (ps := P27) (dD := []) (GX 27 (by decide) (by decide)) hr hgd T.dx27.fn.kp (kwDef_nil (T.dx27.bi rfl)) rfl T.dx27.mg ?_
         refine kA ?_ ?_
         ·exact cE_str
         ·exact cA_nil
        ·exact cA_nil
       ·refine kB ((callR_reprN.or ((callR_repr hgd hr.units).or callR_reprS)).or (callR_reprIB hgd hr.units)) (CallS.or (CallS.or callS_reprN (CallS.or callS_reprA callS_reprS)) callS_reprIB) T.b_repr boot_repr ?_
        refine kA ?_ ?_
        ·refine cE_tup ?_
         refine kA ?_ ?_
         ·exact cE_str
         ·refine kA ?_ ?_
          ·refine cE_tup ?_
           refine kA ?_ ?_
           ·exact cE_str
           ·refine kA ?_ ?_
            ·refine cE_tup ?_
             exact cA_nil
            ·refine kA ?_ ?_
             ·refine cE_tup ?_
              exact cA_nil
             ·refine kA ?_ ?_
              ·refine cE_tup ?_
               exact cA_nil
              ·refine kA ?_ ?_
               ·refine cE_tup ?_
                exact cA_nil
               ·refine kA ?_ ?_
                ·refine cE_tup ?_
                 exact cA_nil
                ·refine kA ?_ ?_
                 ·exact cE_int
                 ·exact cA_nil
          ·exact cA_nil
        ·exact cA_nil
theorem ok26 (T : Txt w K mg f fd xc cc) (V : Lams base mg cc pt) {k : Nat} {C : Nat → MF} (G : ∀ i, i < 26 → FnG P w K mg base (3 * k) (f i) (fd i) (dP i) (spM K mg (dN i) (C i))) (GX : ∀ i, 26 ≤ i → i < 28 → FnX P w K mg base (3 * k) (f i) (fd i) (dP i) (spE K mg (dN i) (C i))) : FnX P w K mg base (3 * k + 3) (f 26) (fd 26) (dP 26) (spE K mg 4 (m26 C)) := by
 refine fnX_okD (st := s26) (x := (Str.ofString "values_read")) (qual := (Str.ofString "values_read")) T.dx26.fn S26 rfl (fun cdv A outer s H E hr2 hgd => ?_)
 have hr := hr2.mono (j := 3 * k) (by omega)
 refine kConsX ?_ ?_
 ·refine kSet 4 S26.nd ?_
  refine cE_lst ?_
  exact cA_nil
 ·refine kForX (L := [5]) (passes_of rfl) rfl ?_ ?_ ?_ ?_
  ·refine cI_seq ?_
   exact cV 3
  ·exact cGn 5 S26.nd
  ·refine kConsX ?_ ?_
   ·refine kSet 6 S26.nd ?_
    refine cE_bin (op_add.or (op_add_str.or (op_catA.or op_cat))) (OpS.alt opS_iiI0 (OpS.alt opS_ssS (OpS.alt opS_ttT opS_llL))) ?_ ?_
    ·exact cV 2
    ·refine kB (call_len_seq.or call_len_str) callS_len T.b_len PySem.boot_len ?_
     refine kA ?_ ?_
     ·exact cV 4
     ·exact cA_nil
   ·refine kConsX ?_ ?_
    ·refine kSet 7 S26.nd ?_
     refine cE_if ?_ ?_ ?_
     ·refine kCmpT (op_lt.or (op_lt_str.or (op_ltD hr.units))) (OpS.alt opS_iiB (OpS.alt opS_ssB opS_ord)) ?_ ?_
      ·exact cV 6
      ·refine kB (call_len_seq.or call_len_str) callS_len T.b_len PySem.boot_len ?_
       refine kA ?_ ?_
       ·exact cV 1
       ·exact cA_nil
     ·refine kCallV 5 (fsV_ok T G) hr hgd ?_
      refine kA ?_ ?_
      ·refine kIx (hu_of hr) ?_ ?_
       ·exact cV 1
       ·exact cV 6
      ·exact cA_nil
     ·exact cE_non
    ·refine csx_if ?_ ?_ ?_
     ·refine kCmpT (op_isN.or op_isBl) (OpS.alt opS_isN opS_isB) ?_ ?_
      ·exact cV 7
      ·exact cE_non
     ·refine kRaise (k := 0) (st := s29) T.x2_NoText T.xi_NoText S29 rfl (.inl rfl) (.inl rfl) (.inl rfl) (hr2.mono (by omega)) rfl ?_
      refine kA ?_ ?_
      ·exact cV 0
      ·refine kA ?_ ?_
       ·exact cV 6
       ·exact cA_nil
     ·refine kConsX ?_ ?_
      ·refine kExpr ?_
       refine kMt PySem.F.plainAttrs_list PySem.F.slot_list_append PySem.F.type_list_append mt_append mtS_append ?_ ?_
       ·exact cV 4
       ·refine kA ?_ ?_
        ·exact cV 7
        ·exact cA_nil
      ·exact csx_nil
  ·refine csx_if ?_ ?_ ?_
   ·refine kCmpT (op_gt.or (op_gt_str.or (op_gtD hr.units))) (OpS.alt opS_iiB (OpS.alt opS_ssB opS_ord)) ?_ ?_
    ·refine kB (call_len_seq.or call_len_str) callS_len T.b_len PySem.boot_len ?_
     refine kA ?_ ?_
     ·exact cV 1
     ·exact cA_nil
    ·refine cE_bin (op_add.or (op_add_str.or (op_catA.or op_cat))) (OpS.alt opS_iiI0 (OpS.alt opS_ssS (OpS.alt opS_ttT opS_llL))) ?_ ?_
     ·exact cV 2
     ·refine kB (call_len_seq.or call_len_str) callS_len T.b_len PySem.boot_len ?_
      refine kA ?_ ?_
      ·exact cV 4
      ·exact cA_nil
   ·refine kRaise (k := 0) (st := s29) T.x2_NoText T.xi_NoText S29 rfl (.inl rfl) (.inl rfl) (.inl rfl) (hr2.mono (by omega)) rfl ?_
    refine kA ?_ ?_
    ·exact cV 0
    ·refine kA ?_ ?_
     ·refine cE_bin (op_add.or (op_add_str.or (op_catA.or op_cat))) (OpS.alt opS_iiI0 (OpS.alt opS_ssS (OpS.alt opS_ttT opS_llL))) ?_ ?_
      ·exact cV 2
      ·refine kB (call_len_seq.or call_len_str) callS_len T.b_len PySem.boot_len ?_
       refine kA ?_ ?_
       ·exact cV 4
       ·exact cA_nil
     ·exact cA_nil
   ·refine kRetX ?_
    exact cV 4
theorem ok27 (T : Txt w K mg f fd xc cc) (V : Lams base mg cc pt) {k : Nat} {C : Nat → MF} (G : ∀ i, i < 26 → FnG P w K mg base (3 * k) (f i) (fd i) (dP i) (spM K mg (dN i) (C i))) (GX : ∀ i, 26 ≤ i → i < 28 → FnX P w K mg base (3 * k) (f i) (fd i) (dP i) (spE K mg (dN i) (C i))) : FnX P w K mg base (3 * k + 3) (f 27) (fd 27) (dP 27) (spE K mg 1 (m27 C)) := by
 refine fnX_okD (st := s27) (x := (Str.ofString "stand_read")) (qual := (Str.ofString "stand_read")) T.dx27.fn S27 rfl (fun cdv A outer s H E hr2 hgd => ?_)
 have hr := hr2.mono (j := 3 * k) (by omega)
 refine kConsX ?_ ?_
 ·refine kSet 1 S27.nd ?_
  refine cE_tup ?_
  refine kA ?_ ?_
  ·exact cE_fn (by rfl) (T.d 4 (by decide)).mg
  ·refine kA ?_ ?_
   ·exact cE_fn (by rfl) (T.d 9 (by decide)).mg
   ·refine kA ?_ ?_
    ·exact cE_fn (by rfl) (T.d 10 (by decide)).mg
    ·refine kA ?_ ?_
     ·exact cE_fn (by rfl) (T.d 11 (by decide)).mg
     ·refine kA ?_ ?_
      ·exact cE_fn (by rfl) (T.d 13 (by decide)).mg
      ·refine kA ?_ ?_
       ·exact cE_fn (by rfl) (T.d 15 (by decide)).mg
       ·refine kA ?_ ?_
        ·exact cE_fn (by rfl) (T.d 6 (by decide)).mg
        ·exact cA_nil
 ·refine csx_ret (rest := []) (cEx_ty1 call_tuple_of callS_tuple T.b_tuple boot_tuple ?_)
  refine cx_callD (x := dX 26) (ps := P26) (dD := []) (GX 26 (by decide) (by decide)) hr hgd T.dx26.fn.kp (kwDef_nil (T.dx26.bi rfl)) rfl T.dx26.mg ?_
  refine kA ?_ ?_
  ·exact cE_int
  ·refine kA ?_ ?_
   ·refine kMt PySem.F.plainAttrs_str PySem.F.slot_str_split PySem.F.type_str_split mt_split mtS_split ?_ ?_
    ·exact cV 0
    ·refine kA ?_ ?_
     ·exact cE_str
     ·exact cA_nil
   ·refine kA ?_ ?_
    ·exact cE_int
    ·refine kA ?_ ?_
     ·exact cV 1
     ·exact cA_nil
theorem all_ok (T : Txt w K mg f fd xc cc) (V : Lams base mg cc pt) : ∀ (k : Nat), (∀ i, i < 26 → FnG P w K mg base (3 * k) (f i) (fd i) (dP i) (spM K mg (dN i) (lv k i))) ∧ ∀ i, 26 ≤ i → i < 28 → FnX P w K mg base (3 * k) (f i) (fd i) (dP i) (spE K mg (dN i) (lv k i))
 | 0 => ⟨fun _ _ => fnG_none, fun _ _ _ => fnX_none⟩
 | k + 1 => by
  obtain ⟨G, GX⟩ := all_ok T V k
  refine ⟨fun i hi => ?_, fun i h1 h2 => ?_⟩
  ·match i, hi with
   | 0, _ => exact ok0 T V G GX
   | 1, _ => exact ok1 T V G GX
   | 2, _ => exact ok2 T V G GX
   | 3, _ => exact ok3 T V G GX
   | 4, _ => exact ok4 T V G GX
   | 5, _ => exact ok5 T V G GX
   | 6, _ => exact ok6 T V G GX
   | 7, _ => exact ok7 T V G GX
   | 8, _ => exact ok8 T V G GX
   | 9, _ => exact ok9 T V G GX
   | 10, _ => exact ok10 T V G GX
   | 11, _ => exact ok11 T V G GX
   | 12, _ => exact ok12 T V G GX
   | 13, _ => exact ok13 T V G GX
   | 14, _ => exact ok14 T V G GX
   | 15, _ => exact ok15 T V G GX
   | 16, _ => exact ok16 T V G GX
   | 17, _ => exact ok17 T V G GX
   | 18, _ => exact ok18 T V G GX
   | 19, _ => exact ok19 T V G GX
   | 20, _ => exact ok20 T V G GX
   | 21, _ => exact ok21 T V G GX
   | 22, _ => exact ok22 T V G GX
   | 23, _ => exact ok23 T V G GX
   | 24, _ => exact ok24 T V G GX
   | 25, _ => exact ok25 T V G GX
   | n + 26, h => exact absurd h (by omega)
  ·obtain ⟨n, rfl⟩ := Nat.exists_eq_add_of_le h1
   have h3 : n < 2 := by omega
   clear h1 h2
   match n, h3 with
   | 0, _ => exact ok26 T V G GX
   | 1, _ => exact ok27 T V G GX
   | n + 2, h => exact absurd h (by omega)
end
end K33
end
section
namespace K33
open PySem PySem.Spec PyProof.Rows L2 PL WP
theorem pyInts : ∀ ns : List Int, pyDs (ns.map D.int) = some (ns.map PyData.int)
 | [] => rfl
 | n :: ns => by simp [pyDs, pyD, pyInts ns]
theorem sh0 : SeqAt.shaped (.list []) = true := by rfl
theorem natAbs_lt {x : Int} {m : Nat} (h0 : 0 ≤ x) (h : x < m) : x.natAbs < m := by omega
theorem sh_ints (ns : List Int) : SeqAt.shaped (.list (ns.map PyData.int)) = true := by
 have h1 : ∀ ns : List Int, PyData.canLayAll0 (ns.map PyData.int) = true := fun ns => by
  induction ns with
  | nil => rfl
  | cons n ns ih => simp [PyData.canLayAll0, PyData.canLay0, ih]
 have h2 : ∀ ns : List Int, PyData.depthAll (ns.map PyData.int) = 0 := fun ns => by
  induction ns with
  | nil => rfl
  | cons n ns ih => simp [PyData.depthAll, PyData.depth, ih]
 simp [SeqAt.shaped, PyData.canLay0, h1, PyData.depth, h2]
theorem eqv_ints {ns : List Int} (h : ns ≠ []) : PyData.eqv (.list (ns.map PyData.int)) (.list []) = false := by
 cases ns with
 | nil => exact absurd rfl h
 | cons n ns => simp [PyData.eqv, PyData.eqvAll]
theorem at0 {α : Type} {x : α} {xs : List α} : L2.atI (x :: xs) 0 = some x := by simp [L2.atI, ixN]
theorem at1 {α : Type} {x y : α} {xs : List α} : L2.atI (x :: y :: xs) 1 = some y := by
 have : (1 : Int) < xs.length + 1 + 1 := by omega
 simp [L2.atI, ixN, this]
theorem at2 {α : Type} {x y z : α} {xs : List α} : L2.atI (x :: y :: z :: xs) 2 = some z := by
 have : (2 : Int) < xs.length + 1 + 1 + 1 := by omega
 simp [L2.atI, ixN, this]
theorem at3 {α : Type} {x y z u : α} {xs : List α} : L2.atI (x :: y :: z :: u :: xs) 3 = some u := by
 have : (3 : Int) < xs.length + 1 + 1 + 1 + 1 := by omega
 simp [L2.atI, ixN, this]
theorem ix4_1 : ixN 4 1 = some 1 := by rfl
theorem ix4_2 : ixN 4 2 = some 2 := by rfl
theorem ix4_3 : ixN 4 3 = some 3 := by rfl
theorem at_mod {ns : List Int} {a : Nat} {x : Int} (h : ns[a % ns.length]? = some x) : L2.atI (ns.map D.int) ((a : Int) % (ns.length : Int)) = some (.int x) := by
 have e : ((a : Int) % (ns.length : Int)) = ((a % ns.length : Nat) : Int) := (Int.natCast_emod a ns.length).symm
 rw [e]
 have hh : (ns.map D.int)[a % ns.length]? = some (.int x) := by rw [List.getElem?_map, h]; rfl
 exact L2.atI_nat hh
def mixR (cell n many : Int) : Int := (((cell % 1000003919 + 7907 * n + 17) ^ 3 % 2147483629 + 104659 * n) ^ 3 % 2147483587) / 32 % many
theorem xGt_i (a b : Int) (S : Sto) : xGt (.int a) (.int b) S = some (.bl (decide (a > b)), S) := rfl
theorem xGe_i (a b : Int) (S : Sto) : xGe (.int a) (.int b) S = some (.bl (decide (a ≥ b)), S) := rfl
theorem xLe_i (a b : Int) (S : Sto) : xLe (.int a) (.int b) S = some (.bl (decide (a ≤ b)), S) := rfl
theorem xLt_i (a b : Int) (S : Sto) : xLt (.int a) (.int b) S = some (.bl (decide (a < b)), S) := rfl
theorem mulX_i (a b : Int) (S : Sto) : dMulZ (.int a) (.int b) S = if cMulB a b = true then some (.int (a * b), S) else none := by
 unfold dMulZ dMulX PL.alt iiI
 by_cases h : cMulB a b = true
 ·simp [h, PL.alt]
 ·simp [h, PL.alt, tiT', liL, siS]
def F (x0 x1 : Ob) (ns : List Int) (a b n : Int) (rest : Sto) : Sto := x0 :: x1 :: .lst (ns.map D.int) :: .lst [.ref 2, .int a, .int b, .int n] :: rest
theorem draw1 {x0 x1 : Ob} {a b n : Int} {rest : Sto} {ns : List Int} (C : Nat → MF) (many : Int) (hm : 0 < many) (hm2 : many < 1000) (hb : 0 < b) :
  m18 C [.ref 3, .int many] (F x0 x1 ns a b n rest) = some (.int (b % many), F x0 x1 ns a (b / many) (n + 1) rest) := by
 have h3 : many < 1073741824 := by omega
 simp [F, m18, mBody, startE, mSeq, mAsg, mBin, mVar, mC, ixA, ixSeq, seqD, seqAt, L2.atI, ixN, gSubM, setSeq, mIfS, asB, xGt_i, dAdd, dMod, dDiv, hb, gN, mRet, iiI, iiB, PL.alt, hm, cDivB, h3]
theorem draw0 {x0 x1 : Ob} {b n : Int} {rest : Sto} (a : Nat) (C : Nat → MF) (many : Int) (hm : 0 < many) (hm2 : many < 1000) (hb : ¬ 0 < b) (h0 : 0 ≤ n) (hn : n < 1000000000000) :
  m18 C [.ref 3, .int many] (F x0 x1 [] a b n rest) = some (.int (mixR 67 (n + 1) many), F x0 x1 [] (a + 1) b (n + 1) (rest ++ [.lst []])) := by
 have h3 : many < 1073741824 := by omega
 have e1 : (67 + 7907 * (n + 1) + 17).natAbs < 18446744073709551616 := natAbs_lt (by omega) (by omega)
 have e2 : ((67 + 7907 * (n + 1) + 17) ^ 3 % 2147483629 + 104659 * (n + 1)).natAbs < 18446744073709551616 := by
  have := Int.emod_nonneg ((67 + 7907 * (n + 1) + 17) ^ 3) (show (2147483629 : Int) ≠ 0 by decide)
  have := Int.emod_lt_of_pos ((67 + 7907 * (n + 1) + 17) ^ 3) (show (0 : Int) < 2147483629 by decide)
  exact natAbs_lt (by omega) (by omega)
 simp [F, m18, mBody, startE, mSeq, mAsg, mBin, mVar, mC, ixA, ixSeq, seqD, seqAt, L2.atI, ixN, gSubM, setSeq, mIfS, mIf, asB, xGt_i, xGe_i, xLe_i, dAdd, dMod, dDiv, hb, gN, mRet, iiI, iiB, PL.alt, hm, cDivB, h3, mLst, mNil, newL, dNe, sEq, deepB, pyT, pyDs, pyD, mNext, mAndT, dPow, mulX_i, cMulB, cPowB, mBlt, mCons, gLen, sh0, PyData.eqv, PyData.eqvAll, e1, e2, mixR]
theorem drawC {x0 x1 : Ob} {b n x : Int} {rest : Sto} {ns : List Int} {a : Nat} (hx : ns[a % ns.length]? = some x) (C : Nat → MF) (many : Int) (hm : 0 < many) (hm2 : many < 1000) (hb : ¬ 0 < b) (h0 : 0 ≤ n) (hn : n < 1000000000000) :
  m18 C [.ref 3, .int many] (F x0 x1 ns a b n rest) =
   if 1000000000000000000 ≤ x ∧ (a : Int) + 1 ≤ ns.length then some (.int (x % many), F x0 x1 ns (a + 1) (x / many) (n + 1) (rest ++ [.lst []]))
   else some (.int (mixR x (n + 1) many), F x0 x1 ns (a + 1) b (n + 1) (rest ++ [.lst []])) := by
 have h3 : many < 1073741824 := by omega
 have hl := (List.getElem?_eq_some_iff.mp hx).1
 have hne : ns ≠ [] := fun e => by subst e; simp at hl
 have hp : 0 < ns.length := List.length_pos_iff.mpr hne
 have q1 := Int.emod_nonneg x (show (1000003919 : Int) ≠ 0 by decide)
 have q2 := Int.emod_lt_of_pos x (show (0 : Int) < 1000003919 by decide)
 have e1 : (x % 1000003919 + 7907 * (n + 1) + 17).natAbs < 18446744073709551616 := natAbs_lt (by omega) (by omega)
 have e2 : ((x % 1000003919 + 7907 * (n + 1) + 17) ^ 3 % 2147483629 + 104659 * (n + 1)).natAbs < 18446744073709551616 := by
  have := Int.emod_nonneg ((x % 1000003919 + 7907 * (n + 1) + 17) ^ 3) (show (2147483629 : Int) ≠ 0 by decide)
  have := Int.emod_lt_of_pos ((x % 1000003919 + 7907 * (n + 1) + 17) ^ 3) (show (0 : Int) < 2147483629 by decide)
  exact natAbs_lt (by omega) (by omega)
 have hat := at_mod hx
 by_cases g1 : 1000000000000000000 ≤ x
 ·by_cases g2 : (a : Int) + 1 ≤ ns.length
  ·simp [F, m18, mBody, startE, mSeq, mAsg, mBin, mVar, mC, ixA, ixSeq, seqD, seqAt, at0, at1, at2, at3, ix4_1, ix4_2, ix4_3, hat, gSubM, setSeq, mIfS, mIf, asB, xGt_i, xGe_i, xLe_i, dAdd, dMod, dDiv, hb, gN, mRet, iiI, iiB, PL.alt, hm, cDivB, h3, mLst, mNil, newL, dNe, sEq, deepB, pyT, pyInts, pyDs, pyD, mNext, mAndT, dPow, mulX_i, cMulB, cPowB, mBlt, mCons, gLen, sh0, sh_ints, eqv_ints hne, e1, e2, mixR, g1, g2, hp]
  ·simp [F, m18, mBody, startE, mSeq, mAsg, mBin, mVar, mC, ixA, ixSeq, seqD, seqAt, at0, at1, at2, at3, ix4_1, ix4_2, ix4_3, hat, gSubM, setSeq, mIfS, mIf, asB, xGt_i, xGe_i, xLe_i, dAdd, dMod, dDiv, hb, gN, mRet, iiI, iiB, PL.alt, hm, cDivB, h3, mLst, mNil, newL, dNe, sEq, deepB, pyT, pyInts, pyDs, pyD, mNext, mAndT, dPow, mulX_i, cMulB, cPowB, mBlt, mCons, gLen, sh0, sh_ints, eqv_ints hne, e1, e2, mixR, g1, g2, hp]
 ·simp [F, m18, mBody, startE, mSeq, mAsg, mBin, mVar, mC, ixA, ixSeq, seqD, seqAt, at0, at1, at2, at3, ix4_1, ix4_2, ix4_3, hat, gSubM, setSeq, mIfS, mIf, asB, xGt_i, xGe_i, xLe_i, dAdd, dMod, dDiv, hb, gN, mRet, iiI, iiB, PL.alt, hm, cDivB, h3, mLst, mNil, newL, dNe, sEq, deepB, pyT, pyInts, pyDs, pyD, mNext, mAndT, dPow, mulX_i, cMulB, cPowB, mBlt, mCons, gLen, sh0, sh_ints, eqv_ints hne, e1, e2, mixR, g1, hp]
end K33
end
section
namespace K33
open PySem PySem.Spec PyProof.Rows L2 PL WP
def FeedAt (ns : List Int) (k : Nat) (S : Sto) : Prop := ∃ (x0 x1 : Ob) (a : Nat) (b : Int) (n : Nat) (rest : Sto), S = F x0 x1 ns a b n rest ∧ n ≤ k
structure Go (X : List Nat) (S S' : Sto) : Prop where
 len : S.length ≤ S'.length
 keep : ∀ (i : Nat) (o : Ob), i ≠ 3 → i ∉ X → S[i]? = some o → S'[i]? = some o
theorem Go.refl {X : List Nat} {S : Sto} : Go X S S := ⟨Nat.le_refl _, fun _ _ _ _ h => h⟩
theorem Go.trans {X : List Nat} {S S1 S2 : Sto} (a : Go X S S1) (b : Go X S1 S2) : Go X S S2 := ⟨Nat.le_trans a.len b.len, fun i o h1 h2 h => b.keep i o h1 h2 (a.keep i o h1 h2 h)⟩
theorem Go.more {X Y : List Nat} {S S' : Sto} (a : Go X S S') (h : ∀ i ∈ X, i ∈ Y) : Go Y S S' := ⟨a.len, fun i o h1 h2 e => a.keep i o h1 (fun z => h2 (h i z)) e⟩
theorem Go.new {X : List Nat} {S T : Sto} : Go X S (S ++ T) := ⟨by rw [List.length_append]; omega, fun i o _ _ h => by rw [List.getElem?_append_left (List.getElem?_eq_some_iff.mp h).1]; exact h⟩
theorem Go.set {X : List Nat} {S : Sto} {n : Nat} {o : Ob} : Go (n :: X) S (S.set n o) := ⟨by simp, fun i u _ h2 h => by
 rw [List.getElem?_set_ne (fun e => h2 (by simp [e]))]
 exact h⟩
theorem Go.drop {S S' : Sto} {n : Nat} (a : Go [n] S S') (h : S.length ≤ n) : Go [] S S' := ⟨a.len, fun i o h1 _ e => a.keep i o h1 (by
 have := (List.getElem?_eq_some_iff.mp e).1
 simp
 omega) e⟩
theorem FeedAt.new {ns : List Int} {k : Nat} {S T : Sto} (f : FeedAt ns k S) : FeedAt ns k (S ++ T) := by
 obtain ⟨x0, x1, a, b, n, rest, rfl, h⟩ := f
 exact ⟨x0, x1, a, b, n, rest ++ T, rfl, h⟩
theorem FeedAt.set {ns : List Int} {k n : Nat} {S : Sto} {o : Ob} (f : FeedAt ns k S) (hn : 4 ≤ n) : FeedAt ns k (S.set n o) := by
 obtain ⟨x0, x1, a, b, m, rest, rfl, h⟩ := f
 refine ⟨x0, x1, a, b, m, rest.set (n - 4) o, ?_, h⟩
 obtain ⟨i, rfl⟩ : ∃ i, n = i + 4 := ⟨n - 4, by omega⟩
 rfl
theorem FeedAt.mono {ns : List Int} {k l : Nat} {S : Sto} (f : FeedAt ns k S) (h : k ≤ l) : FeedAt ns l S := by
 obtain ⟨x0, x1, a, b, n, rest, e, hn⟩ := f
 exact ⟨x0, x1, a, b, n, rest, e, Nat.le_trans hn h⟩
theorem FeedAt.len {ns : List Int} {k : Nat} {S : Sto} (f : FeedAt ns k S) : 4 ≤ S.length := by
 obtain ⟨x0, x1, a, b, n, rest, rfl, hn⟩ := f
 simp [F]
theorem mix_bd (c n many : Int) (hm : 0 < many) : 0 ≤ mixR c n many ∧ mixR c n many < many := ⟨Int.emod_nonneg _ (by omega), Int.emod_lt_of_pos _ hm⟩
theorem go_F {X : List Nat} {x0 x1 : Ob} {ns : List Int} {a b n a' b' n' : Int} {rest J : Sto} : Go X (F x0 x1 ns a b n rest) (F x0 x1 ns a' b' n' (rest ++ J)) := by
 refine ⟨by simp [F], fun i o h1 _ h => ?_⟩
 match i, h1, h with
 | 0, _, h => exact h
 | 1, _, h => exact h
 | 2, _, h => exact h
 | 3, h1, _ => exact absurd rfl h1
 | i + 4, _, h =>
  have h' : rest[i]? = some o := h
  show (rest ++ J)[i]? = some o
  rw [List.getElem?_append_left (List.getElem?_eq_some_iff.mp h').1]
  exact h'
theorem draw_ok {ns : List Int} {k : Nat} {S : Sto} (f : FeedAt ns k S) (hk : k < 1000000000) (C : Nat → MF) (many : Int) (hm : 0 < many) (hm2 : many < 1000) :
  ∃ (r : Nat) (S' : Sto), m18 C [.ref 3, .int many] S = some (.int r, S') ∧ (r : Int) < many ∧ FeedAt ns (k + 1) S' ∧ Go [] S S' := by
 obtain ⟨x0, x1, a, b, n, rest, rfl, hn⟩ := f
 have c1 : ((n : Int) + 1) = ((n + 1 : Nat) : Int) := by omega
 have c2 : ((a : Int) + 1) = ((a + 1 : Nat) : Int) := by omega
 have nat : ∀ r : Int, 0 ≤ r → ∃ m : Nat, r = (m : Int) := fun r h => ⟨r.toNat, by omega⟩
 by_cases hb : 0 < b
 ·have e := draw1 (x0 := x0) (x1 := x1) (a := a) (n := n) (rest := rest) (ns := ns) C many hm hm2 hb
  obtain ⟨m, hr⟩ := nat (b % many) (Int.emod_nonneg _ (by omega))
  have lt := Int.emod_lt_of_pos b hm
  rw [hr] at e lt
  refine ⟨m, _, e, lt, ⟨x0, x1, a, b / many, n + 1, rest, by rw [c1], by omega⟩, ?_⟩
  have := go_F (X := []) (x0 := x0) (x1 := x1) (ns := ns) (a := a) (b := b) (n := n) (a' := a) (b' := b / many) (n' := (n : Int) + 1) (rest := rest) (J := [])
  rwa [List.append_nil] at this
 ·cases ns with
  | nil =>
   have e := draw0 (x0 := x0) (x1 := x1) (n := n) (rest := rest) a C many hm hm2 hb (by omega) (by omega)
   obtain ⟨q1, q2⟩ := mix_bd 67 ((n : Int) + 1) many hm
   obtain ⟨m, hr⟩ := nat _ q1
   rw [hr] at e q2
   exact ⟨m, _, e, q2, ⟨x0, x1, a + 1, b, n + 1, rest ++ [.lst []], by rw [c1, c2], by omega⟩, go_F⟩
  | cons n0 ns =>
   have hl : a % (n0 :: ns).length < (n0 :: ns).length := Nat.mod_lt _ (by simp)
   have e := drawC (x0 := x0) (x1 := x1) (rest := rest) (b := b) (n := n) (List.getElem?_eq_getElem hl) C many hm hm2 hb (by omega) (by omega)
   split at e
   ·obtain ⟨m, hr⟩ := nat ((n0 :: ns)[a % (n0 :: ns).length] % many) (Int.emod_nonneg _ (by omega))
    have lt := Int.emod_lt_of_pos ((n0 :: ns)[a % (n0 :: ns).length]) hm
    rw [hr] at e lt
    exact ⟨m, _, e, lt, ⟨x0, x1, a + 1, _, n + 1, rest ++ [.lst []], by rw [c1, c2], by omega⟩, go_F⟩
   ·obtain ⟨q1, q2⟩ := mix_bd ((n0 :: ns)[a % (n0 :: ns).length]) ((n : Int) + 1) many hm
    obtain ⟨m, hr⟩ := nat _ q1
    rw [hr] at e q2
    exact ⟨m, _, e, q2, ⟨x0, x1, a + 1, b, n + 1, rest ++ [.lst []], by rw [c1, c2], by omega⟩, go_F⟩
theorem seqD_go {X : List Nat} {S S' : Sto} {d : D} {xs : List D} (G : Go X S S') (h : seqD S d = some xs) (h2 : d ≠ .ref 3) (hX : ∀ n ∈ X, d ≠ .ref n) : seqD S' d = some xs := by
 cases d with
 | ref n =>
  have hn : n ≠ 3 := fun e => h2 (by rw [e])
  have hx : n ∉ X := fun e => hX n e rfl
  have h' : seqAt n S = some xs := h
  show seqAt n S' = some xs
  unfold seqAt at h' ⊢
  cases e : S[n]? with
  | none => rw [e] at h'; cases h'
  | some o => rw [e] at h'; rw [G.keep n o hn hx e]; exact h'
 | _ => exact h
theorem ix_nat {S : Sto} {d x : D} {xs : List D} {r : Nat} (h : seqD S d = some xs) (hr : xs[r]? = some x) : ixA d (.int r) S = some (x, S) := by
 have hat : L2.atI xs (r : Int) = some x := L2.atI_nat hr
 have : ixSeq d (.int r) S = some (x, S) := by
  cases d <;> simp only [ixSeq, h, hat, Option.bind_some, Option.map_some] <;> simp [seqD] at h
 unfold ixA
 rw [this]
 rfl
theorem pick_ok {ns : List Int} {k : Nat} {S : Sto} {d : D} {xs : List D} (f : FeedAt ns k S) (hk : k < 1000000000) (j : Nat) (h : seqD S d = some xs) (h2 : d ≠ .ref 3) (hp : 0 < xs.length) (hl : xs.length < 1000) :
  ∃ x ∈ xs, ∃ S', lv (j + 2) 19 [.ref 3, d] S = some (x, S') ∧ FeedAt ns (k + 1) S' ∧ Go [] S S' := by
 obtain ⟨r, S', e, r1, f', G⟩ := draw_ok f hk (lv j) (xs.length : Int) (by omega) (by omega)
 have hr : r < xs.length := by omega
 have hlen : gLen [d] S = some (.int xs.length, S) := by
  cases d <;> simp [gLen, h] <;> simp [seqD] at h
 refine ⟨xs[r], List.getElem_mem hr, S', ?_, f', G⟩
 show m19 (lv (j + 1)) [.ref 3, d] S = _
 have w : WR (m19 (lv (j + 1)) [.ref 3, d] S) fun x T => x = xs[r] ∧ T = S' := by
  unfold m19
  and_intros
  refine wR_of hlen ?_
  and_intros
  refine wR_of e ?_
  exact wR_of (ix_nat (seqD_go G h h2 (by simp)) (List.getElem?_eq_getElem hr)) ⟨_, rfl, rfl, rfl⟩
 obtain ⟨x, T, e1, rfl, rfl⟩ := w
 exact e1
end K33
end
section
namespace K33
open PySem PySem.Spec PyProof.Rows L2 PL WP
theorem nxL_ok {S : Sto} {n i : Nat} {xs : List D} (e : S[n]? = some (.lst xs)) : nxL n i S = some xs[i]? := by
 unfold nxL seqAt
 rw [e]
 rfl
theorem disp_at {T : Sto} {xs : List D} : (T ++ [.lst xs])[T.length]? = some (.lst xs) := by simp
theorem take_snoc {α : Type} {xs : List α} {x : α} {i : Nat} (hx : xs[i]? = some x) : xs.take (i + 1) = xs.take i ++ [x] := by
 rw [List.take_succ, hx]
 rfl
theorem Go.set' {S S1 : Sto} {n : Nat} {o : Ob} (G : Go [] S S1) (h : S.length ≤ n) : Go [] S (S1.set n o) := (G.more (by simp) |>.trans (Go.set (X := []) (n := n) (o := o))).drop h
theorem r1s {a : MA} {env : PL.Env} {S S1 : Sto} {mm : Nat} (h : a env S = some ([.int (mm : Int)], S1)) (hm : mm < 500) : mR1 a env S = some ((mm + 1, nxR 0 mm), S1) := by
 have a1 : -(2 ^ 62) ≤ (mm : Int) := Int.le_trans (by decide : -(2 ^ 62) ≤ (0 : Int)) (Int.natCast_nonneg _)
 have a2 : (mm : Int) < 2 ^ 62 := Int.lt_of_lt_of_le (by omega : (mm : Int) < 500) (by decide : (500 : Int) ≤ 2 ^ 62)
 unfold mR1
 rw [h, Option.bind_some]
 simp only [r1Of]
 rw [if_pos ⟨a1, a2⟩, Int.toNat_natCast]
theorem nxR_in {mm i : Nat} {T : Sto} (h : i < mm) : nxR 0 mm i T = some (some (.int (i : Nat))) := by
 unfold nxR
 rw [if_pos h, Int.zero_add]
theorem nxR_end {mm : Nat} {T : Sto} : nxR 0 mm mm T = some none := by
 unfold nxR
 rw [if_neg (Nat.lt_irrefl _)]
theorem seq_tup {S : Sto} {n : Nat} {ds : List D} (h : S[n]? = some (.lst ds)) : gTuple [.ref n] S = some (.tup ds, S) := by
 simp [gTuple, seqAt, h]
section
variable {env : PL.Env} {S : Sto} {Q : D → Sto → Prop}
theorem sIx_nat {n d i : Nat} : HT.sIx n d (some (i : Int)) = min i n := by
 unfold HT.sIx
 simp only
 rw [if_neg (by omega), Int.toNat_natCast]
theorem cut_to (xs : List D) (i : Nat) : PL.cutD xs none (some (i : Int)) = xs.take i := by
 unfold PL.cutD
 rw [sIx_nat]
 have e : HT.sIx xs.length 0 none = 0 := rfl
 rw [e, List.drop_zero, Nat.sub_zero, List.take_eq_take_iff]
 omega
theorem cut_from (xs : List D) (i : Nat) : PL.cutD xs (some (i : Int)) none = xs.drop i := by
 unfold PL.cutD
 rw [sIx_nat]
 have e : HT.sIx xs.length xs.length none = xs.length := rfl
 rw [e]
 have l : (xs.drop (min i xs.length)).length = xs.length - min i xs.length := by simp
 rw [List.take_of_length_le (by omega)]
 by_cases h : i ≤ xs.length
 ·rw [Nat.min_eq_left h]
 ·rw [Nat.min_eq_right (by omega), List.drop_of_length_le (Nat.le_refl _), List.drop_of_length_le (by omega)]
theorem part_ok {i : Nat} (h : i < 100000) : -(2 ^ 63) ≤ (i : Int) ∧ (i : Int) < 2 ^ 63 :=
 ⟨Int.le_trans (by decide : -(2 ^ 63) ≤ (0 : Int)) (Int.natCast_nonneg _), Int.lt_of_lt_of_le (by omega : (i : Int) < 100000) (by decide : (100000 : Int) ≤ 2 ^ 63)⟩
theorem wE_slTo {o m : ME} {g : D → Option Int → Option Int → Sto → R} (h : WE o env S fun x S1 => WE m env S1 fun y S2 => ∃ i : Nat, y = .int i ∧ i < 100000 ∧ WR (g x none (some (i : Int)) S2) Q) : WE (mSl g o mNo (mPart m)) env S Q := by
 obtain ⟨x, S1, e1, y, S2, e2, i, rfl, hi, d, S3, e3, q⟩ := h
 refine ⟨d, S3, ?_, q⟩
 unfold mSl
 rw [e1, Option.bind_some]
 unfold mNo mPart
 rw [Option.bind_some, e2, Option.bind_some]
 dsimp only
 rw [if_pos (part_ok hi)]
 exact e3
theorem wE_slFrom {o m : ME} {g : D → Option Int → Option Int → Sto → R} (h : WE o env S fun x S1 => WE m env S1 fun y S2 => ∃ i : Nat, y = .int i ∧ i < 100000 ∧ WR (g x (some (i : Int)) none S2) Q) : WE (mSl g o (mPart m) mNo) env S Q := by
 obtain ⟨x, S1, e1, y, S2, e2, i, rfl, hi, d, S3, e3, q⟩ := h
 refine ⟨d, S3, ?_, q⟩
 unfold mSl
 rw [e1, Option.bind_some]
 unfold mNo mPart
 rw [e2, Option.bind_some]
 dsimp only
 rw [if_pos (part_ok hi), Option.bind_some]
 exact e3
theorem seqAt_of {n : Nat} {xs : List D} (h : S[n]? = some (.lst xs)) : seqAt n S = some xs := by
 unfold seqAt
 rw [h]
theorem slA_to {n i : Nat} {xs : List D} (h : S[n]? = some (.lst xs)) : slA (.ref n) none (some (i : Int)) S = some (.ref S.length, S ++ [.lst (xs.take i)]) := by
 show (seqAt n S).bind _ = _
 rw [seqAt_of h, Option.bind_some, cut_to]
 rfl
theorem slA_from {n i : Nat} {xs : List D} (h : S[n]? = some (.lst xs)) : slA (.ref n) (some (i : Int)) none S = some (.ref S.length, S ++ [.lst (xs.drop i)]) := by
 show (seqAt n S).bind _ = _
 rw [seqAt_of h, Option.bind_some, cut_from]
 rfl
theorem itr_ref {m : ME} {n : Nat} {xs : List D} {S1 : Sto} (h : m env S = some (.ref n, S1)) (e : S1[n]? = some (.lst xs)) : mItr m env S = some ((xs.length + 1, nxL n), S1) := by
 unfold mItr
 rw [h, Option.bind_some]
 show (seqAt n S1).bind _ = _
 rw [seqAt_of e, Option.bind_some]
theorem itr_tup {m : ME} {xs : List D} {S1 : Sto} (h : m env S = some (.tup xs, S1)) : mItr m env S = some ((xs.length + 1, nxT xs), S1) := by
 unfold mItr
 rw [h, Option.bind_some]
 rfl
theorem nxL_in {n i : Nat} {xs : List D} (e : S[n]? = some (.lst xs)) (hi : i < xs.length) : nxL n i S = some (some xs[i]) := by rw [nxL_ok e, List.getElem?_eq_getElem hi]
theorem nxL_end {n : Nat} {xs : List D} (e : S[n]? = some (.lst xs)) : nxL n xs.length S = some none := by rw [nxL_ok e, List.getElem?_eq_none (Nat.le_refl _)]
theorem WE.eq {m : ME} {d : D} {S1 : Sto} (h : WE m env S fun x T => x = d ∧ T = S1) : m env S = some (d, S1) := by
 obtain ⟨x, T, e, rfl, rfl⟩ := h
 exact e
end
def Ext (S S' : Sto) : Prop := ∃ T, S' = S ++ T
theorem Ext.refl {S : Sto} : Ext S S := ⟨[], by simp⟩
theorem Ext.trans {S S1 S2 : Sto} (a : Ext S S1) (b : Ext S1 S2) : Ext S S2 := by
 obtain ⟨T, rfl⟩ := a
 obtain ⟨U, rfl⟩ := b
 exact ⟨T ++ U, by simp⟩
theorem Ext.new {S T : Sto} : Ext S (S ++ T) := ⟨T, rfl⟩
theorem Ext.len {S S' : Sto} (a : Ext S S') : S.length ≤ S'.length := by
 obtain ⟨T, rfl⟩ := a
 simp
theorem Ext.keep {S S' : Sto} {i : Nat} {o : Ob} (a : Ext S S') (h : S[i]? = some o) : S'[i]? = some o := by
 obtain ⟨T, rfl⟩ := a
 rw [List.getElem?_append_left (List.getElem?_eq_some_iff.mp h).1, h]
theorem Ext.set {S S1 : Sto} {n : Nat} {o : Ob} (a : Ext S S1) (h : S.length ≤ n) : Ext S (S1.set n o) := by
 obtain ⟨T, rfl⟩ := a
 exact ⟨T.set (n - S.length) o, by rw [List.set_append_right _ _ h]⟩
theorem Ext.go {X : List Nat} {S S' : Sto} (a : Ext S S') : Go X S S' := by
 obtain ⟨T, rfl⟩ := a
 exact Go.new
theorem Ext.feed {ns : List Int} {k : Nat} {S S' : Sto} (a : Ext S S') (f : FeedAt ns k S) : FeedAt ns k S' := by
 obtain ⟨T, rfl⟩ := a
 exact f.new
theorem lc_fm {it : MI} {g : MG} {t : MT} {el : ME} {env : PL.Env} {vs : List Nat} {S S1 : Sto} {nx : Nxt} {xs : List D} {ev : D → PL.Env} {p : D → Bool} {f : D → D} (hl : xs.length < 1000000) (hi : it env S = some ((xs.length + 1, nx), S1))
  (hnx : ∀ T, Ext S1 T → ∀ i, nx i T = some xs[i]?) (hg : ∀ x T, x ∈ xs → g x (wipeE env vs) T = some (ev x, T))
  (hel : ∀ x T, x ∈ xs → Ext S1 T → WT t (ev x) T fun b T1 => b = p x ∧ (b = true → WE el (ev x) T1 fun d T' => d = f x ∧ Ext T T') ∧ (b = false → Ext T T1)) :
  WE (mLc it g t el vs) env S fun d S' => d = .ref S1.length ∧ S'[S1.length]? = some (.lst ((xs.filter p).map f)) ∧ Ext S1 S' := by
 refine wE_lc (m := xs.length) (I := fun i acc T => acc = ((xs.take i).filter p).map f ∧ Ext S1 T) hl hi ⟨by simp, Ext.new⟩ (fun i acc T hi hl hn h => ?_) (fun acc T h => ?_) (fun acc S' h1 h2 h3 => ?_)
 ·obtain ⟨rfl, E⟩ := h
  have hx : xs[i]? = some xs[i] := List.getElem?_eq_getElem hi
  have hm : xs[i] ∈ xs := List.getElem_mem hi
  refine ⟨xs[i], ev xs[i], T, by rw [hnx T E i, hx], hg _ T hm, ?_⟩
  obtain ⟨b, T1, e1, rfl, g1, g2⟩ := hel _ T hm E
  refine ⟨p xs[i], T1, e1, fun hb => (g1 hb).mono fun d T' q => ?_, fun hb => ?_⟩
  ·obtain ⟨rfl, E1⟩ := q
   refine ⟨E1.keep hn, ?_, (E.trans E1).set (Nat.le_refl _)⟩
   rw [take_snoc hx, List.filter_append, List.map_append]
   simp [hb]
  ·refine ⟨(g2 hb).keep hn, ?_, E.trans (g2 hb)⟩
   rw [take_snoc hx, List.filter_append, List.map_append]
   simp [hb]
 ·rw [hnx T h.2, List.getElem?_eq_none (Nat.le_refl _)]
 ·obtain ⟨rfl, E⟩ := h3
  rw [List.take_length] at h1
  exact ⟨rfl, h1, E⟩
theorem lc_map {it : MI} {g : MG} {el : ME} {env : PL.Env} {vs : List Nat} {S S1 : Sto} {nx : Nxt} {xs : List D} {ev : D → PL.Env} {f : D → D} (hl : xs.length < 1000000) (hi : it env S = some ((xs.length + 1, nx), S1))
  (hnx : ∀ T, Ext S1 T → ∀ i, nx i T = some xs[i]?) (hg : ∀ x T, x ∈ xs → g x (wipeE env vs) T = some (ev x, T))
  (hel : ∀ x T, x ∈ xs → Ext S1 T → WE el (ev x) T fun d T' => d = f x ∧ Ext T T') :
  WE (mLc it g mYes el vs) env S fun d S' => d = .ref S1.length ∧ S'[S1.length]? = some (.lst (xs.map f)) ∧ Ext S1 S' := by
 refine (lc_fm (p := fun _ => true) (f := f) hl hi hnx hg fun x T hx E => wT_yes ⟨rfl, fun _ => hel x T hx E, fun z => by cases z⟩).mono ?_
 rintro d S' ⟨rfl, h, E⟩
 exact ⟨rfl, by rw [h, List.filter_eq_self.mpr (fun _ _ => rfl)], E⟩
theorem nxT_any {xs : List D} {T : Sto} (i : Nat) : nxT xs i T = some xs[i]? := rfl
theorem nxL_any {n : Nat} {xs : List D} {S T : Sto} (h : S[n]? = some (.lst xs)) (E : Ext S T) (i : Nat) : nxL n i T = some xs[i]? := nxL_ok (E.keep h)
theorem strsD_map : ∀ xs : List Str, strsD (xs.map D.str) = some xs
 | [] => rfl
 | x :: xs => by simp [strsD, strsD_map xs]
abbrev CL := List Nat
def cp (s : Str) : CL := s.cps.toList
theorem cp_inj {a b : Str} (h : cp a = cp b) : a = b := by
 cases a
 cases b
 simp only [cp] at h
 rw [Array.toList_inj.mp h]
theorem cp_app (a b : Str) : cp (a ++ b) = cp a ++ cp b := by
 show (a.cps ++ b.cps).toList = _
 simp [cp]
def joinL (z : CL) : List CL → CL
 | [] => []
 | [x] => x
 | x :: y :: r => x ++ z ++ joinL z (y :: r)
theorem cp_join (z : Str) : ∀ xs : List Str, cp (Str.join z xs) = joinL (cp z) (xs.map cp)
 | [] => rfl
 | [x] => rfl
 | x :: y :: r => by
  rw [Str.join.eq_3 z x (y :: r) (by simp), cp_app, cp_app, cp_join z (y :: r)]
  rfl
def spL (m : Nat) : CL → List CL
 | [] => [[]]
 | c :: cs => if c = m then [] :: spL m cs else match spL m cs with
  | h :: t => (c :: h) :: t
  | [] => [[c]]
theorem spL_ne (m : Nat) : ∀ cs, ∃ h t, spL m cs = h :: t
 | [] => ⟨[], [], rfl⟩
 | c :: cs => by
  obtain ⟨h, t, e⟩ := spL_ne m cs
  rw [spL, e]
  split
  ·exact ⟨_, _, rfl⟩
  ·exact ⟨_, _, rfl⟩
theorem spL_free {m : Nat} : ∀ {p cs : CL}, m ∉ p → ∀ {h t}, spL m cs = h :: t → spL m (p ++ cs) = (p ++ h) :: t
 | [], cs, _, h, t, e => e
 | c :: p, cs, hp, h, t, e => by
  have h1 : c ≠ m := fun z => hp (by rw [z]; exact .head _)
  have h2 := spL_free (p := p) (fun z => hp (.tail _ z)) e
  show spL m (c :: (p ++ cs)) = _
  rw [spL, h2, if_neg h1]
  rfl
theorem spL_join (m : Nat) : ∀ xs : List CL, xs ≠ [] → (∀ p ∈ xs, m ∉ p) → spL m (joinL [m] xs) = xs
 | [], h, _ => absurd rfl h
 | [x], _, hp => by
  have := spL_free (m := m) (p := x) (cs := []) (hp x (.head _)) (h := []) (t := []) rfl
  simpa [joinL] using this
 | x :: y :: r, _, hp => by
  have ih := spL_join m (y :: r) (by simp) fun p h => hp p (.tail _ h)
  have e : spL m (m :: joinL [m] (y :: r)) = [] :: y :: r := by rw [spL, if_pos rfl, ih]
  have := spL_free (m := m) (p := x) (hp x (.head _)) e
  rw [List.append_nil] at this
  rw [joinL, List.append_assoc]
  exact this
theorem split_ne (x : Str) (c : Nat) : Txt.split x ⟨#[c]⟩ ≠ [] := by
 unfold Txt.split
 split
 ·simp
 ·split
  ·simp
  ·rw [StrLaws.partsBetween_eq]
   obtain ⟨p, r, e⟩ := StrLaws.partsFrom_ne x (Str.length ⟨#[c]⟩) 0 (Builtin.Str.occurrences x ⟨#[c]⟩ 0 x.length (x.length + 1))
   rw [e]
   simp
theorem split_cp (x : Str) (c : Nat) : (Txt.split x ⟨#[c]⟩).map cp = spL c (cp x) := by
 have h := StrLaws.join_split x ⟨#[c]⟩
 have h2 := cp_join ⟨#[c]⟩ (Txt.split x ⟨#[c]⟩)
 rw [h] at h2
 rw [h2]
 refine (spL_join c _ (fun z => split_ne x c (List.map_eq_nil_iff.mp z)) fun p hp => ?_).symm
 obtain ⟨q, hq, rfl⟩ := List.mem_map.mp hp
 exact StrLaws.split_free x c q hq
def sOf (l : CL) : Str := ⟨l.toArray⟩
theorem cp_sOf (l : CL) : cp (sOf l) = l := by simp [cp, sOf]
theorem sOf_cp (s : Str) : sOf (cp s) = s := cp_inj (cp_sOf _)
theorem spL_len (m : Nat) : ∀ cs : CL, (spL m cs).length ≤ cs.length + 1
 | [] => by simp [spL]
 | c :: cs => by
  have ih := spL_len m cs
  obtain ⟨h, t, e⟩ := spL_ne m cs
  rw [e] at ih
  rw [spL, e]
  split
  ·simp at ih ⊢
   omega
  ·simp at ih ⊢
   omega
theorem spL_mem (m : Nat) : ∀ (cs p : CL), p ∈ spL m cs → p.length ≤ cs.length
 | [], p, h => by
  simp [spL] at h
  simp [h]
 | c :: cs, p, hp => by
  obtain ⟨h, t, e⟩ := spL_ne m cs
  have ih := fun q hq => spL_mem m cs q hq
  rw [e] at ih
  rw [spL, e] at hp
  split at hp
  ·rcases List.mem_cons.mp hp with rfl | hp
   ·simp
   ·have := ih p hp
    simp
    omega
  ·rcases List.mem_cons.mp hp with rfl | hp
   ·have := ih h (.head _)
    simp
    omega
   ·have := ih p (.tail _ hp)
    simp
    omega
theorem sl_big : 1000000 ≤ sizeLine := by decide
theorem len_cp (s : Str) : s.length = (cp s).length := by simp [cp, Str.length]
theorem split_ok {s : Str} {c : Nat} {w : Str} (hw : w = ⟨#[c]⟩) (hl : s.length ≤ 900000) (T : Sto) : gSplit (.str s) [.str w] T = some (.ref T.length, T ++ [.lst ((spL c (cp s)).map fun l => .str (sOf l))]) := by
 have h1 : (w.length == 0) = false := by rw [hw]; rfl
 have := sl_big
 show (if _ then _ else _) = _
 rw [if_pos ⟨h1, by omega⟩]
 unfold newL
 rw [hw, ← split_cp, List.map_map]
 have : (Txt.split s ⟨#[c]⟩).map D.str = (Txt.split s ⟨#[c]⟩).map ((fun l => D.str (sOf l)) ∘ cp) := List.map_congr_left fun x _ => by simp [sOf_cp]
 rw [this]
theorem wE_callD {n : Nat} {dD : List D} {m : MF} {a : MA} (h : WA a env S fun ds T => ds.length = n ∧ WR (m (ds ++ dD) T) Q) : WE (mCallD n dD m a) env S Q := by
 obtain ⟨ds, T, h1, hl, d, U, h2, q⟩ := h
 refine ⟨d, U, ?_, q⟩
 unfold mCallD
 rw [h1, Option.bind_some]
 dsimp only
 rw [if_pos hl, h2]
end K33
end
section
namespace K33
open PySem PySem.Spec PyProof.Rows L2 PL WP
theorem len_app (a b : Str) : (a ++ b).length = a.length + b.length := by
 show (a.cps ++ b.cps).size = a.cps.size + b.cps.size
 simp
def wts (ts : List Str) : Nat := (ts.map fun t => t.length + 2).sum
theorem join_len : ∀ ts : List Str, ((Str.ofString ", ").join ts).length ≤ wts ts
 | [] => by rw [Str.join.eq_1]; decide
 | [x] => by rw [Str.join.eq_2]; simp [wts]
 | x :: y :: r => by
  have ih := join_len (y :: r)
  have hc : (Str.ofString ", ").length = 2 := by decide
  have e : wts (x :: y :: r) = x.length + 2 + wts (y :: r) := by simp [wts]
  rw [Str.join.eq_3 _ _ _ (by simp), len_app, len_app]
  omega
theorem shown_tup {ps : List PyData} {W : Nat} (h2 : wts (PyData.shownAll ps) ≤ W) : (PyData.tuple ps).shown.length ≤ W + 3 := by
 rw [PyData.shown.eq_6, tupleText.eq_1, len_app, len_app]
 have h1 := join_len (PyData.shownAll ps)
 have h3 : (Str.ofString "(").length = 1 := by decide
 have h4 : (Str.ofString (if ((PyData.shownAll ps).length == 1) = true then ",)" else ")")).length ≤ 2 := by
  split <;> decide
 omega
def big : Nat := 10 ^ 61
theorem lay_str {x : Str} (h : ∀ c ∈ cp x, c < 1114112) : (PyData.str x).canLay0 = true := by
 simp only [PyData.canLay0]
 unfold PyData.strOk
 simp only [Array.all_eq_true']
 intro c hc
 have := h c (by unfold cp; exact Array.mem_toList_iff.mpr hc)
 simp
 omega
def Fa (c m : Nat) (p : PyData) : Prop := p.showable = true ∧ p.hasDict = false ∧ p.canLay0 = true ∧ p.depth ≤ m ∧ p.shown.length ≤ c
def FaL (c m : Nat) (ps : List PyData) : Prop := PyData.showableAll ps = true ∧ PyData.hasDictAll ps = false ∧ PyData.canLayAll0 ps = true ∧ PyData.depthAll ps ≤ m ∧ wts (PyData.shownAll ps) ≤ c
theorem big_log {n : Nat} (hn : n ≤ 100) {i : Int} (h : i.natAbs ≤ big + n) : i.natAbs.log2 < 203 := by
 have hb : big + 100 < 2 ^ 203 := by decide +kernel
 by_cases h0 : i.natAbs = 0
 ·rw [h0]
  decide
 ·exact (Nat.log2_lt h0).mpr (by omega)
theorem int_len {i : Int} (h : i.natAbs.log2 < 203) : (toString i : String).length ≤ 204 := PySem.int_text_length_le (k := 203) (by decide) h
abbrev gRr : List D → Sto → R := gOr (gOr gReprN (gOr gReprA gReprS)) gReprIB
theorem gOr_l {g h : List D → Sto → R} {xs : List D} {S : Sto} {r : D × Sto} (e : g xs S = some r) : gOr g h xs S = some r := by
 unfold gOr
 rw [e]
 rfl
theorem gOr_r {g h : List D → Sto → R} {xs : List D} {S : Sto} (e : g xs S = none) : gOr g h xs S = h xs S := by
 unfold gOr
 rw [e]
 rfl
theorem fa_ok {c m : Nat} {p : PyData} (h : Fa c m p) (hc : c ≤ 1000000) (hm : m ≤ 40) : reprOk p = true := by
 obtain ⟨a1, a2, _, a4, a5⟩ := h
 have hz : 1000000 ≤ sizeLine := by decide
 unfold reprOk
 rw [a1, a2, decide_eq_true (by omega), decide_eq_true (by omega)]
 rfl
def Fd (c m : Nat) (d : D) : Prop := ∃ p, pyD d = some p ∧ Fa c m p
def FdL (c m : Nat) (ds : List D) : Prop := ∃ ps, pyDs ds = some ps ∧ FaL c m ps
theorem Fd.int {c m : Nat} {i : Int} (h : 210 ≤ c) (hi : i.natAbs ≤ big) : Fd c m (.int i) := ⟨.int i, rfl, by
  rw [PyData.showable.eq_4]
  exact decide_eq_true (Nat.lt_trans (big_log (n := 0) (by omega) hi) (by decide)), rfl, rfl, Nat.zero_le _, by
  have := int_len (big_log (n := 0) (by omega) hi)
  show (Str.ofString (toString i)).length ≤ _
  rw [PySem.ofString_length]
  omega⟩
theorem Fd.str {c m : Nat} {x : Str} (h : 12 * x.length + 100 ≤ c) (hx : ∀ k ∈ cp x, k < 1114112) : Fd c m (.str x) := ⟨.str x, rfl, rfl, rfl, lay_str hx, Nat.zero_le _, by
  have := StrLaws.reprText_len x fun c hc => Nat.lt_of_lt_of_le (hx c hc) (by decide : 1114112 ≤ 16 ^ 8)
  show (reprText x).length ≤ _
  omega⟩
theorem Fd.tup {c k m : Nat} {xs : List D} (h : FdL k m xs) (hc : k + 5 ≤ c) : Fd c (m + 1) (.tup xs) := by
 obtain ⟨ps, e, a1, a2, a3, a4, a5⟩ := h
 refine ⟨.tuple ps, ?_, ?_⟩
 ·simp only [pyD]
  rw [e]
  rfl
 ·exact ⟨by rw [PyData.showable.eq_6]; exact a1, by rw [PyData.hasDict.eq_6]; exact a2, by simp only [PyData.canLay0]; exact a3, by rw [PyData.depth.eq_2]; omega, Nat.le_trans (shown_tup a5) (by omega)⟩
theorem FdL.nil {c m : Nat} : FdL c m [] := ⟨[], rfl, rfl, rfl, rfl, Nat.zero_le _, Nat.zero_le _⟩
theorem FdL.cons {a b c m : Nat} {x : D} {xs : List D} (h : Fd a m x) (t : FdL b m xs) (hc : a + b + 5 ≤ c) : FdL c m (x :: xs) := by
 obtain ⟨p, h1, b1, b2, b3, b4, b5⟩ := h
 obtain ⟨ps, h2, a1, a2, a3, a4, a5⟩ := t
 refine ⟨p :: ps, by simp only [pyDs]; rw [h1, Option.bind_some, h2]; rfl, by simp [PyData.showableAll, b1, a1], by simp [PyData.hasDictAll, b2, a2], by simp [PyData.canLayAll0, b3, a3], by simp only [PyData.depthAll]; omega, ?_⟩
 simp only [PyData.shownAll, wts, List.map_cons, List.sum_cons]
 unfold wts at a5
 omega
theorem FdL.of {m c : Nat} : ∀ {xs : List D}, (∀ x ∈ xs, Fd c m x) → FdL (xs.length * (c + 5)) m xs
 | [], _ => .nil
 | x :: xs, h => .cons (h x (.head _)) (FdL.of fun y hy => h y (.tail _ hy)) (by rw [List.length_cons, Nat.succ_mul]; omega)
theorem Fd.mono {c c' m m' : Nat} {d : D} (h : Fd c m d) (hc : c ≤ c') (hm : m ≤ m') : Fd c' m' d := by
 obtain ⟨p, e, a1, a2, a3, a4, a5⟩ := h
 exact ⟨p, e, a1, a2, a3, by omega, by omega⟩
theorem rep_fd {c m : Nat} {xs : List D} (h : Fd c m (.tup xs)) (hc : c ≤ 1000000) (hm : m ≤ 40) : ∃ s : Str, ∀ T, gRr [.tup xs] T = some (.str s, T) := by
 obtain ⟨p, e, f⟩ := h
 refine ⟨p.shown, fun T => ?_⟩
 have g1 : gReprN [.tup xs] T = none := rfl
 refine gOr_l ?_
 rw [gOr_r g1]
 refine gOr_l ?_
 show ((pyD (.tup xs)).bind fun p => if reprOk p = true then some (D.str (PyData.shown p), T) else none) = _
 rw [e, Option.bind_some, if_pos (fa_ok f hc hm)]
end K33
end
section
namespace K33
open PySem PySem.Spec PyProof.Rows L2 PL WP
def isW (x : Str) : Bool := !decide (8 < x.length) && (Txt.isascii x && (Txt.isalpha x && Txt.islower x))
def hlv (c : Nat) (x : Str) : Option (Str × Str) := match spL c (cp x) with
 | [a, b] => some (sOf a, sOf b)
 | _ => none
def pairO (c : Nat) (x : Str) : Option (Str × Str) := match hlv c x with
 | some p => if (isW p.1 && isW p.2) = true then some p else none
 | none => none
def FIG : Str := Str.ofString "0123456789"
def figB (c : Nat) : Bool := !(Builtin.Str.occurrences FIG ⟨#[c]⟩ 0 FIG.length 1).isEmpty
def figs (x : Str) : Str := if Txt.startswith x (Str.ofString "-") = true then cutS x (some 1) none else x
def numBad (x : Str) : Bool := !(decide (1 ≤ (figs x).length) && decide ((figs x).length ≤ 60)) || !((figs x).cps.toList.all figB)
def numO (x : Str) : Option (Option Int) := if numBad x = true then some none
 else if (decide ((figs x).cps.toList[0]? = some 48) && !decide (x = Str.ofString "0")) = true then some none
 else (PySem.intText? x).map some
def oD {α : Type} (f : α → D) : Option α → D
 | none => .non
 | some a => f a
def prD (p : Str × Str) : D := .tup [.str p.1, .str p.2]
def spD (p : Str × Int) : D := .tup [.str p.1, .int p.2]
def wordR (x : Str) : Option D := some (if isW x = true then .str x else .non)
def numR (x : Str) : Option D := (numO x).map (oD D.int)
def pairR (c : Nat) (x : Str) : Option D := some (oD prD (pairO c x))
def isAt (a : Str) : Bool := decide (a = Str.ofString "at") || decide (a = Str.ofString "with")
def whereO (x : Str) : Option (Str × Str) := match pairO 58 x with
 | some p => if isAt p.1 = true then some p else none
 | none => none
def whereR (x : Str) : Option D := some (oD prD (whereO x))
def seenO (x : Str) : Option (Option (Str × Int)) := match hlv 58 x with
 | none => some none
 | some p => if isW p.1 = true then (numO p.2).map fun o => o.map fun i => (p.1, i) else some none
def seenR (x : Str) : Option D := (seenO x).map (oD spD)
def nonB : D → Bool
 | .non => true
 | _ => false
def nIn (xs : List D) : Option Bool := ((flatDs xs).map fun ws => inV .non ws).orElse fun _ => (pyDs xs).bind fun ps => if PyData.canLayAll0 ps = true then some (ps.any fun y => PyData.eqv y .none) else none
def optM (f : Str → Option D) : List Str → Option (List D)
 | [] => some []
 | x :: xs => (f x).bind fun d => (optM f xs).map (d :: ·)
def dash : Str := Str.ofString "-"
def unl (f : Str → Option D) (x : Str) : Option D := if x = dash then some (.tup []) else (optM f ((spL 44 (cp x)).map sOf)).bind fun vs => (nIn vs).map fun b => if b = true then .non else .tup vs
def cap3 : D → D
 | .tup xs => if 3 < xs.length then .non else .tup xs
 | d => d
def rd : Nat → Str → Option D
 | 0 => wordR
 | 1 => fun x => (unl wordR x).map cap3
 | 2 => unl numR
 | 3 => unl whereR
 | 4 => unl seenR
 | 5 => unl (pairR 46)
 | _ => numR
def SS (xs : List String) : List Str := xs.map Str.ofString
def EV : List Str := SS ["", "A", "a,", ",a", "a,,b", "-,a", "a-"]
def ones : Str := repS (Str.ofString "1") 61
def NU : List Str := SS ["", "01", "-0", "+1", "a", "1.", "--1"] ++ [ones] ++ SS ["1/2", "--"]
def BW : Nat → List Str
 | 0 => SS ["", "-", "A", "abcdefghi", "a,b", "7", "a:"]
 | 1 => EV ++ SS ["a,b,a,b", "abcdefghi", "a:b"]
 | 2 => NU ++ SS ["1,", "1,,2", "0,-0"]
 | 3 => EV ++ SS ["in:a", "at", "at:", "at:A", "at:a:b", "with:abcdefghi", ":a"]
 | 4 => EV ++ SS ["a:", "a:01", "a:x", ":1", "a:1:2", "A:1", "a:1,b"]
 | 5 => EV ++ SS ["a", "a.", ".a", "a.b.c", "a:b", "a.B"]
 | 6 => NU ++ SS ["-", "0,1"]
 | _ => []
def badOk (k : Nat) (w : Str) : Bool := decide ((rd k w).map nonB = some true) && (!(cp w).contains 32 && decide (w.length ≤ 100))
theorem bad_all : (List.range 7).all (fun k => (BW k).all (badOk k)) = true := by decide +kernel
theorem bad_len : (List.range 7).all (fun k => decide (7 ≤ (BW k).length)) = true := by decide +kernel
def GW : Nat → Str
 | 0 => Str.ofString "zz"
 | 1 => Str.ofString "b,b"
 | 2 => Str.ofString "0,-9"
 | 3 => Str.ofString "with:at,at:with"
 | 4 => Str.ofString "a:0,a:-5"
 | 5 => Str.ofString "b.a,a.b"
 | _ => Str.ofString "-12"
def freeB (x : Str) : Bool := !(cp x).contains 32 && (!(cp x).contains 44 && (!(cp x).contains 58 && (!(cp x).contains 46 && !decide (x = dash))))
def tgB (x : Str) : Bool := isW x && (freeB x && (decide (x.length ≤ 8) && (cp x).all fun c => decide (c < 1114112)))
def nmB (i : Int) : Bool := decide (numO (toString i) = some (some i)) && (freeB (toString i) && (decide ((toString i : Str).length ≤ 64) && (decide (i.natAbs ≤ big) && (cp (toString i)).all fun c => decide (c < 1114112))))
def TT4 : List Str := SS ["a", "hall", "abcdefgh", "with"]
def NN7 : List Int := [0, 7, -1, -30, 10 ^ 9, 10 ^ 59, 1 - 10 ^ 60]
theorem t4_ok : TT4.all tgB = true := by decide +kernel
theorem n7_ok : NN7.all nmB = true := by decide +kernel
theorem tx_ok : (SS ["at", "with", "zz", "a", "b", "c", "d", "e", "f", "g", "h", "p", "q", "r", "s"]).all tgB = true := by decide +kernel
theorem nx_ok : ([0, 1, 2, 3, 5, 9, -9, -5, -12] : List Int).all nmB = true := by decide +kernel
end K33
end
section
namespace K33
open PySem PySem.Spec PyProof.Rows L2 PL WP
theorem len_ok {x : Str} (hx : x.length ≤ 100000) : x.length ≤ sizeLine := Nat.le_trans (Nat.le_trans hx (by decide)) sl_big
theorem gLen_s {x : Str} (hx : x.length ≤ 100000) (S : Sto) : gLen [.str x] S = some (.int x.length, S) := by
 show (if x.length ≤ sizeLine then _ else _) = _
 rw [if_pos (len_ok hx)]
theorem isW_ok (j : Nat) {x : Str} (hx : x.length ≤ 100000) (S : Sto) : lv (j + 1) 0 [.str x] S = some (.bl (isW x), S) := by
 show m0 (lv j) [.str x] S = _
 have g := gLen_s hx
 have ht : gIsi [.str x, .ty "str"] S = some (.bl true, S) := by rfl
 by_cases h8 : 8 < x.length
 ·have e : isW x = false := by simp [isW, h8]
  rw [e]
  have h8' : (x.length : Int) > 8 := by omega
  simp [m0, mBody, startE, mSeq, mIfS, mOrT, mNotT, mTru, mBlt, mCons, mNil, mVar, mC, ht, dTru, asB, mBin, g, xGt_i, h8', mRet]
 ·have h8' : ¬ (x.length : Int) > 8 := by omega
  have e : isW x = (Txt.isascii x && (Txt.isalpha x && Txt.islower x)) := by simp [isW, h8]
  rw [e]
  cases a : Txt.isascii x <;> cases b : Txt.isalpha x <;>
   simp [m0, mBody, startE, mSeq, mIfS, mOrT, mNotT, mTru, mBlt, mCons, mNil, mVar, mC, ht, dTru, asB, mBin, g, xGt_i, h8', mRet, mNext, mAndV, mMt, dIs, gIsT, a, b]
theorem wr_ok {r : Option (D × Sto)} {d : D} {S : Sto} (e : r = some (d, S)) : WR r fun x T => x = d ∧ Ext S T := ⟨d, S, e, rfl, Ext.refl⟩
theorem word_ok (j : Nat) {x : Str} {v : D} (hx : x.length ≤ 100000) (S : Sto) (h : wordR x = some v) : WR (lv (j + 2) 4 [.str x] S) fun d T => d = v ∧ Ext S T := by
 cases h
 refine wr_ok ?_
 show m4 (lv (j + 1)) [.str x] S = _
 have e := isW_ok j hx S
 cases a : isW x <;> simp [m4, mBody, startE, mRet, mIf, mTru, mCall, mCons, mNil, mVar, mC, e, a, dTru]
theorem halves_ok (j : Nat) {x w : Str} {c : Nat} (hw : w = ⟨#[c]⟩) (hx : x.length ≤ 100000) (S : Sto) : lv (j + 1) 3 [.str x, .str w] S = some (oD prD (hlv c x), S ++ [.lst ((spL c (cp x)).map fun l => .str (sOf l))]) := by
 show m3 (lv j) [.str x, .str w] S = _
 have e := split_ok hw (Nat.le_trans hx (by decide : 100000 ≤ 900000)) S
 have hl := spL_len c (cp x)
 have hz : 2 ≤ sizeLine := by decide
 have hx' := len_cp x
 unfold hlv
 have gl : ∀ L : List D, gLen [.ref S.length] (S ++ [.lst L]) = some (.int L.length, S ++ [.lst L]) := fun L => by
  simp [gLen, seqD, seqAt]
 match hs : spL c (cp x) with
 | [] => simp [m3, mBody, startE, mSeq, mAsg, mMt, mVar, mCons, mNil, gN, dIs, e, hs, mRet, mIf, asB, mBin, mBlt, gl, mC, dEq, PL.alt, sEq, oD]
 | [a] => simp [m3, mBody, startE, mSeq, mAsg, mMt, mVar, mCons, mNil, gN, dIs, e, hs, mRet, mIf, asB, mBin, mBlt, gl, mC, dEq, PL.alt, sEq, oD]
 | [a, b] => simp [m3, mBody, startE, mSeq, mAsg, mMt, mVar, mCons, mNil, gN, dIs, e, hs, mRet, mIf, asB, mBin, mBlt, gl, mC, dEq, PL.alt, sEq, oD, mTup, ixA, ixSeq, seqD, seqAt, L2.atI, ixN, prD, hz]
 | a :: b :: d :: r =>
  have h3 : ¬ ((r.length : Int) + 1 + 1 + 1 = 2) := by omega
  simp [m3, mBody, startE, mSeq, mAsg, mMt, mVar, mCons, mNil, gN, dIs, e, hs, mRet, mIf, asB, mBin, mBlt, gl, mC, dEq, PL.alt, sEq, oD, h3]
theorem part_len {x : Str} {c : Nat} {a : CL} (hx : x.length ≤ 100000) (h : a ∈ spL c (cp x)) : (sOf a).length ≤ 100000 := by
 have := spL_mem c (cp x) a h
 have h2 := len_cp x
 have h3 := len_cp (sOf a)
 rw [cp_sOf] at h3
 omega
theorem hlv_len {x : Str} {c : Nat} {p : Str × Str} (hx : x.length ≤ 100000) (h : hlv c x = some p) : p.1.length ≤ 100000 ∧ p.2.length ≤ 100000 := by
 unfold hlv at h
 split at h
 case h_2 => cases h
 rename_i a b e
 cases h
 exact ⟨part_len hx (c := c) (by rw [e]; simp), part_len hx (c := c) (by rw [e]; simp)⟩
theorem pair_ok (j : Nat) {x w : Str} {c : Nat} (hw : w = ⟨#[c]⟩) (hx : x.length ≤ 100000) (S : Sto) : ∃ T, lv (j + 2) 5 [.str x, .str w] S = some (oD prD (pairO c x), S ++ T) := by
 refine ⟨[.lst ((spL c (cp x)).map fun l => .str (sOf l))], ?_⟩
 show m5 (lv (j + 1)) [.str x, .str w] S = _
 have e := halves_ok j hw hx S
 unfold pairO
 cases hh : hlv c x with
 | none =>
  rw [hh] at e
  simp [m5, mBody, startE, mSeq, mAsg, mCall, mCons, mNil, mVar, gN, e, mIfS, mOrT, asB, mBin, mC, dIsO, PL.alt, isN, oD, mRet]
 | some p =>
  obtain ⟨h1, h2⟩ := hlv_len hx hh
  rw [hh] at e
  have a1 := isW_ok j h1
  have a2 := isW_ok j h2
  cases b1 : isW p.1 <;> cases b2 : isW p.2 <;>
   simp [m5, mBody, startE, mSeq, mAsg, mCall, mCons, mNil, mVar, gN, e, mIfS, mOrT, asB, mBin, mC, dIsO, PL.alt, isN, oD, mRet, mNotT, mTru, ixA, ixSeq, seqD, L2.atI, ixN, prD, a1, a2, b1, b2, dTru, mNext]
theorem bls_map : ∀ cs : List Nat, blsOf (cs.map fun c => D.bl (figB c)) = some (cs.map figB)
 | [] => rfl
 | c :: cs => by simp [blsOf, bls_map cs]
def figD : D → D
 | .str s => .bl (!(Builtin.Str.occurrences FIG s 0 FIG.length 1).isEmpty)
 | d => d
theorem fig_ok (j : Nat) {x : Str} (hx : x.length ≤ 100000) (S : Sto) : WR (lv (j + 1) 7 [.str x] S) fun d T => d = .bl (x.cps.toList.all figB) ∧ Ext S T := by
 show WR (m7 (lv j) [.str x] S) _
 have hl : (x.cps.toList.map fun c => D.str ⟨#[c]⟩).length = x.cps.size := by simp
 have hs : x.length = x.cps.size := rfl
 unfold m7
 and_intros
 refine (lc_map (xs := x.cps.toList.map fun c => D.str ⟨#[c]⟩) (nx := nxS x) (S1 := S) (f := figD) (ev := fun d => [some (.str x), some d]) (by omega) ?_ ?_ ?_ ?_).mono ?_
 ·rw [hl]
  rfl
 ·intro T E i
  simp [nxS]
 ·intro y T hy
  rfl
 ·intro y T hy E
  obtain ⟨c, hc, rfl⟩ := List.mem_map.mp hy
  exact ⟨_, T, rfl, rfl, Ext.refl⟩
 ·rintro d T ⟨rfl, h1, E⟩
  refine ⟨_, T, rfl, ?_⟩
  refine wR_of (d := .bl (x.cps.toList.all figB)) (S' := T) ?_ ⟨_, rfl, rfl, E⟩
  have h2 : List.map figD (List.map (fun c => D.str ⟨#[c]⟩) x.cps.toList) = x.cps.toList.map fun c => D.bl (figB c) := by
   rw [List.map_map]
   rfl
  rw [h2] at h1
  show (seqAt S.length T).bind _ = _
  rw [seqAt_of h1, Option.bind_some, bls_map, Option.bind_some]
  simp [List.all_map]
end K33
end
section
namespace K33
open PySem PySem.Spec PyProof.Rows L2 PL WP
theorem cut_len (x : Str) : (cutS x (some 1) none).length ≤ x.length := by
 show ((x.cps.toList.drop _).take _).toArray.size ≤ x.cps.size
 simp
 omega
theorem figs_len {x : Str} (hx : x.length ≤ 600) : (figs x).length ≤ 600 := by
 unfold figs
 have := cut_len x
 split <;> omega
theorem num_ok (j : Nat) {x : Str} {v : D} (hx : x.length ≤ 600) (S : Sto) (h : numR x = some v) : WR (lv (j + 2) 6 [.str x] S) fun d T => d = v ∧ Ext S T := by
 show WR (m6 (lv (j + 1)) [.str x] S) _
 have hxl := len_ok (x := x) (by omega)
 have hf := figs_len hx
 have hfl := len_ok (x := figs x) (by omega)
 obtain ⟨o, ho, rfl⟩ := Option.map_eq_some_iff.mp h
 unfold m6
 refine wB (wS_then (wS_asg (WE.mono (P := fun d T => d = .str (figs x) ∧ T = S) ?_ ?_)))
 ·refine wE_if (wT_tru ?_)
  refine wE_mt (wE_v (d := .str x) rfl ?_)
  refine ⟨rfl, wA_cons (wE_c (wA_nil (wR_of (d := .bl (Txt.startswith x (Str.ofString "-"))) (S' := S) rfl ⟨_, rfl, fun hk => ?_, fun hk => ?_⟩)))⟩
  ·refine ⟨.str (cutS x (some 1) none), S, ?_, ?_, rfl⟩
   ·simp [mSl, mVar, startE, mPart, mC, mNo, slA, hxl]
   ·unfold figs
    rw [if_pos hk]
  ·refine wE_v (d := .str x) rfl ⟨?_, rfl⟩
   unfold figs
   rw [hk]
   rfl
 rintro d T ⟨rfl, rfl⟩
 refine ⟨rfl, ?_⟩
 -- the checks
 have lenE : ∀ env : PL.Env, env[1]? = some (some (.str (figs x))) → ∀ T, (mBlt gLen (mCons (mVar 1) mNil)) env T = some (.int (figs x).length, T) := fun env h T => by
  simp [mBlt, mCons, mVar, h, mNil, gLen, hfl]
 have chk : ∀ env : PL.Env, env[1]? = some (some (.str (figs x))) → ∀ T, WT (mOrT (mNotT (asB (mChain xLe xLe (mC (.int 1)) (mBlt gLen (mCons (mVar 1) (mNil))) (mC (.int 60))))) (mNotT (mTru (mCall 1 (lv (j + 1) 7) (mCons (mVar 1) (mNil)))))) env T fun b T' => b = numBad x ∧ Ext T T' := fun env he T => by
  have c1 : asB (mChain xLe xLe (mC (.int 1)) (mBlt gLen (mCons (mVar 1) (mNil))) (mC (.int 60))) env T = some (decide (1 ≤ (figs x).length) && decide ((figs x).length ≤ 60), T) := by
   simp only [asB, mChain, mC, lenE env he, Option.bind_some, xLe_i]
   by_cases h1 : 1 ≤ (figs x).length
   ·have h1' : (1 : Int) ≤ ((figs x).length : Int) := by omega
    by_cases h2 : (figs x).length ≤ 60
    ·have h2' : ((figs x).length : Int) ≤ 60 := by omega
     simp [h1, h1', h2, h2']
    ·have h2' : ¬ ((figs x).length : Int) ≤ 60 := by omega
     simp [h1, h1', h2, h2']
   ·have h1' : ¬ (1 : Int) ≤ ((figs x).length : Int) := by omega
    simp [h1, h1']
  refine wT_or (wT_not ⟨_, T, c1, fun hk => ?_, fun hk => ?_⟩)
  ·refine ⟨?_, Ext.refl⟩
   unfold numBad
   rw [hk]
   rfl
  ·refine wT_not (wT_tru (wE_call (wA_cons (wE_v he (wA_nil ⟨rfl, (fig_ok j (by omega) T).mono ?_⟩)))))
   rintro d T' ⟨rfl, E⟩
   refine ⟨_, rfl, ?_, E⟩
   unfold numBad
   rw [hk]
   rfl
 unfold numO at ho
 have vx : (List.set (startE 2 [D.str x]) 1 (some (D.str (figs x))))[0]? = some (some (.str x)) := rfl
 have vf : (List.set (startE 2 [D.str x]) 1 (some (D.str (figs x))))[1]? = some (some (.str (figs x))) := rfl
 refine wS_ifRet ?_
 obtain ⟨b, T1, e1, rfl, E1⟩ := chk _ vf T
 refine ⟨_, T1, e1, fun hk => ?_, fun hk => ?_⟩
 ·rw [if_pos hk] at ho
  cases ho
  exact wE_c ⟨_, rfl, rfl, E1⟩
 rw [if_neg (by rw [hk]; exact Bool.false_ne_true)] at ho
 have hb := hk
 unfold numBad at hb
 simp only [Bool.or_eq_false_iff, Bool.not_eq_false', Bool.and_eq_true, decide_eq_true_eq] at hb
 obtain ⟨⟨l1, l2⟩, _⟩ := hb
 obtain ⟨c, hc⟩ : ∃ c, (figs x).cps.toList[0]? = some c := by
  have : 0 < (figs x).cps.toList.length := by
   rw [Array.length_toList]
   exact l1
  exact ⟨_, List.getElem?_eq_getElem this⟩
 have ix : ixA (.str (figs x)) (.int 0) T1 = some (.str ⟨#[c]⟩, T1) := by
  have hat : L2.atI (figs x).cps.toList 0 = some c := L2.atI_nat (j := 0) hc
  have : ixSeq (.str (figs x)) (.int 0) T1 = some (.str ⟨#[c]⟩, T1) := by
   show (if (figs x).length ≤ sizeLine then _ else _) = _
   rw [if_pos hfl, hat]
   rfl
  unfold ixA
  rw [this]
  rfl
 have z0 : decide ((⟨#[c]⟩ : Str) = Str.ofString "0") = decide ((figs x).cps.toList[0]? = some 48) := by
  have e0 : Str.ofString "0" = ⟨#[48]⟩ := by decide +kernel
  rw [hc, e0]
  by_cases h : c = 48
  ·subst h
   simp
  ·simp [h]
 refine wS_ifRet (wT_and (wT_b ⟨.bl (decide ((figs x).cps.toList[0]? = some 48)), T1, ?_, _, rfl, fun h1 => ?_, fun h1 => ?_⟩))
 ·refine WE.eq (wE_bin (wE_bin (wE_v vf (wE_c (wR_of ix (wE_c (wR_of (d := .bl (decide ((⟨#[c]⟩ : Str) = Str.ofString "0"))) (S' := T1) rfl ⟨?_, rfl⟩)))))))
  rw [z0]
 ·refine wT_b ⟨.bl (!decide (x = Str.ofString "0")), T1, ?_, _, rfl, fun h2 => ?_, fun h2 => ?_⟩
  ·exact WE.eq (wE_bin (wE_v vx (wE_c (wR_of (d := .bl (!decide (x = Str.ofString "0"))) (S' := T1) rfl ⟨rfl, rfl⟩))))
  ·rw [if_pos (by rw [h1, h2]; rfl)] at ho
   cases ho
   exact wE_c ⟨_, rfl, rfl, E1⟩
  ·rw [if_neg (by rw [h2]; simp)] at ho
   obtain ⟨i, hi, rfl⟩ := Option.map_eq_some_iff.mp ho
   have hx6 : x.length ≤ 640 := by omega
   have gi : (gOr gInt gIntS) [.str x] T1 = some (.int i, T1) := by simp [gOr, gInt, gIntS, hi, hx6]
   refine wS_ret (wE_blt (wA_cons (wE_v vx (wA_nil (wR_of gi ?_)))))
   exact ⟨_, rfl, rfl, E1⟩
 ·rw [if_neg (by rw [h1]; simp)] at ho
  obtain ⟨i, hi, rfl⟩ := Option.map_eq_some_iff.mp ho
  have hx6 : x.length ≤ 640 := by omega
  have gi : (gOr gInt gIntS) [.str x] T1 = some (.int i, T1) := by simp [gOr, gInt, gIntS, hi, hx6]
  refine ⟨(fun z => by cases z), fun _ => ?_⟩
  refine wS_ret (wE_blt (wA_cons (wE_v vx (wA_nil (wR_of gi ?_)))))
  exact ⟨_, rfl, rfl, E1⟩
theorem where_ok (j : Nat) {x : Str} {v : D} (hx : x.length ≤ 100000) (S : Sto) (h : whereR x = some v) : WR (lv (j + 3) 12 [.str x] S) fun d T => d = v ∧ Ext S T := by
 cases h
 show WR (m12 (lv (j + 2)) [.str x] S) _
 obtain ⟨T, e⟩ := pair_ok j (x := x) (w := Str.ofString ":") (c := 58) (by decide +kernel) hx S
 refine ⟨_, S ++ T, ?_, rfl, Ext.new⟩
 unfold whereO
 cases hp : pairO 58 x with
 | none =>
  rw [hp] at e
  simp [m12, mBody, startE, mSeq, mAsg, mCall, mCons, mNil, mVar, mC, gN, e, mRet, mIf, mOrT, asB, mBin, dIsO, PL.alt, isN, oD]
 | some p =>
  rw [hp] at e
  have hi : ∀ T', inA not (.str p.1) (.tup [.str (Str.ofString "at"), .str (Str.ofString "with")]) T' = some (.bl (!isAt p.1), T') := fun T' => by
   have : inSeq not (.str p.1) (.tup [.str (Str.ofString "at"), .str (Str.ofString "with")]) T' = some (.bl (!isAt p.1), T') := by
    simp only [inSeq, flatD, flatDs, seqD, Option.bind_some, Option.map_some]
    simp only [L2.inV, List.any_cons, List.any_nil, L2.eqV, isAt, Bool.or_false]
    have e1 : ∀ y : Str, (y == p.1) = decide (p.1 = y) := fun y => by
     show decide (y = p.1) = _
     exact decide_eq_decide.mpr eq_comm
    rw [e1, e1]
   unfold inA
   rw [this]
   rfl
  have hz : 2 ≤ sizeLine := by decide
  cases ha : isAt p.1 <;> rw [ha] at hi <;>
   simp [m12, mBody, startE, mSeq, mAsg, mCall, mCons, mNil, mVar, mC, gN, e, mRet, mIf, mOrT, asB, mBin, dIsO, PL.alt, isN, oD, prD, mOrTT, ixA, ixSeq, seqD, L2.atI, ixN, mTup, hz, hi, ha]
theorem choice_ok (j : Nat) {x : Str} {v : D} (hx : x.length ≤ 100000) (S : Sto) (h : pairR 46 x = some v) : WR (lv (j + 3) 16 [.str x] S) fun d T => d = v ∧ Ext S T := by
 cases h
 show WR (m16 (lv (j + 2)) [.str x] S) _
 obtain ⟨T, e⟩ := pair_ok j (x := x) (w := Str.ofString ".") (c := 46) (by decide +kernel) hx S
 refine ⟨_, S ++ T, ?_, rfl, Ext.new⟩
 simp [m16, mBody, startE, mCall, mCons, mNil, mVar, mC, e, mRet]
theorem seen_ok (j : Nat) {x : Str} {v : D} (hx : x.length ≤ 600) (S : Sto) (h : seenR x = some v) : WR (lv (j + 3) 14 [.str x] S) fun d T => d = v ∧ Ext S T := by
 show WR (m14 (lv (j + 2)) [.str x] S) _
 obtain ⟨o, ho, rfl⟩ := Option.map_eq_some_iff.mp h
 have e := halves_ok (j + 1) (x := x) (w := Str.ofString ":") (c := 58) (by decide +kernel) (by omega) S
 unfold seenO at ho
 unfold m14
 refine wB (wS_then (wS_asg (wE_call (wA_cons (wE_v rfl (wA_cons (wE_c (wA_nil ⟨rfl, wR_of e ?_⟩))))))))
 refine ⟨rfl, wS_ifRet ?_⟩
 cases hp : hlv 58 x with
 | none =>
  rw [hp] at ho
  cases ho
  refine wT_or (wT_b (wE_bin (wE_v rfl (wE_c (wR_of (d := .bl true) rfl ⟨_, rfl, fun _ => ⟨fun _ => ?_, fun z => by cases z⟩, fun z => by cases z⟩)))))
  exact wE_c ⟨_, rfl, rfl, Ext.new⟩
 | some p =>
  rw [hp] at ho
  dsimp only at ho
  have hl : p.1.length ≤ 600 ∧ p.2.length ≤ 600 := by
   unfold hlv at hp
   split at hp
   case h_2 => cases hp
   rename_i a b ee
   cases hp
   have m1 := spL_mem 58 (cp x) a (by rw [ee]; simp)
   have m2 := spL_mem 58 (cp x) b (by rw [ee]; simp)
   have h2 := len_cp x
   have h3 := len_cp (sOf a)
   have h4 := len_cp (sOf b)
   rw [cp_sOf] at h3 h4
   dsimp only
   omega
  generalize hS1 : S ++ [Ob.lst ((spL 58 (cp x)).map fun l => .str (sOf l))] = S1
  have EX : Ext S S1 := ⟨_, hS1.symm⟩
  have i0 : ∀ T', ixA (.tup [.str p.1, .str p.2]) (.int 0) T' = some (.str p.1, T') := fun T' => by simp [ixA, ixSeq, seqD, L2.atI, ixN]
  have i1 : ∀ T', ixA (.tup [.str p.1, .str p.2]) (.int 1) T' = some (.str p.2, T') := fun T' => by simp [ixA, ixSeq, seqD, L2.atI, ixN]
  have w0 := fun T' => isW_ok (j + 1) (x := p.1) (by omega) T'
  refine wT_or (wT_b (wE_bin (wE_v rfl (wE_c (wR_of (d := .bl false) (S' := S1) rfl ⟨_, rfl, (fun z => by cases z), fun _ => ?_⟩)))))
  refine wT_not (wT_tru (wE_call (wA_cons (wE_bin (wE_v rfl (wE_c (wR_of (i0 S1) (wA_nil ⟨rfl, wR_of (w0 S1) ⟨_, rfl, fun hk => ?_, fun hk => ?_⟩⟩))))))))
  ·rw [if_neg (by intro z; rw [z] at hk; cases hk)] at ho
   cases ho
   exact wE_c ⟨_, rfl, rfl, EX⟩
  ·have hk' : isW p.1 = true := by
    cases hz : isW p.1 with
    | true => rfl
    | false => rw [hz] at hk; cases hk
   rw [if_pos hk'] at ho
   obtain ⟨o2, hn, rfl⟩ := Option.map_eq_some_iff.mp ho
   have hnum := fun T' => num_ok j (x := p.2) (v := oD D.int o2) (by omega) T' (by unfold numR; rw [hn]; rfl)
   refine wS_then (wS_asg (wE_call (wA_cons (wE_bin (wE_v rfl (wE_c (wR_of (i1 S1) (wA_nil ⟨rfl, (hnum S1).mono ?_⟩))))))))
   rintro d T ⟨rfl, E⟩
   refine ⟨rfl, wS_ret (wE_if ?_)⟩
   cases o2 with
   | none => exact wT_b (wE_bin (wE_v rfl (wE_c (wR_of (d := .bl true) (S' := T) rfl ⟨_, rfl, (fun _ => wE_c ⟨_, rfl, rfl, EX.trans E⟩), fun z => by cases z⟩))))
   | some i =>
    refine wT_b (wE_bin (wE_v rfl (wE_c (wR_of (d := .bl false) (S' := T) rfl ⟨_, rfl, (fun z => by cases z), fun _ => ?_⟩))))
    refine wE_tup (wA_cons (wE_bin (wE_v rfl (wE_c (wR_of (i0 T) (wA_cons (wE_v rfl (wA_nil ?_))))))))
    exact ⟨WP.sz (by simp), _, rfl, rfl, EX.trans E⟩
end K33
end
section
namespace K33
open PySem PySem.Spec PyProof.Rows L2 PL WP
theorem optM_some {f : Str → Option D} : ∀ {xs : List Str} {vs : List D}, optM f xs = some vs → vs = xs.map (fun s => (f s).getD .non) ∧ ∀ x ∈ xs, ∃ v, f x = some v
 | [], vs, h => by
  cases h
  exact ⟨rfl, fun x hx => by cases hx⟩
 | x :: xs, vs, h => by
  obtain ⟨d, e1, h⟩ := Option.bind_eq_some_iff.mp h
  obtain ⟨ds, e2, rfl⟩ := Option.map_eq_some_iff.mp h
  obtain ⟨rfl, h2⟩ := optM_some e2
  refine ⟨by rw [List.map_cons, e1]; rfl, fun y hy => ?_⟩
  rcases List.mem_cons.mp hy with rfl | hy
  ·exact ⟨d, e1⟩
  ·exact h2 y hy
theorem none_in {vs : List D} {b : Bool} {T : Sto} {n : Nat} {env : PL.Env} (hn : T[n]? = some (.lst vs)) (hv : env[2]? = some (some (.ref n))) (h : nIn vs = some b) :
  mOrTT (asB (mBin (inA id) (mC .non) (mVar 2))) (asB (mBin (inP false) (mC .non) (mVar 2))) env T = some (b, T) := by
 have A : mBin (inA id) (mC .non) (mVar 2) env T = inA id .non (.ref n) T := by simp [mBin, mC, mVar, hv]
 have B : mBin (inP false) (mC .non) (mVar 2) env T = inP false .non (.ref n) T := by simp [mBin, mC, mVar, hv]
 unfold nIn at h
 unfold mOrTT
 cases hf : flatDs vs with
 | some ws =>
  rw [hf] at h
  have e : inA id .non (.ref n) T = some (.bl (inV .non ws), T) := by
   have : inSeq id .non (.ref n) T = some (.bl (inV .non ws), T) := by
    simp only [inSeq, flatD, seqD, Option.bind_some]
    rw [seqAt_of hn, Option.bind_some, hf]
    rfl
   unfold inA
   rw [this]
   rfl
  cases h
  unfold asB
  rw [A, e]
  rfl
 | none =>
  rw [hf] at h
  have e : inA id .non (.ref n) T = none := by
   have : inSeq id .non (.ref n) T = none := by
    simp only [inSeq, flatD, seqD, Option.bind_some]
    rw [seqAt_of hn, Option.bind_some, hf]
    rfl
   unfold inA
   rw [this]
   simp [inD, dictAt, hn, ssB]
  have hA : asB (mBin (inA id) (mC .non) (mVar 2)) env T = none := by
   unfold asB
   rw [A, e]
   rfl
  rw [hA]
  show asB (mBin (inP false) (mC .non) (mVar 2)) env T = _
  unfold asB
  rw [B]
  obtain ⟨ps, e1, h⟩ := Option.bind_eq_some_iff.mp (show (pyDs vs).bind _ = some b from h)
  split at h
  case isFalse => cases h
  rename_i hc
  cases h
  have : inP false .non (.ref n) T = some (.bl (ps.any fun y => PyData.eqv y .none), T) := by
   simp only [inP, pyD, pyT, Option.bind_some]
   rw [seqAt_of hn, Option.bind_some, e1]
   have hl : (PyData.canLayAll0 ps && PyData.canLay0 .none && decide (PyData.depth .none ≤ 40)) = true := by
    rw [hc]
    rfl
   show (if _ then _ else _) = _
   rw [if_pos hl]
   rfl
  rw [this]
  rfl
def getF (f : Str → Option D) : D → D
 | .str s => (f s).getD .non
 | d => d
theorem unl_ok (J : Nat) {i : Nat} {nm : Str} {f : Str → Option D} (hfs : fsV nm = some (i, 1)) (hr : ∀ (x : Str) (v : D) (S : Sto), x.length ≤ 600 → f x = some v → WR (lv J i [.str x] S) fun d T => d = v ∧ Ext S T)
  {w : Str} {v : D} (hw : w.length ≤ 600) (h : unl f w = some v) (S : Sto) : WR (lv (J + 1) 2 [.str w, .fn nm] S) fun d T => d = v ∧ Ext S T := by
 show WR (m2 (lv J) [.str w, .fn nm] S) _
 unfold unl at h
 unfold m2
 refine wB (wS_ifRet (wT_b (wE_bin (wE_v rfl (wE_c (wR_of (d := .bl (decide (w = dash))) (S' := S) rfl ⟨_, rfl, fun hk => ?_, fun hk => ?_⟩))))))
 ·rw [if_pos (of_decide_eq_true hk)] at h
  cases h
  refine wE_tup (wA_nil ?_)
  exact ⟨WP.sz (by simp), _, rfl, rfl, Ext.refl⟩
 ·rw [if_neg (of_decide_eq_false hk)] at h
  obtain ⟨vs, e1, h⟩ := Option.bind_eq_some_iff.mp h
  obtain ⟨b, e2, rfl⟩ := Option.map_eq_some_iff.mp h
  obtain ⟨rfl, hall⟩ := optM_some e1
  have sp := split_ok (s := w) (c := 44) (w := Str.ofString ",") (by decide +kernel) (by omega) S
  have hz := spL_len 44 (cp w)
  have hc := len_cp w
  generalize hS1 : S ++ [Ob.lst ((spL 44 (cp w)).map fun l => .str (sOf l))] = S1 at sp
  have E1 : Ext S S1 := ⟨_, hS1.symm⟩
  have at1 : S1[S.length]? = some (.lst ((spL 44 (cp w)).map fun l => .str (sOf l))) := by
   rw [← hS1]
   simp
  have hit : mItr (mMt "str" gSplit (mVar 0) (mCons (mC (.str (Str.ofString ","))) (mNil))) (startE 4 [.str w, .fn nm]) S = some ((((spL 44 (cp w)).map fun l => D.str (sOf l)).length + 1, nxL S.length), S1) := by
   refine itr_ref ?_ at1
   exact WE.eq (wE_mt (wE_v rfl ⟨rfl, wA_cons (wE_c (wA_nil (wR_of sp ⟨rfl, rfl⟩)))⟩))
  refine wS_then (wS_asg (WE.mono (lc_map (f := getF f) (ev := fun d => [some (.str w), some (.fn nm), none, some d]) (by rw [List.length_map]; omega) hit (fun T E i => nxL_any at1 E i) (fun x T hx => rfl) ?_) ?_))
  ·intro x T hx E
   obtain ⟨l, hl, rfl⟩ := List.mem_map.mp hx
   have hm := spL_mem 44 (cp w) l hl
   have hlen := len_cp (sOf l)
   rw [cp_sOf] at hlen
   obtain ⟨v, hv⟩ := hall (sOf l) (List.mem_map.mpr ⟨l, hl, rfl⟩)
   obtain ⟨d, T2, e3, rfl, E2⟩ := hr (sOf l) v T (by omega) hv
   refine ⟨d, T2, ?_, ?_, E2⟩
   ·unfold mCallV
    simp only [List.getElem?_cons_succ, List.getElem?_cons_zero, hfs]
    simp [mCons, mNil, mVar, e3]
   ·show d = (f (sOf l)).getD .non
    rw [hv]
    rfl
  ·rintro d T ⟨rfl, hT, E⟩
   have hmap : ((spL 44 (cp w)).map fun l => D.str (sOf l)).map (getF f) = ((spL 44 (cp w)).map sOf).map fun s => (f s).getD .non := by
    rw [List.map_map, List.map_map]
    rfl
   rw [hmap] at hT
   refine ⟨rfl, wS_ret (wE_if ?_)⟩
   refine ⟨b, T, none_in hT rfl e2, fun hk => ?_, fun hk => ?_⟩
   ·rw [if_pos hk]
    exact wE_c ⟨_, rfl, rfl, E1.trans E⟩
   ·rw [if_neg (by rw [hk]; exact Bool.false_ne_true)]
    refine wE_blt (wA_cons (wE_v rfl (wA_nil (wR_of (seq_tup hT) ?_))))
    exact ⟨_, rfl, rfl, E1.trans E⟩
def rds : List (Str × Nat) := [(Str.ofString "word_read", 4), (Str.ofString "_stack_read", 9), (Str.ofString "_numbers_read", 10), (Str.ofString "_wheres_read", 11), (Str.ofString "_seen_read", 13), (Str.ofString "_made_read", 15), (Str.ofString "number_read", 6)]
theorem wrap {J : Nat} {w : Str} {nm : Str} {v : D} {S : Sto} (h : WR (lv (J + 1) 2 [.str w, .fn nm] S) fun d T => d = v ∧ Ext S T) :
  WR (mBody 1 (mRet (mCall 2 (lv (J + 1) 2) (mCons (mVar 0) (mCons (mC (.fn nm)) (mNil))))) [.str w] S) fun d T => d = v ∧ Ext S T := by
 obtain ⟨d, T, e, q⟩ := h
 refine wB (wS_ret (wE_call (wA_cons (wE_v rfl (wA_cons (wE_c (wA_nil ⟨rfl, wR_of e ?_⟩)))))))
 exact ⟨_, rfl, q⟩
theorem read_ok (j : Nat) {k : Nat} (hk : k < 7) {w : Str} {v : D} (hw : w.length ≤ 600) (h : rd k w = some v) (S : Sto) : WR (lv (j + 5) ((rds.map (·.2))[k]!) [.str w] S) fun d T => d = v ∧ Ext S T := by
 match k, hk, h with
 | 0, _, h => exact word_ok (j + 3) (by omega) S h
 | 1, _, h =>
  obtain ⟨u, e, rfl⟩ := Option.map_eq_some_iff.mp (show (unl wordR w).map cap3 = _ from h)
  obtain ⟨d, T, e1, rfl, E⟩ := unl_ok (j + 3) (nm := Str.ofString "word_read") (by decide +kernel) (fun x v S hx hv => word_ok (j + 1) (by omega) S hv) hw e S
  show WR (m9 (lv (j + 4)) [.str w] S) _
  unfold m9
  refine wB (wS_then (wS_asg (wE_call (wA_cons (wE_v rfl (wA_cons (wE_c (wA_nil ⟨rfl, wR_of e1 ?_⟩))))))))
  refine ⟨rfl, wS_ret (wE_if ?_)⟩
  have hd : d = .non ∨ ∃ xs, d = .tup xs := by
   unfold unl at e
   split at e
   ·cases e
    exact .inr ⟨_, rfl⟩
   ·obtain ⟨vs, _, e⟩ := Option.bind_eq_some_iff.mp e
    obtain ⟨b, _, rfl⟩ := Option.map_eq_some_iff.mp e
    split
    ·exact .inl rfl
    ·exact .inr ⟨_, rfl⟩
  rcases hd with rfl | ⟨xs, rfl⟩
  ·refine wT_or (wT_b (wE_bin (wE_v rfl (wE_c (wR_of (d := .bl true) (S' := T) rfl ⟨_, rfl, fun _ => ⟨fun _ => ?_, fun z => by cases z⟩, fun z => by cases z⟩)))))
   exact wE_c ⟨_, rfl, rfl, E⟩
  ·refine wT_or (wT_b (wE_bin (wE_v rfl (wE_c (wR_of (d := .bl false) (S' := T) rfl ⟨_, rfl, (fun z => by cases z), fun _ => ?_⟩)))))
   refine wT_b (wE_bin (wE_blt (wA_cons (wE_v rfl (wA_nil (wR_of (d := .int xs.length) (S' := T) rfl (wE_c (wR_of (d := .bl (decide ((xs.length : Int) > 3))) (S' := T) (xGt_i _ _ _) ⟨_, rfl, fun hz => ?_, fun hz => ?_⟩))))))))
   ·have h3 := of_decide_eq_true hz
    refine wE_c ⟨_, rfl, ?_, E⟩
    show D.non = (if 3 < xs.length then D.non else D.tup xs)
    rw [if_pos (by omega)]
   ·have h3 := of_decide_eq_false hz
    refine wE_v rfl ⟨_, rfl, ?_, E⟩
    show D.tup xs = (if 3 < xs.length then D.non else D.tup xs)
    rw [if_neg (by omega)]
 | 2, _, h => exact wrap (unl_ok (j + 3) (by decide +kernel) (fun x v S hx hv => num_ok (j + 1) hx S hv) hw h S)
 | 3, _, h => exact wrap (unl_ok (j + 3) (by decide +kernel) (fun x v S hx hv => where_ok j (by omega) S hv) hw h S)
 | 4, _, h => exact wrap (unl_ok (j + 3) (by decide +kernel) (fun x v S hx hv => seen_ok j hx S hv) hw h S)
 | 5, _, h => exact wrap (unl_ok (j + 3) (by decide +kernel) (fun x v S hx hv => choice_ok j (by omega) S hv) hw h S)
 | 6, _, h => exact num_ok (j + 3) hw S h
 | k + 7, hk, h => exact absurd hk (by omega)
end K33
end
section
namespace K33
open PySem PySem.Spec PyProof.Rows L2 PL WP
section
variable {env : PL.Env} {S : Sto} {Q : D → Sto → Prop} {QS : Flw → PL.Env → Sto → Prop}
theorem wE_saidV {told : Str} {hd : Str → List Str → List D → Sto → Option (D × Sto)} {m : ME} (h : WE m env S fun d T => isX d = false ∧ Q (.tup [.str told, d]) T) : WE (mSaid told hd m) env S Q := by
 obtain ⟨d, T, e1, hx, q⟩ := h
 refine ⟨_, T, ?_, q⟩
 unfold mSaid
 rw [e1, Option.bind_some]
 cases d <;> first | rfl | cases hx
theorem wE_saidX {told : Str} {hd : Str → List Str → List D → Sto → Option (D × Sto)} {m : ME} (h : WE m env S fun d T => ∃ a dx c ns xs x U, d = .exc a dx c ns xs ∧ hd c ns xs T = some (x, U) ∧ Q x U) : WE (mSaid told hd m) env S Q := by
 obtain ⟨d, T, e1, a, dx, c, ns, xs, x, U, rfl, hx, q⟩ := h
 refine ⟨x, U, ?_, q⟩
 unfold mSaid
 rw [e1, Option.bind_some]
 exact hx
theorem wS_nx {a : MS} (h : WS a env S fun f e1 S1 => f = .nx ∧ QS .nx e1 S1) : WS (mNx a) env S QS := by
 obtain ⟨f, e1, S1, h1, rfl, q⟩ := h
 refine ⟨.nx, e1, S1, ?_, q⟩
 unfold mNx
 rw [h1, Option.bind_some]
 rfl
theorem wS_raise {c : Str} {ns : List Str} {a : MA} (h : WA a env S fun ds T => ds.length = 2 ∧ QS (.rt (.exc 0 0 c ns ds.reverse)) env T) : WS (mRaise c ns a) env S QS := by
 obtain ⟨ds, T, h1, hl, q⟩ := h
 refine ⟨_, env, T, ?_, q⟩
 unfold mRaise
 rw [h1, Option.bind_some]
 dsimp only
 rw [if_pos hl]
theorem wE_noX {m : ME} (h : WE m env S fun d T => isX d = false ∧ Q d T) : WE (mNoX m) env S Q := by
 obtain ⟨d, T, h1, hx, q⟩ := h
 refine ⟨d, T, ?_, q⟩
 unfold mNoX
 rw [h1, Option.bind_some]
 dsimp only
 rw [if_neg (by rw [hx]; exact Bool.false_ne_true)]
theorem dIs_list {T : Sto} {n : Nat} {acc : List D} (h : T[n]? = some (.lst acc)) : dIs "list" (.ref n) T = true := by
 simp [dIs, h]
theorem app_okL {T : Sto} {n : Nat} {acc : List D} {x : D} (h : T[n]? = some (.lst acc)) (hl : acc.length < 1000000) : gAppend (.ref n) [x] T = some (.non, T.set n (.lst (acc ++ [x]))) := by
 have : acc.length < sizeLine := Nat.lt_of_lt_of_le hl (by decide)
 simp [gAppend, h, this]
theorem forStop {nx : Nxt} {g : MG} {b : MS} {n : Nat} {I : Nat → PL.Env → Sto → Prop}
  (step : ∀ i env S, i < n → I i env S → ∃ d env1 S1, nx i S = some (some d) ∧ g d env S = some (env1, S1) ∧ WS b env1 S1 fun f e' S' => f = .nx ∧ I (i + 1) e' S')
  (last : ∀ env S, I n env S → ∃ d env1 S1, nx n S = some (some d) ∧ g d env S = some (env1, S1) ∧ WS b env1 S1 fun f e' S' => ∃ r, f = .rt r ∧ QS (.rt r) e' S') :
  ∀ (t i : Nat) (env : PL.Env) (S : Sto) (k : Nat), n = i + t → t < k → I i env S → WS (mForL nx g b k i) env S QS := by
 intro t
 induction t with
 | zero =>
  intro i env S k hi hk h
  have hi' : i = n := by omega
  subst hi'
  obtain ⟨d, env1, S1, e1, e2, f, e', S', e3, r, rfl, q⟩ := last env S h
  obtain ⟨k, rfl⟩ : ∃ k', k = k' + 1 := ⟨k - 1, by omega⟩
  refine ⟨.rt r, e', S', ?_, q⟩
  unfold mForL
  rw [e1, Option.bind_some]
  dsimp only
  rw [e2, Option.bind_some]
  dsimp only
  rw [e3, Option.bind_some]
 | succ t ih =>
  intro i env S k hi hk h
  obtain ⟨d, env1, S1, e1, e2, f, e', S', e3, rfl, h'⟩ := step i env S (by omega) h
  obtain ⟨k, rfl⟩ : ∃ k', k = k' + 1 := ⟨k - 1, by omega⟩
  obtain ⟨f2, e2', S2, e4, q⟩ := ih (i + 1) e' S' k (by omega) (by omega) h'
  refine ⟨f2, e2', S2, ?_, q⟩
  unfold mForL
  rw [e1, Option.bind_some]
  dsimp only
  rw [e2, Option.bind_some]
  dsimp only
  rw [e3, Option.bind_some]
  exact e4
end
def readsL : List D := rds.map fun p => .fn p.1
structure Told (ws : List Str) (vals : Nat → D) (K : Nat) : Prop where
 get : ∀ i, i < K → ∃ w, ws[i]? = some w ∧ rd i w = some (vals i)
 plain : ∀ i, i < K → ∀ T, dIsO (vals i) .non T = some (.bl false, T)
def env26 (W n : Nat) (a b c : Option D) : PL.Env := [some (.int 0), some (.ref W), some (.int 0), some (.tup readsL), some (.ref n), a, b, c]
def exK (k : Nat) : D := .exc 0 0 (Str.ofString "NoText") [Str.ofString "word", Str.ofString "line"] [.int k, .int 0]
section
variable {ws : List Str} {vals : Nat → D} {K W : Nat} {S0 : Sto}
theorem fs_reads {i : Nat} (hi : i < 7) : ∃ nm, readsL[i]? = some (.fn nm) ∧ fsV nm = some ((rds.map (·.2))[i]!, 1) := by
 match i, hi with
 | 0, _ => exact ⟨_, rfl, by decide +kernel⟩
 | 1, _ => exact ⟨_, rfl, by decide +kernel⟩
 | 2, _ => exact ⟨_, rfl, by decide +kernel⟩
 | 3, _ => exact ⟨_, rfl, by decide +kernel⟩
 | 4, _ => exact ⟨_, rfl, by decide +kernel⟩
 | 5, _ => exact ⟨_, rfl, by decide +kernel⟩
 | 6, _ => exact ⟨_, rfl, by decide +kernel⟩
 | i + 7, h => exact absurd h (by omega)
def I26 (W : Nat) (vals : Nat → D) (S0 : Sto) (i : Nat) (env : PL.Env) (T : Sto) : Prop := (∃ a b c, env = env26 W S0.length a b c) ∧ T[S0.length]? = some (.lst ((List.range i).map vals)) ∧ Ext S0 T
def mPlace : ME := mBin dAdd (mVar 2) (mBlt gLen (mCons (mVar 4) (mNil)))
def mValue (C : Nat → MF) : ME := mIf (asB (mBin xLt (mVar 6) (mBlt gLen (mCons (mVar 1) (mNil))))) (mCallV 5 fsV C (mCons (mBin ixA (mVar 1) (mVar 6)) (mNil))) (mC .non)
theorem place_ok {i : Nat} {T : Sto} {a b c : Option D} (hT : T[S0.length]? = some (.lst ((List.range i).map vals))) : mPlace (env26 W S0.length a b c) T = some (.int i, T) := by
 have gl : gLen [.ref S0.length] T = some (.int i, T) := by
  simp [gLen, seqD, seqAt, hT]
 unfold mPlace
 exact WE.eq (wE_bin (wE_v rfl (wE_blt (wA_cons (wE_v rfl (wA_nil (wR_of gl (wR_of (d := .int (0 + (i : Int))) (S' := T) rfl ⟨by simp, rfl⟩))))))))
theorem len_w {T : Sto} (hW : T[W]? = some (.lst (ws.map D.str))) : gLen [.ref W] T = some (.int ws.length, T) := by
 simp [gLen, seqD, seqAt, hW]
theorem value_some (j : Nat) {i : Nat} (hi : i < 7) {T : Sto} {w : Str} {v : D} {nm : Str} {c : Option D} {n : Nat} (hW : T[W]? = some (.lst (ws.map D.str))) (hnm : fsV nm = some ((rds.map (·.2))[i]!, 1)) (hw : ws[i]? = some w) (hl : w.length ≤ 600) (h : rd i w = some v) :
  WE (mValue (lv (j + 5))) (env26 W n (some (.fn nm)) (some (.int i)) c) T fun d T' => d = v ∧ Ext T T' := by
 have hlt := (List.getElem?_eq_some_iff.mp hw).1
 have hx : ixA (.ref W) (.int i) T = some (.str w, T) := ix_nat (xs := ws.map D.str) (seqAt_of hW) (by rw [List.getElem?_map, hw]; rfl)
 obtain ⟨d, T', e, rfl, E⟩ := read_ok j hi hl h T
 refine wE_if (wT_b (wE_bin (wE_v rfl (wE_blt (wA_cons (wE_v rfl (wA_nil (wR_of (len_w hW) (wR_of (xLt_i _ _ _) ⟨_, rfl, fun _ => ?_, fun z => ?_⟩)))))))))
 ·have hc : WA (mCons (mBin ixA (mVar 1) (mVar 6)) mNil) (env26 W n (some (.fn nm)) (some (.int i)) c) T fun ds T1 => ds = [.str w] ∧ T1 = T :=
   wA_cons (wE_bin (wE_v rfl (wE_v rfl (wR_of hx (wA_nil ⟨rfl, rfl⟩)))))
  obtain ⟨ds, T1, ec, rfl, rfl⟩ := hc
  refine ⟨d, T', ?_, rfl, E⟩
  unfold mCallV
  simp only [env26, List.getElem?_cons_succ, List.getElem?_cons_zero, hnm]
  simp only [env26] at ec
  rw [ec, Option.bind_some]
  exact e
 ·exact absurd (of_decide_eq_false z) (by omega)
theorem value_none (C : Nat → MF) {i : Nat} {T : Sto} {a c : Option D} {n : Nat} (hW : T[W]? = some (.lst (ws.map D.str))) (hl : ws.length ≤ i) :
  WE (mValue C) (env26 W n a (some (.int i)) c) T fun d T' => d = .non ∧ Ext T T' := by
 refine wE_if (wT_b (wE_bin (wE_v rfl (wE_blt (wA_cons (wE_v rfl (wA_nil (wR_of (len_w hW) (wR_of (xLt_i _ _ _) ⟨_, rfl, fun z => ?_, fun _ => ?_⟩)))))))))
 ·exact absurd (of_decide_eq_true z) (by omega)
 ·exact wE_c ⟨rfl, Ext.refl⟩
theorem lap26 (j : Nat) (hl : ∀ w ∈ ws, w.length ≤ 600) (hW : S0[W]? = some (.lst (ws.map D.str))) (t : Told ws vals K) (hK : K ≤ 7) : ∀ i env S, i < K → I26 W vals S0 i env S → ∃ d env1 S1, nxT readsL i S = some (some d) ∧ gN 5 d env S = some (env1, S1) ∧
  WS (mSeq (mNx (mAsg mPlace (gN 6))) (mSeq (mNx (mAsg (mValue (lv (j + 5))) (gN 7))) (mSeq (mIfS (asB (mBin dIsO (mVar 7) (mC .non))) (mRaise (Str.ofString "NoText") [(Str.ofString "word"), (Str.ofString "line")] (mCons (mVar 0) (mCons (mVar 6) (mNil)))) mNext) (mSeq (mNx (mDrop (mMt "list" gAppend (mVar 4) (mCons (mVar 7) (mNil))))) mNext)))) env1 S1 fun f e' S' => f = .nx ∧ I26 W vals S0 (i + 1) e' S' := by
 intro i env S hi h
 obtain ⟨⟨a, b, c, rfl⟩, hT, E⟩ := h
 obtain ⟨nm, h1, h2⟩ := fs_reads (i := i) (by omega)
 obtain ⟨w, hw, hr⟩ := t.get i hi
 refine ⟨.fn nm, env26 W S0.length (some (.fn nm)) b c, S, by unfold nxT; rw [h1], rfl, ?_⟩
 refine wS_then (wS_nx (wS_asg ⟨_, _, place_ok hT, rfl, rfl, ?_⟩))
 refine wS_then (wS_nx (wS_asg ((value_some j (by omega) (E.keep hW) h2 hw (hl w (List.mem_of_getElem? hw)) hr).mono ?_)))
 rintro d T ⟨rfl, E2⟩
 refine ⟨rfl, rfl, wS_then (wS_if (wT_b (wE_bin (wE_v rfl (wE_c (wR_of (t.plain i hi T) ⟨_, rfl, (fun z => by cases z), fun _ => wS_next ⟨rfl, ?_⟩⟩))))))⟩
 have hT2 := E2.keep hT
 have hz : ((List.range i).map vals).length < 1000000 := by
  rw [List.length_map, List.length_range]
  omega
 refine wS_then (wS_nx (wS_drop (wE_mt (wE_v (d := .ref S0.length) rfl ⟨dIs_list hT2, wA_cons (wE_v rfl (wA_nil (wR_of (app_okL hT2 hz) ⟨rfl, rfl, ?_⟩)))⟩))))
 refine wS_next ⟨rfl, ⟨_, _, _, rfl⟩, ?_, (E.trans E2).set (Nat.le_refl _)⟩
 rw [List.getElem?_set_self (List.getElem?_eq_some_iff.mp hT2).1, List.range_succ, List.map_append]
 rfl
theorem stop26 (j : Nat) (hW : S0[W]? = some (.lst (ws.map D.str))) (hK : K < 7) (hb : ws.length ≤ K ∨ ∃ w, ws[K]? = some w ∧ w.length ≤ 600 ∧ rd K w = some .non) : ∀ env S, I26 W vals S0 K env S → ∃ d env1 S1, nxT readsL K S = some (some d) ∧ gN 5 d env S = some (env1, S1) ∧
  WS (mSeq (mNx (mAsg mPlace (gN 6))) (mSeq (mNx (mAsg (mValue (lv (j + 5))) (gN 7))) (mSeq (mIfS (asB (mBin dIsO (mVar 7) (mC .non))) (mRaise (Str.ofString "NoText") [(Str.ofString "word"), (Str.ofString "line")] (mCons (mVar 0) (mCons (mVar 6) (mNil)))) mNext) (mSeq (mNx (mDrop (mMt "list" gAppend (mVar 4) (mCons (mVar 7) (mNil))))) mNext)))) env1 S1 fun f e' S' => ∃ r, f = .rt r ∧ (r = exK K ∧ Ext S0 S') := by
 intro env S h
 obtain ⟨⟨a, b, c, rfl⟩, hT, E⟩ := h
 obtain ⟨nm, h1, h2⟩ := fs_reads hK
 refine ⟨.fn nm, env26 W S0.length (some (.fn nm)) b c, S, by unfold nxT; rw [h1], rfl, ?_⟩
 refine wS_then (wS_nx (wS_asg ⟨_, _, place_ok hT, rfl, rfl, ?_⟩))
 have hv : WE (mValue (lv (j + 5))) (env26 W S0.length (some (.fn nm)) (some (.int K)) c) S fun d T' => d = .non ∧ Ext S T' := by
  rcases hb with hb | ⟨w, hw, hl, hr⟩
  ·exact value_none _ (E.keep hW) hb
  ·exact value_some j hK (E.keep hW) h2 hw hl hr
 refine wS_then (wS_nx (wS_asg (hv.mono ?_)))
 rintro d T ⟨rfl, E2⟩
 refine ⟨rfl, rfl, wS_seq ?_⟩
 refine wS_if (wT_b (wE_bin (wE_v rfl (wE_c (wR_of (d := .bl true) (S' := T) rfl ⟨_, rfl, (fun _ => ?_), fun z => by cases z⟩)))))
 exact wS_raise (wA_cons (wE_v rfl (wA_cons (wE_v rfl (wA_nil ⟨rfl, .inr ⟨(fun z => nomatch z), _, rfl, rfl, E.trans E2⟩⟩)))))
end
end K33
end
section
namespace K33
open PySem PySem.Spec PyProof.Rows L2 PL WP
section
variable {ws : List Str} {vals : Nat → D} {K W : Nat} {S0 : Sto}
theorem vr_stop (j : Nat) (hl : ∀ w ∈ ws, w.length ≤ 600) (hW : S0[W]? = some (.lst (ws.map D.str))) (t : Told ws vals K) (hK : K < 7) (hb : ws.length ≤ K ∨ ∃ w, ws[K]? = some w ∧ rd K w = some .non) :
  WR (lv (j + 6) 26 [.int 0, .ref W, .int 0, .tup readsL] S0) fun d T => d = exK K ∧ Ext S0 T := by
 show WR (m26 (lv (j + 5)) _ S0) _
 have hb' : ws.length ≤ K ∨ ∃ w, ws[K]? = some w ∧ w.length ≤ 600 ∧ rd K w = some .non := by
  rcases hb with h | ⟨w, h1, h2⟩
  ·exact .inl h
  ·exact .inr ⟨w, h1, hl w (List.mem_of_getElem? h1), h2⟩
 refine wB (wS_then (wS_nx (wS_asg (wE_lst (wA_nil ⟨WP.sz (by simp), rfl, rfl, ?_⟩)))))
 have h0 : I26 W vals S0 0 (env26 W S0.length none none none) (S0 ++ [.lst []]) := ⟨⟨_, _, _, rfl⟩, by simp, Ext.new⟩
 obtain ⟨f, e', S', e, r, rfl, rfl, E⟩ := forStop (QS := fun f e' S' => ∃ r, f = .rt r ∧ r = exK K ∧ Ext S0 S') (lap26 j hl hW t (by omega)) (fun env S h => by
  obtain ⟨d, env1, S1, e1, e2, f, e', S', e3, r, rfl, rfl, E⟩ := stop26 j hW hK hb' env S h
  exact ⟨d, env1, S1, e1, e2, _, e', S', e3, _, rfl, _, rfl, rfl, E⟩) K 0 _ _ 8 (by omega) (by omega) h0
 refine wS_seq ⟨.rt (exK K), e', S', ?_, .inr ⟨(fun z => nomatch z), _, rfl, rfl, E⟩⟩
 exact e
theorem vr_all (j : Nat) (hl : ∀ w ∈ ws, w.length ≤ 600) (hW : S0[W]? = some (.lst (ws.map D.str))) (t : Told ws vals 7) :
  WR (lv (j + 6) 26 [.int 0, .ref W, .int 0, .tup readsL] S0) fun d T => ((7 < ws.length ∧ d = exK 7) ∨ (ws.length ≤ 7 ∧ d = .ref S0.length ∧ T[S0.length]? = some (.lst ((List.range 7).map vals)))) ∧ Ext S0 T := by
 show WR (m26 (lv (j + 5)) _ S0) _
 refine wB (wS_then (wS_nx (wS_asg (wE_lst (wA_nil ⟨WP.sz (by simp), rfl, rfl, ?_⟩)))))
 have h0 : I26 W vals S0 0 (env26 W S0.length none none none) (S0 ++ [.lst []]) := ⟨⟨_, _, _, rfl⟩, by simp, Ext.new⟩
 refine wS_then (wS_for (it := mItr (mVar 3)) (n := 7) (nx := nxT readsL) (S1 := S0 ++ [.lst []]) rfl h0 (lap26 j hl hW t (Nat.le_refl _)) (fun env S h => rfl) (fun e' T h => ⟨rfl, ?_⟩))
 obtain ⟨⟨a, b, c, rfl⟩, hT, E⟩ := h
 have gl : gLen [.ref S0.length] T = some (.int 7, T) := by
  simp [gLen, seqD, seqAt, hT]
 refine wS_seq ?_
 have pl := place_ok (W := W) (a := a) (b := b) (c := c) (i := 7) hT
 refine wS_if (wT_b (wE_bin (wE_blt (wA_cons (wE_v rfl (wA_nil (wR_of (len_w (E.keep hW)) ⟨_, _, pl, wR_of (xGt_i _ _ _) ⟨_, rfl, fun z => ?_, fun z => ?_⟩⟩)))))))
 ·have hz := of_decide_eq_true z
  refine wS_raise (wA_cons (wE_v rfl (wA_cons ⟨_, _, pl, wA_nil ⟨rfl, .inr ⟨(fun z => nomatch z), _, rfl, .inl ⟨by omega, rfl⟩, E⟩⟩⟩)))
 ·have hz := of_decide_eq_false z
  refine wS_next (.inl ⟨rfl, wS_ret (wE_noX (wE_v rfl ⟨rfl, _, rfl, .inr ⟨by omega, rfl, hT⟩, E⟩))⟩)
end
def sp : Str := Str.ofString " "
theorem sp_is : sp = ⟨#[32]⟩ := by decide +kernel
theorem join_len' (z : CL) : ∀ xs : List CL, (∀ x ∈ xs, x.length ≤ 600) → z.length ≤ 1 → (joinL z xs).length ≤ 601 * xs.length
 | [], _, _ => Nat.zero_le _
 | [x], h, _ => by
  have := h x (.head _)
  simp only [joinL, List.length_cons, List.length_nil]
  omega
 | x :: y :: r, h, hz => by
  have h1 := h x (.head _)
  have ih := join_len' z (y :: r) (fun a ha => h a (.tail _ ha)) hz
  simp only [joinL, List.length_append, List.length_cons] at ih ⊢
  omega
structure Wds (ws : List Str) : Prop where
 ne : ws ≠ []
 free : ∀ w ∈ ws, 32 ∉ cp w
 len : ∀ w ∈ ws, w.length ≤ 600
 few : ws.length ≤ 20
def txt (ws : List Str) : Str := Txt.join sp ws
theorem cp_txt (ws : List Str) : cp (txt ws) = joinL [32] (ws.map cp) := by
 have h2 : cp sp = [32] := by rw [sp_is]; rfl
 show cp (Builtin.Str.glued _ _) = _
 rw [StrLaws.glued_eq_join, cp_join, h2]
theorem Wds.tlen {ws : List Str} (h : Wds ws) : (txt ws).length ≤ 12020 := by
 have h1 := join_len' [32] (ws.map cp) (fun x hx => by
  obtain ⟨w, hw, rfl⟩ := List.mem_map.mp hx
  rw [← len_cp]
  exact h.len w hw) (Nat.le_refl _)
 have h2 := h.few
 rw [len_cp, cp_txt]
 rw [List.length_map] at h1
 omega
theorem Wds.spl {ws : List Str} (h : Wds ws) : (spL 32 (cp (txt ws))).map (fun l => D.str (sOf l)) = ws.map D.str := by
 rw [cp_txt, spL_join 32 _ (fun z => h.ne (List.map_eq_nil_iff.mp z)) (fun p hp => by
  obtain ⟨w, hw, rfl⟩ := List.mem_map.mp hp
  exact h.free w hw), List.map_map]
 refine List.map_congr_left fun w _ => ?_
 show D.str (sOf (cp w)) = _
 rw [sOf_cp]
def Sr (x : Str) (d : D) : Prop := ∀ j S, WR (lv (j + 7) 27 [.str x] S) fun r T => r = d ∧ Ext S T
theorem wE_tyX {g : List D → Sto → R} {m : ME} {env : PL.Env} {S : Sto} {Q : D → Sto → Prop} (h : WE m env S fun d T => (isX d = true ∧ Q d T) ∨ (isX d = false ∧ WR (g [d] T) fun r U => isX r = false ∧ Q r U)) : WE (mTyX g m) env S Q := by
 obtain ⟨d, T, e, h⟩ := h
 rcases h with ⟨hx, q⟩ | ⟨hx, r, U, e2, hr, q⟩
 ·refine ⟨d, T, ?_, q⟩
  unfold mTyX
  rw [e, Option.bind_some, if_pos hx]
 ·refine ⟨r, U, ?_, q⟩
  unfold mTyX
  rw [e, Option.bind_some, if_neg (by rw [hx]; exact Bool.false_ne_true), e2, Option.bind_some, if_neg (by rw [hr]; exact Bool.false_ne_true)]
theorem sr_of {ws : List Str} {d : D} (h : Wds ws) (hr : ∀ j S0 W, S0[W]? = some (.lst (ws.map D.str)) → WR (lv (j + 6) 26 [.int 0, .ref W, .int 0, .tup readsL] S0) fun r T => ((r = d ∧ isX d = true) ∨ (∃ n vs, r = .ref n ∧ T[n]? = some (.lst vs) ∧ d = .tup vs)) ∧ Ext S0 T) : Sr (txt ws) d := by
 intro j S
 show WR (m27 (lv (j + 6)) [.str (txt ws)] S) _
 have e := split_ok (s := txt ws) (c := 32) (w := Str.ofString " ") sp_is (by have := h.tlen; omega) S
 rw [h.spl] at e
 unfold m27
 have hz : 7 ≤ sizeLine := by decide
 refine wB (wS_then (wS_nx (wS_asg ⟨.tup readsL, S, ?_, rfl, rfl, ?_⟩)))
 ·simp [mTup, mCons, mC, mNil, readsL, rds, hz]
 refine wS_ret (wE_tyX (wE_callD ?_))
 refine wA_cons (wE_c (wA_cons (wE_mt ?_)))
 refine wE_v (d := .str (txt ws)) rfl ?_
 refine ⟨rfl, wA_cons (wE_c (wA_nil (wR_of e ?_)))⟩
 refine wA_cons (wE_c (wA_cons (wE_v rfl (wA_nil ⟨rfl, ?_⟩))))
 refine (hr j _ _ disp_at).mono ?_
 rintro r T ⟨hc, E⟩
 have E2 := (Ext.new (S := S)).trans E
 rcases hc with ⟨rfl, hx⟩ | ⟨n, vs, rfl, hn, rfl⟩
 ·exact .inl ⟨hx, _, rfl, rfl, E2⟩
 ·exact .inr ⟨rfl, wR_of (seq_tup hn) ⟨rfl, _, rfl, rfl, E2⟩⟩
theorem sr_stop {ws : List Str} {vals : Nat → D} {K : Nat} (h : Wds ws) (t : Told ws vals K) (hK : K < 7) (hb : ws.length ≤ K ∨ ∃ w, ws[K]? = some w ∧ rd K w = some .non) : Sr (txt ws) (exK K) :=
 sr_of h fun j S0 W hW => (vr_stop j h.len hW t hK hb).mono fun d T q => ⟨.inl ⟨q.1, rfl⟩, q.2⟩
theorem sr_long {ws : List Str} {vals : Nat → D} (h : Wds ws) (t : Told ws vals 7) (hl : 7 < ws.length) : Sr (txt ws) (exK 7) :=
 sr_of h fun j S0 W hW => (vr_all j h.len hW t).mono fun d T q => by
  rcases q with ⟨⟨_, rfl⟩ | ⟨z, _⟩, E⟩
  ·exact ⟨.inl ⟨rfl, rfl⟩, E⟩
  ·omega
theorem sr_good {ws : List Str} {vals : Nat → D} (h : Wds ws) (t : Told ws vals 7) (hl : ws.length ≤ 7) : Sr (txt ws) (.tup ((List.range 7).map vals)) :=
 sr_of h fun j S0 W hW => (vr_all j h.len hW t).mono fun d T q => by
  rcases q with ⟨⟨z, _⟩ | ⟨_, rfl, hT⟩, E⟩
  ·omega
  ·exact ⟨.inr ⟨_, _, rfl, hT, rfl⟩, E⟩
end K33
end
section
namespace K33
open PySem PySem.Spec PyProof.Rows L2 PL WP
structure Po where
 s : Str
 pi : List Str
 wo : List Int
 wh : List (Str × Str)
 se : List (Str × Int)
 ke : List (Str × Str)
 dg : Int
def istr (i : Int) : Str := toString i
def com : Str := Str.ofString ","
def col : Str := Str.ofString ":"
def dot : Str := Str.ofString "."
def jn (xs : List Str) : Str := if xs.isEmpty = true then dash else Txt.join com xs
def pT (c : Str) (p : Str × Str) : Str := (p.1 ++ c) ++ p.2
def sT (p : Str × Int) : Str := (p.1 ++ col) ++ istr p.2
def Po.L (p : Po) : List D := [.str p.s, .tup (p.pi.map D.str), .tup (p.wo.map D.int), .tup (p.wh.map prD), .tup (p.se.map spD), .tup (p.ke.map prD), .int p.dg]
def Po.D (p : Po) : D := .tup p.L
def Po.W (p : Po) : List Str := [p.s, jn p.pi, jn (p.wo.map istr), jn (p.wh.map (pT col)), jn (p.se.map sT), jn (p.ke.map (pT dot)), istr p.dg]
structure Po.Ok (p : Po) : Prop where
 s : tgB p.s = true
 pi : ∀ x ∈ p.pi, tgB x = true
 wo : ∀ x ∈ p.wo, nmB x = true
 wh : ∀ x ∈ p.wh, isAt x.1 = true ∧ tgB x.1 = true ∧ tgB x.2 = true
 se : ∀ x ∈ p.se, tgB x.1 = true ∧ nmB x.2 = true
 ke : ∀ x ∈ p.ke, tgB x.1 = true ∧ tgB x.2 = true
 dg : nmB p.dg = true
 l1 : p.pi.length ≤ 3
 l2 : p.wo.length ≤ 8
 l3 : p.wh.length ≤ 8
 l4 : p.se.length ≤ 8
 l5 : p.ke.length ≤ 32
structure Fre (x : Str) : Prop where
 a : 32 ∉ cp x
 b : 44 ∉ cp x
 c : 58 ∉ cp x
 d : 46 ∉ cp x
 e : x ≠ dash
theorem fre_of {x : Str} (h : freeB x = true) : Fre x := by
 unfold freeB at h
 simp only [Bool.and_eq_true, Bool.not_eq_true', decide_eq_false_iff_not, List.contains_eq_mem] at h
 obtain ⟨h1, h2, h3, h4, h5⟩ := h
 exact ⟨h1, h2, h3, h4, h5⟩
structure Tg (x : Str) : Prop where
 w : isW x = true
 f : Fre x
 l : x.length ≤ 8
 k : ∀ c ∈ cp x, c < 1114112
theorem tg_of {x : Str} (h : tgB x = true) : Tg x := by
 unfold tgB at h
 simp only [Bool.and_eq_true, decide_eq_true_eq, List.all_eq_true] at h
 obtain ⟨h1, h2, h3, h4⟩ := h
 exact ⟨h1, fre_of h2, h3, h4⟩
structure Nm (i : Int) : Prop where
 n : numO (istr i) = some (some i)
 f : Fre (istr i)
 l : (istr i).length ≤ 64
 b : i.natAbs ≤ big
 k : ∀ c ∈ cp (istr i), c < 1114112
theorem nm_of {i : Int} (h : nmB i = true) : Nm i := by
 unfold nmB at h
 simp only [Bool.and_eq_true, decide_eq_true_eq, List.all_eq_true] at h
 obtain ⟨h1, h2, h3, h4, h5⟩ := h
 exact ⟨h1, fre_of h2, h3, h4, h5⟩
theorem cp_join1 {c : Str} {m : Nat} (hc : c = ⟨#[m]⟩) (xs : List Str) : cp (Txt.join c xs) = joinL [m] (xs.map cp) := by
 have h2 : cp c = [m] := by rw [hc]; rfl
 show cp (Builtin.Str.glued _ _) = _
 rw [StrLaws.glued_eq_join, cp_join, h2]
theorem com_is : com = ⟨#[44]⟩ := by decide +kernel
theorem col_is : col = ⟨#[58]⟩ := by decide +kernel
theorem dot_is : dot = ⟨#[46]⟩ := by decide +kernel
theorem dash_is : dash = ⟨#[45]⟩ := by decide +kernel
theorem join_two {c : Str} {m : Nat} (hc : c = ⟨#[m]⟩) (a b : Str) : Txt.join c [a, b] = (a ++ c) ++ b := by
 refine cp_inj ?_
 rw [cp_join1 hc, cp_app, cp_app, hc]
 rfl
theorem hlv_two {c : Str} {m : Nat} (hc : c = ⟨#[m]⟩) {a b : Str} (ha : m ∉ cp a) (hb : m ∉ cp b) : hlv m ((a ++ c) ++ b) = some (a, b) := by
 rw [← join_two hc]
 unfold hlv
 rw [cp_join1 hc, show List.map cp [a, b] = [cp a, cp b] from rfl, spL_join m [cp a, cp b] (by simp) (by
  intro p hp
  simp only [List.mem_cons, List.not_mem_nil, or_false] at hp
  rcases hp with rfl | rfl
  ·exact ha
  ·exact hb)]
 simp [sOf_cp]
theorem spl_jn {xs : List Str} (hne : xs ≠ []) (h : ∀ x ∈ xs, 44 ∉ cp x) : (spL 44 (cp (jn xs))).map sOf = xs := by
 unfold jn
 rw [if_neg (by simp [hne]), cp_join1 com_is, spL_join 44 _ (fun z => hne (List.map_eq_nil_iff.mp z)) (fun p hp => by
  obtain ⟨w, hw, rfl⟩ := List.mem_map.mp hp
  exact h w hw), List.map_map]
 have : (sOf ∘ cp) = id := by
  funext s
  exact sOf_cp s
 rw [this, List.map_id]
theorem jn_dash {xs : List Str} (hne : xs ≠ []) (h : ∀ x ∈ xs, 44 ∉ cp x ∧ x ≠ dash) : jn xs ≠ dash := by
 intro z
 have e := spl_jn hne fun x hx => (h x hx).1
 rw [z] at e
 have e2 : (spL 44 (cp dash)).map sOf = [dash] := by decide +kernel
 rw [e2] at e
 exact (h dash (by rw [← e]; simp)).2 rfl
theorem optM_map {α : Type} {f : Str → Option D} {t : α → Str} {v : α → D} : ∀ {es : List α}, (∀ e ∈ es, f (t e) = some (v e)) → optM f (es.map t) = some (es.map v)
 | [], _ => rfl
 | e :: es, h => by
  simp only [List.map_cons, optM]
  rw [h e (.head _), Option.bind_some, optM_map fun x hx => h x (.tail _ hx)]
  rfl
theorem unl_jn {α : Type} {f : Str → Option D} {t : α → Str} {v : α → D} {es : List α} (h : ∀ e ∈ es, f (t e) = some (v e)) (hf : ∀ e ∈ es, 44 ∉ cp (t e) ∧ t e ≠ dash) (hn : nIn (es.map v) = some false) : unl f (jn (es.map t)) = some (.tup (es.map v)) := by
 cases hes : es with
 | nil =>
  have : jn ([].map t) = dash := rfl
  unfold unl
  rw [this, if_pos rfl]
  rfl
 | cons e0 es' =>
  rw [← hes]
  have hne : es.map t ≠ [] := by rw [hes]; simp
  have hh : ∀ x ∈ es.map t, 44 ∉ cp x ∧ x ≠ dash := fun x hx => by
   obtain ⟨e, he, rfl⟩ := List.mem_map.mp hx
   exact hf e he
  unfold unl
  rw [if_neg (jn_dash hne hh), spl_jn hne (fun x hx => (hh x hx).1), optM_map h, Option.bind_some, hn]
  rfl
theorem nin_flat : ∀ {vs : List D}, (∀ x ∈ vs, (∃ s, x = .str s) ∨ ∃ i, x = .int i) → nIn vs = some false := fun {vs} h => by
 have : ∀ vs : List D, (∀ x ∈ vs, (∃ s, x = .str s) ∨ ∃ i, x = .int i) → ∃ ws, flatDs vs = some ws ∧ inV .non ws = false := by
  intro vs
  induction vs with
  | nil => exact fun _ => ⟨[], rfl, rfl⟩
  | cons x xs ih =>
   intro h
   obtain ⟨ws, e1, e2⟩ := ih fun y hy => h y (.tail _ hy)
   rcases h x (.head _) with ⟨s, rfl⟩ | ⟨i, rfl⟩
   ·exact ⟨.str s :: ws, by simp [flatDs, flatD, e1], by simpa [L2.inV, L2.eqV] using e2⟩
   ·exact ⟨.int i :: ws, by simp [flatDs, flatD, e1], by simpa [L2.inV, L2.eqV] using e2⟩
 obtain ⟨ws, e1, e2⟩ := this vs h
 unfold nIn
 rw [e1]
 show some (inV .non ws) = _
 rw [e2]
theorem nin_tup {vs : List D} (h : ∀ x ∈ vs, (∃ ys, x = .tup ys) ∧ ∃ c m, Fd c m x) : nIn vs = some false := by
 cases hv : vs with
 | nil => rfl
 | cons x0 xs0 =>
  rw [← hv]
  have hf : flatDs vs = none := by
   obtain ⟨⟨ys, hy⟩, _⟩ := h x0 (by rw [hv]; simp)
   rw [hv, hy]
   rfl
  have hp : ∀ vs : List D, (∀ x ∈ vs, (∃ ys, x = .tup ys) ∧ ∃ c m, Fd c m x) → ∃ ps, pyDs vs = some ps ∧ PyData.canLayAll0 ps = true ∧ (ps.any fun y => PyData.eqv y .none) = false := by
   intro vs
   induction vs with
   | nil => exact fun _ => ⟨[], rfl, rfl, rfl⟩
   | cons x xs ih =>
    intro h
    obtain ⟨ps, e1, e2, e3⟩ := ih fun y hy => h y (.tail _ hy)
    obtain ⟨⟨ys, rfl⟩, c, m, p, g1, _, _, g2, _⟩ := h x (.head _)
    obtain ⟨qs, _, rfl⟩ := Option.map_eq_some_iff.mp (show (pyDs ys).map _ = some p from g1)
    refine ⟨.tuple qs :: ps, by simp only [pyDs]; rw [g1, Option.bind_some, e1]; rfl, by simp only [PyData.canLayAll0, g2, e2, Bool.and_self], ?_⟩
    rw [List.any_cons, e3]
    rfl
  obtain ⟨ps, e1, e2, e3⟩ := hp vs h
  unfold nIn
  rw [hf]
  show (pyDs vs).bind _ = _
  rw [e1, Option.bind_some, if_pos e2, e3]
end K33
end
section
namespace K33
open PySem PySem.Spec PyProof.Rows L2 PL WP
theorem Tg.fd {x : Str} (h : Tg x) (m : Nat) : Fd 210 m (.str x) := .str (by have := h.l; omega) h.k
theorem Nm.fd {i : Int} (h : Nm i) (m : Nat) : Fd 210 m (.int i) := .int (Nat.le_refl _) h.b
theorem pr_fd {p : Str × Str} (h1 : Tg p.1) (h2 : Tg p.2) (m : Nat) : Fd 450 (m + 1) (prD p) := .tup (k := 440) (.cons (h1.fd m) (.cons (h2.fd m) (.nil (c := 0)) (by omega : 210 + 0 + 5 ≤ 215)) (by omega)) (by omega)
theorem sp_fd {p : Str × Int} (h1 : Tg p.1) (h2 : Nm p.2) (m : Nat) : Fd 450 (m + 1) (spD p) := .tup (k := 440) (.cons (h1.fd m) (.cons (h2.fd m) (.nil (c := 0)) (by omega : 210 + 0 + 5 ≤ 215)) (by omega)) (by omega)
theorem row_fd {xs : List D} {m : Nat} (h : ∀ x ∈ xs, Fd 450 m x) (hl : xs.length ≤ 32) : Fd 15000 (m + 1) (.tup xs) := by
 refine Fd.tup (FdL.of h) ?_
 have : xs.length * (450 + 5) ≤ 32 * 455 := Nat.mul_le_mul_right _ hl
 omega
variable {p : Po}
theorem Po.fd (h : p.Ok) : Fd 80000 3 p.D := by
 have f1 : Fd 15000 2 (.tup (p.pi.map D.str)) := row_fd (m := 1) (fun x hx => by
  obtain ⟨s, hs, rfl⟩ := List.mem_map.mp hx
  exact ((tg_of (h.pi s hs)).fd 1).mono (by omega) (by omega)) (by rw [List.length_map]; have := h.l1; omega)
 have f2 : Fd 15000 2 (.tup (p.wo.map D.int)) := row_fd (m := 1) (fun x hx => by
  obtain ⟨s, hs, rfl⟩ := List.mem_map.mp hx
  exact ((nm_of (h.wo s hs)).fd 1).mono (by omega) (by omega)) (by rw [List.length_map]; have := h.l2; omega)
 have f3 : Fd 15000 2 (.tup (p.wh.map prD)) := row_fd (m := 1) (fun x hx => by
  obtain ⟨s, hs, rfl⟩ := List.mem_map.mp hx
  exact pr_fd (tg_of (h.wh s hs).2.1) (tg_of (h.wh s hs).2.2) 0) (by rw [List.length_map]; have := h.l3; omega)
 have f4 : Fd 15000 2 (.tup (p.se.map spD)) := row_fd (m := 1) (fun x hx => by
  obtain ⟨s, hs, rfl⟩ := List.mem_map.mp hx
  exact sp_fd (tg_of (h.se s hs).1) (nm_of (h.se s hs).2) 0) (by rw [List.length_map]; have := h.l4; omega)
 have f5 : Fd 15000 2 (.tup (p.ke.map prD)) := row_fd (m := 1) (fun x hx => by
  obtain ⟨s, hs, rfl⟩ := List.mem_map.mp hx
  exact pr_fd (tg_of (h.ke s hs).1) (tg_of (h.ke s hs).2) 0) (by rw [List.length_map]; have := h.l5; omega)
 have f0 := (tg_of h.s).fd 2
 have f6 := (nm_of h.dg).fd 2
 refine Fd.tup (k := 79000) (m := 2) ?_ (by omega)
 have n0 : FdL 0 2 [] := .nil
 have l6 : FdL 300 2 [.int p.dg] := .cons f6 n0 (by omega)
 have l5 : FdL 15500 2 [.tup (p.ke.map prD), .int p.dg] := .cons f5 l6 (by omega)
 have l4 : FdL 31000 2 [.tup (p.se.map spD), .tup (p.ke.map prD), .int p.dg] := .cons f4 l5 (by omega)
 have l3 : FdL 47000 2 [.tup (p.wh.map prD), .tup (p.se.map spD), .tup (p.ke.map prD), .int p.dg] := .cons f3 l4 (by omega)
 have l2 : FdL 63000 2 [.tup (p.wo.map D.int), .tup (p.wh.map prD), .tup (p.se.map spD), .tup (p.ke.map prD), .int p.dg] := .cons f2 l3 (by omega)
 have l1 : FdL 78500 2 [.tup (p.pi.map D.str), .tup (p.wo.map D.int), .tup (p.wh.map prD), .tup (p.se.map spD), .tup (p.ke.map prD), .int p.dg] := .cons f1 l2 (by omega)
 exact .cons f0 l1 (by omega)
theorem word_rd {x : Str} (h : Tg x) : wordR x = some (.str x) := by
 unfold wordR
 rw [if_pos h.w]
theorem num_rd {i : Int} (h : Nm i) : numR (istr i) = some (.int i) := by
 unfold numR
 rw [h.n]
 rfl
theorem pair_o {c : Str} {m : Nat} (hc : c = ⟨#[m]⟩) {q : Str × Str} (h1 : Tg q.1) (h2 : Tg q.2) (f1 : m ∉ cp q.1) (f2 : m ∉ cp q.2) : pairO m (pT c q) = some q := by
 unfold pairO pT
 rw [hlv_two hc f1 f2]
 dsimp only
 rw [if_pos (by rw [h1.w, h2.w]; rfl)]
theorem where_rd {q : Str × Str} (ha : isAt q.1 = true) (h1 : Tg q.1) (h2 : Tg q.2) : whereR (pT col q) = some (prD q) := by
 unfold whereR whereO
 rw [pair_o col_is h1 h2 h1.f.c h2.f.c]
 dsimp only
 rw [if_pos ha]
 rfl
theorem choice_rd {q : Str × Str} (h1 : Tg q.1) (h2 : Tg q.2) : pairR 46 (pT dot q) = some (prD q) := by
 unfold pairR
 rw [pair_o dot_is h1 h2 h1.f.d h2.f.d]
 rfl
theorem seen_rd {q : Str × Int} (h1 : Tg q.1) (h2 : Nm q.2) : seenR (sT q) = some (spD q) := by
 unfold seenR seenO sT
 rw [hlv_two col_is h1.f.c h2.f.c]
 dsimp only
 rw [if_pos h1.w, h2.n]
 rfl
theorem free_two {c : Str} {m k : Nat} (hc : c = ⟨#[m]⟩) {a b : Str} (h1 : k ∉ cp a) (h2 : k ∉ cp b) (hk : k ≠ m) : k ∉ cp ((a ++ c) ++ b) := by
 rw [cp_app, cp_app, hc]
 simp only [List.mem_append, not_or]
 refine ⟨⟨h1, ?_⟩, h2⟩
 show k ∉ [m]
 simpa using hk
theorem has_two {c : Str} {m : Nat} (hc : c = ⟨#[m]⟩) (hm : m ≠ 45) (a b : Str) : (a ++ c) ++ b ≠ dash := by
 intro z
 have : m ∈ cp dash := by
  rw [← z, cp_app, cp_app, hc]
  simp [cp]
 rw [dash_is] at this
 exact hm (by simpa [cp] using this)
theorem rd_ok (h : p.Ok) {k : Nat} (hk : k < 7) : ∃ w v, p.W[k]? = some w ∧ p.L[k]? = some v ∧ rd k w = some v := by
 match k, hk with
 | 0, _ => exact ⟨_, _, rfl, rfl, word_rd (tg_of h.s)⟩
 | 1, _ =>
  refine ⟨_, _, rfl, rfl, ?_⟩
  have e := unl_jn (f := wordR) (t := id) (v := D.str) (es := p.pi) (fun x hx => word_rd (tg_of (h.pi x hx))) (fun x hx => ⟨(tg_of (h.pi x hx)).f.b, (tg_of (h.pi x hx)).f.e⟩) (nin_flat fun x hx => by
   obtain ⟨s, _, rfl⟩ := List.mem_map.mp hx
   exact .inl ⟨s, rfl⟩)
  rw [List.map_id] at e
  show (unl wordR (jn p.pi)).map cap3 = _
  rw [e]
  show some (if 3 < (p.pi.map D.str).length then D.non else .tup (p.pi.map D.str)) = _
  rw [if_neg (by rw [List.length_map]; have := h.l1; omega)]
 | 2, _ =>
  refine ⟨_, _, rfl, rfl, ?_⟩
  exact unl_jn (f := numR) (t := istr) (v := D.int) (fun x hx => num_rd (nm_of (h.wo x hx))) (fun x hx => ⟨(nm_of (h.wo x hx)).f.b, (nm_of (h.wo x hx)).f.e⟩) (nin_flat fun x hx => by
   obtain ⟨s, _, rfl⟩ := List.mem_map.mp hx
   exact .inr ⟨s, rfl⟩)
 | 3, _ =>
  refine ⟨_, _, rfl, rfl, ?_⟩
  exact unl_jn (f := whereR) (t := pT col) (v := prD) (fun x hx => where_rd (h.wh x hx).1 (tg_of (h.wh x hx).2.1) (tg_of (h.wh x hx).2.2)) (fun x hx => ⟨free_two col_is (tg_of (h.wh x hx).2.1).f.b (tg_of (h.wh x hx).2.2).f.b (by decide), has_two col_is (by decide) _ _⟩) (nin_tup fun x hx => by
   obtain ⟨s, hs, rfl⟩ := List.mem_map.mp hx
   exact ⟨⟨_, rfl⟩, _, _, pr_fd (tg_of (h.wh s hs).2.1) (tg_of (h.wh s hs).2.2) 0⟩)
 | 4, _ =>
  refine ⟨_, _, rfl, rfl, ?_⟩
  exact unl_jn (f := seenR) (t := sT) (v := spD) (fun x hx => seen_rd (tg_of (h.se x hx).1) (nm_of (h.se x hx).2)) (fun x hx => ⟨free_two col_is (tg_of (h.se x hx).1).f.b (nm_of (h.se x hx).2).f.b (by decide), has_two col_is (by decide) _ _⟩) (nin_tup fun x hx => by
   obtain ⟨s, hs, rfl⟩ := List.mem_map.mp hx
   exact ⟨⟨_, rfl⟩, _, _, sp_fd (tg_of (h.se s hs).1) (nm_of (h.se s hs).2) 0⟩)
 | 5, _ =>
  refine ⟨_, _, rfl, rfl, ?_⟩
  exact unl_jn (f := pairR 46) (t := pT dot) (v := prD) (fun x hx => choice_rd (tg_of (h.ke x hx).1) (tg_of (h.ke x hx).2)) (fun x hx => ⟨free_two dot_is (tg_of (h.ke x hx).1).f.b (tg_of (h.ke x hx).2).f.b (by decide), has_two dot_is (by decide) _ _⟩) (nin_tup fun x hx => by
   obtain ⟨s, hs, rfl⟩ := List.mem_map.mp hx
   exact ⟨⟨_, rfl⟩, _, _, pr_fd (tg_of (h.ke s hs).1) (tg_of (h.ke s hs).2) 0⟩)
 | 6, _ => exact ⟨_, _, rfl, rfl, num_rd (nm_of h.dg)⟩
 | k + 7, hk => exact absurd hk (by omega)
def Po.v (p : Po) (k : Nat) : PL.D := (p.L[k]?).getD PL.D.non
theorem told_ok (h : p.Ok) : Told p.W p.v 7 := by
 refine ⟨fun i hi => ?_, fun i hi T => ?_⟩
 ·obtain ⟨w, v, h1, h2, h3⟩ := rd_ok h hi
  refine ⟨w, h1, ?_⟩
  unfold Po.v
  rw [h2]
  exact h3
 ·match i, hi with
  | 0, _ => rfl
  | 1, _ => rfl
  | 2, _ => rfl
  | 3, _ => rfl
  | 4, _ => rfl
  | 5, _ => rfl
  | 6, _ => rfl
  | i + 7, hi => exact absurd hi (by omega)
theorem joinL_free {m k : Nat} (hk : k ≠ m) : ∀ {xs : List CL}, (∀ x ∈ xs, k ∉ x) → k ∉ joinL [m] xs
 | [], _ => by simp [joinL]
 | [x], h => h x (.head _)
 | x :: y :: r, h => by
  have ih := joinL_free hk (xs := y :: r) fun a ha => h a (.tail _ ha)
  simp only [joinL, List.mem_append, not_or]
  exact ⟨⟨h x (.head _), by simpa using hk⟩, ih⟩
theorem joinL_len {m L : Nat} : ∀ {xs : List CL}, (∀ x ∈ xs, x.length ≤ L) → (joinL [m] xs).length ≤ (L + 1) * xs.length
 | [], _ => Nat.zero_le _
 | [x], h => by
  have := h x (.head _)
  simp only [joinL, List.length_cons, List.length_nil]
  omega
 | x :: y :: r, h => by
  have h1 := h x (.head _)
  have ih := joinL_len (m := m) (xs := y :: r) fun a ha => h a (.tail _ ha)
  simp only [joinL, List.length_append, List.length_cons, List.length_nil, Nat.mul_succ] at ih ⊢
  omega
theorem jn_ok {xs : List Str} {L : Nat} (h : ∀ x ∈ xs, 32 ∉ cp x ∧ x.length ≤ L) (hL : (L + 1) * xs.length ≤ 600) : 32 ∉ cp (jn xs) ∧ (jn xs).length ≤ 600 := by
 unfold jn
 split
 ·rw [dash_is]
  decide
 ·rw [len_cp, cp_join1 com_is]
  refine ⟨joinL_free (by decide) fun x hx => ?_, Nat.le_trans (joinL_len (L := L) fun x hx => ?_) (by rw [List.length_map]; exact hL)⟩
  ·obtain ⟨s, hs, rfl⟩ := List.mem_map.mp hx
   exact (h s hs).1
  ·obtain ⟨s, hs, rfl⟩ := List.mem_map.mp hx
   rw [← len_cp]
   exact (h s hs).2
theorem len_two {c : Str} {m : Nat} (hc : c = ⟨#[m]⟩) (a b : Str) : ((a ++ c) ++ b).length = a.length + 1 + b.length := by
 rw [len_cp, cp_app, cp_app, List.length_append, List.length_append, ← len_cp, ← len_cp, ← len_cp, hc]
 rfl
theorem wds_ok (h : p.Ok) : Wds p.W := by
 have q1 := jn_ok (xs := p.pi) (L := 8) (fun x hx => ⟨(tg_of (h.pi x hx)).f.a, (tg_of (h.pi x hx)).l⟩) (by have := h.l1; omega)
 have q2 := jn_ok (xs := p.wo.map istr) (L := 64) (fun x hx => by
  obtain ⟨s, hs, rfl⟩ := List.mem_map.mp hx
  exact ⟨(nm_of (h.wo s hs)).f.a, (nm_of (h.wo s hs)).l⟩) (by rw [List.length_map]; have := h.l2; omega)
 have q3 := jn_ok (xs := p.wh.map (pT col)) (L := 17) (fun x hx => by
  obtain ⟨s, hs, rfl⟩ := List.mem_map.mp hx
  have t1 := tg_of (h.wh s hs).2.1
  have t2 := tg_of (h.wh s hs).2.2
  refine ⟨free_two col_is t1.f.a t2.f.a (by decide), ?_⟩
  unfold pT
  rw [len_two col_is]
  have := t1.l
  have := t2.l
  omega) (by rw [List.length_map]; have := h.l3; omega)
 have q4 := jn_ok (xs := p.se.map sT) (L := 73) (fun x hx => by
  obtain ⟨s, hs, rfl⟩ := List.mem_map.mp hx
  have t1 := tg_of (h.se s hs).1
  have t2 := nm_of (h.se s hs).2
  refine ⟨free_two col_is t1.f.a t2.f.a (by decide), ?_⟩
  unfold sT
  rw [len_two col_is]
  have := t1.l
  have := t2.l
  omega) (by rw [List.length_map]; have := h.l4; omega)
 have q5 := jn_ok (xs := p.ke.map (pT dot)) (L := 17) (fun x hx => by
  obtain ⟨s, hs, rfl⟩ := List.mem_map.mp hx
  have t1 := tg_of (h.ke s hs).1
  have t2 := tg_of (h.ke s hs).2
  refine ⟨free_two dot_is t1.f.a t2.f.a (by decide), ?_⟩
  unfold pT
  rw [len_two dot_is]
  have := t1.l
  have := t2.l
  omega) (by rw [List.length_map]; have := h.l5; omega)
 have t0 := tg_of h.s
 have t6 := nm_of h.dg
 have all : ∀ w ∈ p.W, 32 ∉ cp w ∧ w.length ≤ 600 := by
  intro w hw
  simp only [Po.W, List.mem_cons, List.not_mem_nil, or_false] at hw
  rcases hw with rfl | rfl | rfl | rfl | rfl | rfl | rfl
  ·exact ⟨t0.f.a, by have := t0.l; omega⟩
  ·exact q1
  ·exact q2
  ·exact q3
  ·exact q4
  ·exact q5
  ·exact ⟨t6.f.a, by have := t6.l; omega⟩
 exact ⟨(fun z => nomatch z), fun w hw => (all w hw).1, fun w hw => (all w hw).2, by show 7 ≤ 20; omega⟩
theorem sr_post (h : p.Ok) : Sr (txt p.W) p.D := sr_good (wds_ok h) (told_ok h) (Nat.le_refl _)
end K33
end
section
namespace K33
open PySem PySem.Spec PyProof.Rows L2 PL WP
structure SeqS (S : Sto) (d : D) (xs : List Str) : Prop where
 s : seqD S d = some (xs.map D.str)
 t : dTru d S = some (!xs.isEmpty)
 g : gLen [d] S = some (.int xs.length, S)
theorem seqs_tup (S : Sto) (xs : List Str) : SeqS S (.tup (xs.map D.str)) xs := ⟨rfl, by cases xs <;> rfl, by simp [gLen, seqD]⟩
theorem seqs_ref {S : Sto} {n : Nat} {xs : List Str} (h : S[n]? = some (.lst (xs.map D.str))) : SeqS S (.ref n) xs := ⟨seqAt_of h, by simp [dTru, h], by simp [gLen, seqD, seqAt, h]⟩
theorem sum_le {L : Nat} : ∀ {xs : List Str}, (∀ x ∈ xs, x.length ≤ L) → (xs.map (·.length)).sum ≤ L * xs.length
 | [], _ => Nat.zero_le _
 | x :: xs, h => by
  have h1 := h x (.head _)
  have ih := sum_le (xs := xs) fun y hy => h y (.tail _ hy)
  simp only [List.map_cons, List.sum_cons, List.length_cons, Nat.mul_succ]
  omega
theorem join_okA {S : Sto} {d : D} {xs : List Str} {c : Str} (q : SeqS S d xs) (hc : c.length ≤ 1) (h : ∀ x ∈ xs, x.length ≤ 600) (hl : xs.length ≤ 100) : gJoinA (.str c) [d] S = some (.str (Txt.join c xs), S) := by
 have h1 := sum_le h
 have h2 : xs.length * c.length ≤ 100 * 1 := Nat.mul_le_mul hl hc
 show (seqD S d).bind _ = _
 rw [q.s, Option.bind_some, strsD_map, Option.bind_some, if_pos (by omega)]
theorem listed_ok (j : Nat) {S : Sto} {d : D} {xs : List Str} (q : SeqS S d xs) (h : ∀ x ∈ xs, x.length ≤ 600) (hl : xs.length ≤ 100) : lv (j + 1) 1 [d] S = some (.str (jn xs), S) := by
 show m1 (lv j) [d] S = _
 have w : WR (m1 (lv j) [d] S) fun x T => x = .str (jn xs) ∧ T = S := by
  unfold m1 jn
  refine wB (wS_ret (wE_if (wT_tru (wE_v rfl ⟨_, q.t, fun hk => ?_, fun hk => ?_⟩))))
  ·refine wE_mt (wE_c ⟨rfl, wA_cons (wE_v rfl (wA_nil (wR_of (join_okA q (by decide) h hl) ?_)))⟩)
   refine ⟨_, rfl, ?_, rfl⟩
   rw [if_neg (by simpa using hk)]
   rfl
  ·refine wE_c ⟨_, rfl, ?_, rfl⟩
   rw [if_pos (by simpa using hk)]
   rfl
 obtain ⟨x, T, e, rfl, rfl⟩ := w
 exact e
theorem joined_ok (j : Nat) {S : Sto} {d : D} {xs : List Str} (q : SeqS S d xs) (h : ∀ x ∈ xs, x.length ≤ 600) (hl : xs.length ≤ 100) : lv (j + 1) 20 [d] S = some (.str (jn xs), S) := by
 show m20 (lv j) [d] S = _
 have w : WR (m20 (lv j) [d] S) fun x T => x = .str (jn xs) ∧ T = S := by
  unfold m20 jn
  refine wB (wS_ret (wE_if (wT_b (wE_bin (wE_blt (wA_cons (wE_v rfl (wA_nil (wR_of q.g (wE_c (wR_of (xGt_i _ _ _) ⟨_, rfl, fun hk => ?_, fun hk => ?_⟩)))))))))))
  ·have hz := of_decide_eq_true hk
   refine wE_mt (wE_c ⟨rfl, wA_cons (wE_v rfl (wA_nil (wR_of (join_okA q (by decide) h hl) ?_)))⟩)
   refine ⟨_, rfl, ?_, rfl⟩
   rw [if_neg (by cases xs with
    | nil => simp at hz
    | cons => simp)]
   rfl
  ·have hz := of_decide_eq_false hk
   refine wE_c ⟨_, rfl, ?_, rfl⟩
   rw [if_pos (by cases xs with
    | nil => rfl
    | cons => simp at hz)]
   rfl
 obtain ⟨x, T, e, rfl, rfl⟩ := w
 exact e
def fI : D → D
 | .int i => .str (istr i)
 | d => d
def fP (c : Str) : D → D
 | .tup [.str a, .str b] => .str (pT c (a, b))
 | d => d
def fS : D → D
 | .tup [.str a, .int i] => .str (sT (a, i))
 | d => d
theorem strI {i : Int} (h : Nm i) (T : Sto) : gStrI [.int i] T = some (.str (istr i), T) := by
 have := big_log (n := 0) (by omega) h.b
 show (if i.natAbs.log2 < 1920 then _ else _) = _
 rw [if_pos (by omega)]
 rfl
theorem map_fI (xs : List Int) : (xs.map D.int).map fI = (xs.map istr).map D.str := by
 rw [List.map_map, List.map_map]
 rfl
theorem map_fP (c : Str) (xs : List (Str × Str)) : (xs.map prD).map (fP c) = (xs.map (pT c)).map D.str := by
 rw [List.map_map, List.map_map]
 rfl
theorem map_fS (xs : List (Str × Int)) : (xs.map spD).map fS = (xs.map sT).map D.str := by
 rw [List.map_map, List.map_map]
 rfl
theorem empty_app (x : Str) : Str.empty ++ x = x := by
 refine cp_inj ?_
 rw [cp_app]
 rfl
theorem fstr_ok {env : PL.Env} {a : Str} {i : Int} {u v : Nat} (ha : env[u]? = some (some (.str a))) (hi : env[v]? = some (some (.int i))) (h1 : Tg a) (h2 : Nm i) (T : Sto) :
  mFstr [(mFmt (mVar u)), (mC (.str (Str.ofString ":"))), (mFmt (mVar v))] env T = some (.str (sT (a, i)), T) := by
 have hb := big_log (n := 0) (by omega) h2.b
 have l1 := h1.l
 have l2 := h2.l
 have hz := sl_big
 have hl : (Str.ofString ":").length = 1 := by decide +kernel
 have c1 : (Str.empty ++ a).length ≤ sizeLine := by rw [empty_app]; omega
 have c2 : (a ++ Str.ofString ":").length ≤ sizeLine := by
  rw [len_cp, cp_app, List.length_append, ← len_cp, ← len_cp]
  omega
 have c3 : ((a ++ Str.ofString ":") ++ istr i).length ≤ sizeLine := by
  have := len_two col_is a (istr i)
  show ((a ++ col) ++ istr i).length ≤ _
  omega
 have f1 : mFmt (mVar u) env T = some (.str a, T) := by
  have : a.length ≤ sizeLine := by omega
  simp [mFmt, mVar, ha, this]
 have f2 : mFmt (mVar v) env T = some (.str (istr i), T) := by
  have : i.natAbs.log2 < 1920 := by omega
  simp [mFmt, mVar, hi, this]
  rfl
 unfold mFstr
 simp only [mJs]
 rw [f1, Option.bind_some]
 dsimp only
 rw [if_pos c1, empty_app]
 show Option.map _ ((mC (.str (Str.ofString ":")) env T).bind _) = _
 rw [mC, Option.bind_some]
 dsimp only
 rw [if_pos c2, f2, Option.bind_some]
 dsimp only
 rw [if_pos c3]
 rfl
section
variable {env : PL.Env} {S : Sto} {o : ME} {u v : Nat} {vs : List Nat}
theorem comp_I {xs : List Int} (ho : o env S = some (.tup (xs.map D.int), S)) (hu : ∀ a, ((wipeE env vs).set u (some a))[u]? = some (some a)) (hl : xs.length ≤ 32) (h : ∀ x ∈ xs, Nm x) :
  WE (mLc (mItr o) (gN u) mYes (mBlt gStrI (mCons (mVar u) mNil)) vs) env S fun d T => SeqS T d (xs.map istr) ∧ Ext S T := by
 refine (lc_map (f := fI) (ev := fun d => (wipeE env vs).set u (some d)) (by rw [List.length_map]; omega) (itr_tup ho) (fun T E i => nxT_any i) (fun x T hx => rfl) ?_).mono ?_
 ·intro x T hx E
  obtain ⟨i, hi, rfl⟩ := List.mem_map.mp hx
  exact wE_blt (wA_cons (wE_v (hu _) (wA_nil (wR_of (strI (h i hi) T) ⟨rfl, Ext.refl⟩))))
 ·rintro d T ⟨rfl, hT, E⟩
  rw [map_fI] at hT
  exact ⟨seqs_ref hT, E⟩
def evP (env : PL.Env) (u v : Nat) : D → PL.Env
 | .tup [a, b] => (env.set u (some a)).set v (some b)
 | _ => env
theorem addS {a b : Str} (h : a.length + b.length ≤ 600) (T : Sto) : dAdd (.str a) (.str b) T = some (.str (a ++ b), T) := by
 have hz := sl_big
 have hh : a.length + b.length ≤ sizeLine := by omega
 simp [dAdd, PL.alt, iiI, ssS, hh]
theorem comp_pr {c : Str} {m : Nat} (hc : c = ⟨#[m]⟩) {qs : List (Str × Str)} (ho : o env S = some (.tup (qs.map prD), S)) (hu : ∀ a b, (((wipeE env vs).set u (some a)).set v (some b))[u]? = some (some a)) (hv : ∀ a b, (((wipeE env vs).set u (some a)).set v (some b))[v]? = some (some b))
  (hl : qs.length ≤ 32) (h : ∀ q ∈ qs, Tg q.1 ∧ Tg q.2) :
  WE (mLc (mItr o) (gT 2 (gsC (gN u) (gsC (gN v) gsN))) mYes (mBin dAdd (mBin dAdd (mVar u) (mC (.str c))) (mVar v)) vs) env S fun d T => SeqS T d (qs.map (pT c)) ∧ Ext S T := by
 have hcl : c.length = 1 := by rw [hc]; rfl
 refine (lc_map (f := fP c) (ev := evP (wipeE env vs) u v) (by rw [List.length_map]; omega) (itr_tup ho) (fun T E i => nxT_any i) (fun x T hx => by
  obtain ⟨q, hq, rfl⟩ := List.mem_map.mp hx
  rfl) ?_).mono ?_
 ·intro x T hx E
  obtain ⟨q, hq, rfl⟩ := List.mem_map.mp hx
  have l1 := (h q hq).1.l
  have l2 := (h q hq).2.l
  have l3 : (q.1 ++ c).length = q.1.length + c.length := by rw [len_cp, cp_app, List.length_append, ← len_cp, ← len_cp]
  refine wE_bin (wE_bin (wE_v (hu _ _) (wE_c (wR_of (addS (by omega) T) (wE_v (hv _ _) (wR_of (addS (by omega) T) ?_))))))
  exact ⟨rfl, Ext.refl⟩
 ·rintro d T ⟨rfl, hT, E⟩
  rw [map_fP] at hT
  exact ⟨seqs_ref hT, E⟩
theorem comp_sp {qs : List (Str × Int)} (ho : o env S = some (.tup (qs.map spD), S)) (hu : ∀ a b, (((wipeE env vs).set u (some a)).set v (some b))[u]? = some (some a)) (hv : ∀ a b, (((wipeE env vs).set u (some a)).set v (some b))[v]? = some (some b))
  (hl : qs.length ≤ 32) (h : ∀ q ∈ qs, Tg q.1 ∧ Nm q.2) :
  WE (mLc (mItr o) (gT 2 (gsC (gN u) (gsC (gN v) gsN))) mYes (mBin dAdd (mBin dAdd (mVar u) (mC (.str (Str.ofString ":")))) (mBlt gStrI (mCons (mVar v) mNil))) vs) env S fun d T => SeqS T d (qs.map sT) ∧ Ext S T := by
 have hcl : (Str.ofString ":").length = 1 := by decide +kernel
 refine (lc_map (f := fS) (ev := evP (wipeE env vs) u v) (by rw [List.length_map]; omega) (itr_tup ho) (fun T E i => nxT_any i) (fun x T hx => by
  obtain ⟨q, hq, rfl⟩ := List.mem_map.mp hx
  rfl) ?_).mono ?_
 ·intro x T hx E
  obtain ⟨q, hq, rfl⟩ := List.mem_map.mp hx
  have l1 := (h q hq).1.l
  have l2 := (h q hq).2.l
  have l3 : (q.1 ++ Str.ofString ":").length = q.1.length + (Str.ofString ":").length := by rw [len_cp, cp_app, List.length_append, ← len_cp, ← len_cp]
  refine wE_bin (wE_bin (wE_v (hu _ _) (wE_c (wR_of (addS (by omega) T) (wE_blt (wA_cons (wE_v (hv _ _) (wA_nil (wR_of (strI (h q hq).2 T) (wR_of (addS (by omega) T) ?_))))))))))
  exact ⟨rfl, Ext.refl⟩
 ·rintro d T ⟨rfl, hT, E⟩
  rw [map_fS] at hT
  exact ⟨seqs_ref hT, E⟩
theorem comp_fs {qs : List (Str × Int)} (ho : o env S = some (.tup (qs.map spD), S)) (hu : ∀ a b, (((wipeE env vs).set u (some a)).set v (some b))[u]? = some (some a)) (hv : ∀ a b, (((wipeE env vs).set u (some a)).set v (some b))[v]? = some (some b))
  (hl : qs.length ≤ 32) (h : ∀ q ∈ qs, Tg q.1 ∧ Nm q.2) :
  WE (mLc (mItr o) (gT 2 (gsC (gN u) (gsC (gN v) gsN))) mYes (mFstr [(mFmt (mVar u)), (mC (.str (Str.ofString ":"))), (mFmt (mVar v))]) vs) env S fun d T => SeqS T d (qs.map sT) ∧ Ext S T := by
 refine (lc_map (f := fS) (ev := evP (wipeE env vs) u v) (by rw [List.length_map]; omega) (itr_tup ho) (fun T E i => nxT_any i) (fun x T hx => by
  obtain ⟨q, hq, rfl⟩ := List.mem_map.mp hx
  rfl) ?_).mono ?_
 ·intro x T hx E
  obtain ⟨q, hq, rfl⟩ := List.mem_map.mp hx
  exact ⟨_, _, fstr_ok (hu _ _) (hv _ _) (h q hq).1 (h q hq).2 T, rfl, Ext.refl⟩
 ·rintro d T ⟨rfl, hT, E⟩
  rw [map_fS] at hT
  exact ⟨seqs_ref hT, E⟩
theorem comp_jn {c : Str} {m : Nat} (hc : c = ⟨#[m]⟩) {qs : List (Str × Str)} (ho : o env S = some (.tup (qs.map prD), S)) (hu : ∀ a, ((wipeE env vs).set u (some a))[u]? = some (some a)) (hl : qs.length ≤ 32) (h : ∀ q ∈ qs, Tg q.1 ∧ Tg q.2) :
  WE (mLc (mItr o) (gN u) mYes (mMt "str" gJoinA (mC (.str c)) (mCons (mVar u) mNil)) vs) env S fun d T => SeqS T d (qs.map (pT c)) ∧ Ext S T := by
 have hcl : c.length = 1 := by rw [hc]; rfl
 refine (lc_map (f := fP c) (ev := fun d => (wipeE env vs).set u (some d)) (by rw [List.length_map]; omega) (itr_tup ho) (fun T E i => nxT_any i) (fun x T hx => rfl) ?_).mono ?_
 ·intro x T hx E
  obtain ⟨q, hq, rfl⟩ := List.mem_map.mp hx
  have l1 := (h q hq).1.l
  have l2 := (h q hq).2.l
  have e := join_okA (c := c) (seqs_tup T [q.1, q.2]) (by omega) (fun x hx => by
   simp only [List.mem_cons, List.not_mem_nil, or_false] at hx
   rcases hx with rfl | rfl <;> omega) (by show 2 ≤ 100; omega)
  rw [join_two hc] at e
  refine wE_mt (wE_c ⟨rfl, wA_cons (wE_v (hu _) (wA_nil (wR_of e ?_)))⟩)
  exact ⟨rfl, Ext.refl⟩
 ·rintro d T ⟨rfl, hT, E⟩
  rw [map_fP] at hT
  exact ⟨seqs_ref hT, E⟩
end
end K33
end
section
namespace K33
open PySem PySem.Spec PyProof.Rows L2 PL WP
theorem catL {T : Sto} {a b : Nat} {xs ys : List D} (h1 : T[a]? = some (.lst xs)) (h2 : T[b]? = some (.lst ys)) (hl : xs.length + ys.length ≤ 100000) : dAdd (.ref a) (.ref b) T = some (.ref T.length, T ++ [.lst (xs ++ ys)]) := by
 have hz := sl_big
 have hh : xs.length + ys.length ≤ sizeLine := by omega
 simp [dAdd, PL.alt, iiI, ssS, ttT, llL, seqAt, h1, h2, hh, newL]
variable {p : Po}
theorem Po.ix (p : Po) {k : Nat} {x : PL.D} (h : p.L[k]? = some x) (T : Sto) : ixA p.D (.int k) T = some (x, T) := ix_nat (r := k) rfl h
theorem wl {L : List Str} {n : Nat} (h : ∀ x ∈ L, x.length ≤ n) (hn : n ≤ 600) : ∀ x ∈ L, x.length ≤ 600 := fun x hx => Nat.le_trans (h x hx) hn
structure Po.Ls (p : Po) : Prop where
 pi : ∀ x ∈ p.pi, x.length ≤ 600
 wo : ∀ x ∈ p.wo.map istr, x.length ≤ 600
 wh : ∀ x ∈ p.wh.map (pT col), x.length ≤ 600
 se : ∀ x ∈ p.se.map sT, x.length ≤ 600
 ke : ∀ x ∈ p.ke.map (pT dot), x.length ≤ 600
theorem Po.ls (h : p.Ok) : p.Ls := by
 refine ⟨fun x hx => ?_, fun x hx => ?_, fun x hx => ?_, fun x hx => ?_, fun x hx => ?_⟩
 ·have := (tg_of (h.pi x hx)).l
  omega
 ·obtain ⟨s, hs, rfl⟩ := List.mem_map.mp hx
  have := (nm_of (h.wo s hs)).l
  omega
 ·obtain ⟨s, hs, rfl⟩ := List.mem_map.mp hx
  have h1 := (tg_of (h.wh s hs).2.1).l
  have h2 := (tg_of (h.wh s hs).2.2).l
  unfold pT
  rw [len_two col_is]
  omega
 ·obtain ⟨s, hs, rfl⟩ := List.mem_map.mp hx
  have h1 := (tg_of (h.se s hs).1).l
  have h2 := (nm_of (h.se s hs).2).l
  unfold sT
  rw [len_two col_is]
  omega
 ·obtain ⟨s, hs, rfl⟩ := List.mem_map.mp hx
  have h1 := (tg_of (h.ke s hs).1).l
  have h2 := (tg_of (h.ke s hs).2).l
  unfold pT
  rw [len_two dot_is]
  omega
theorem words_ok (j : Nat) (h : p.Ok) (S : Sto) : WR (lv (j + 2) 21 [p.D] S) fun d T => ∃ n, d = .ref n ∧ S.length ≤ n ∧ T[n]? = some (.lst (p.W.map D.str)) ∧ Ext S T := by
 have ls := Po.ls h
 have l1 := h.l1
 have l2 := h.l2
 have l3 := h.l3
 have l4 := h.l4
 have l5 := h.l5
 show WR (m21 (lv (j + 1)) [p.D] S) _
 unfold m21
 have v0 : ∀ (a : List (Option D)), (some p.D :: a : PL.Env)[0]? = some (some p.D) := fun a => rfl
 have ho : ∀ (k : Nat) (x : D) (a : List (Option D)) (T : Sto), p.L[k]? = some x → mBin ixA (mVar 0) (mC (.int k)) (some p.D :: a) T = some (x, T) := fun k x a T hk => WE.eq (wE_bin (wE_v (v0 a) (wE_c (wR_of (p.ix hk T) ⟨rfl, rfl⟩))))
 refine wB (wS_then (wS_asg (wE_lst ?_)))
 refine wA_cons ⟨_, _, ho 0 _ _ S rfl, ?_⟩
 refine wA_cons (wE_call (wA_cons ⟨_, _, ho 1 _ _ S rfl, wA_nil ⟨rfl, wR_of (joined_ok j (seqs_tup S p.pi) ls.pi (by omega)) ?_⟩⟩))
 refine wA_cons (wE_call (wA_cons ((comp_I (u := 2) (vs := [2]) (ho 2 _ _ S rfl) (fun _ => rfl) (by omega) (fun x hx => nm_of (h.wo x hx))).mono ?_)))
 rintro d T ⟨q, E⟩
 refine wA_nil ⟨rfl, wR_of (joined_ok j q ls.wo (by rw [List.length_map]; omega)) (wA_nil ⟨WP.sz (by simp), rfl, ?_⟩)⟩
 generalize hT1 : T ++ [Ob.lst [D.str p.s, .str (jn p.pi), .str (jn (p.wo.map istr))]] = T1
 have a1 : T1[T.length]? = some (.lst [D.str p.s, .str (jn p.pi), .str (jn (p.wo.map istr))]) := by
  rw [← hT1]
  simp
 have E1 : Ext S T1 := E.trans ⟨_, hT1.symm⟩
 have hn : S.length ≤ T.length := E.len
 generalize T.length = n at a1 hn
 refine wS_then (wS_drop (wE_mt (wE_v (d := .ref n) rfl ⟨dIs_list a1, ?_⟩)))
 refine wA_cons (wE_call (wA_cons ((comp_pr (c := col) (u := 3) (v := 4) (vs := [3, 4]) col_is (ho 3 _ _ T1 rfl) (fun _ _ => rfl) (fun _ _ => rfl) (by omega) (fun q hq => ⟨tg_of (h.wh q hq).2.1, tg_of (h.wh q hq).2.2⟩)).mono ?_)))
 rintro d T2 ⟨q, E2⟩
 have a2 := E2.keep a1
 refine wA_nil ⟨rfl, wR_of (joined_ok j q ls.wh (by rw [List.length_map]; omega)) (wA_nil (wR_of (app_okL a2 (by simp)) ⟨rfl, ?_⟩))⟩
 have a3 : (T2.set n (.lst [D.str p.s, .str (jn p.pi), .str (jn (p.wo.map istr)), .str (jn (p.wh.map (pT col)))]))[n]? = some (.lst [D.str p.s, .str (jn p.pi), .str (jn (p.wo.map istr)), .str (jn (p.wh.map (pT col)))]) := List.getElem?_set_self (List.getElem?_eq_some_iff.mp a2).1
 have E3 : Ext S (T2.set n (.lst [D.str p.s, .str (jn p.pi), .str (jn (p.wo.map istr)), .str (jn (p.wh.map (pT col)))])) := (E1.trans E2).set hn
 show WS _ _ (T2.set n (.lst [D.str p.s, .str (jn p.pi), .str (jn (p.wo.map istr)), .str (jn (p.wh.map (pT col)))])) _
 generalize T2.set n (.lst [D.str p.s, .str (jn p.pi), .str (jn (p.wo.map istr)), .str (jn (p.wh.map (pT col)))]) = T3 at a3 E3
 refine wS_then (wS_drop (wE_mt (wE_v (d := .ref n) rfl ⟨dIs_list a3, ?_⟩)))
 refine wA_cons (wE_call (wA_cons ((comp_sp (u := 4) (v := 2) (vs := [4, 2]) (ho 4 _ _ T3 rfl) (fun _ _ => rfl) (fun _ _ => rfl) (by omega) (fun q hq => ⟨tg_of (h.se q hq).1, nm_of (h.se q hq).2⟩)).mono ?_)))
 rintro d T4 ⟨q, E4⟩
 have a4 := E4.keep a3
 refine wA_nil ⟨rfl, wR_of (joined_ok j q ls.se (by rw [List.length_map]; omega)) (wA_nil (wR_of (app_okL a4 (by simp)) ⟨rfl, ?_⟩))⟩
 have a5 : (T4.set n (.lst [D.str p.s, .str (jn p.pi), .str (jn (p.wo.map istr)), .str (jn (p.wh.map (pT col))), .str (jn (p.se.map sT))]))[n]? = some (.lst [D.str p.s, .str (jn p.pi), .str (jn (p.wo.map istr)), .str (jn (p.wh.map (pT col))), .str (jn (p.se.map sT))]) := List.getElem?_set_self (List.getElem?_eq_some_iff.mp a4).1
 have E5 : Ext S (T4.set n (.lst [D.str p.s, .str (jn p.pi), .str (jn (p.wo.map istr)), .str (jn (p.wh.map (pT col))), .str (jn (p.se.map sT))])) := (E3.trans E4).set hn
 show WS _ _ (T4.set n (.lst [D.str p.s, .str (jn p.pi), .str (jn (p.wo.map istr)), .str (jn (p.wh.map (pT col))), .str (jn (p.se.map sT))])) _
 generalize T4.set n (.lst [D.str p.s, .str (jn p.pi), .str (jn (p.wo.map istr)), .str (jn (p.wh.map (pT col))), .str (jn (p.se.map sT))]) = T5 at a5 E5
 refine wS_ret (wE_bin (wE_v (d := .ref n) rfl (wE_lst ?_)))
 refine wA_cons (wE_call (wA_cons ((comp_pr (c := dot) (u := 4) (v := 5) (vs := [4, 5]) dot_is (ho 5 _ _ T5 rfl) (fun _ _ => rfl) (fun _ _ => rfl) (by omega) (fun q hq => ⟨tg_of (h.ke q hq).1, tg_of (h.ke q hq).2⟩)).mono ?_)))
 rintro d T6 ⟨q, E6⟩
 refine wA_nil ⟨rfl, wR_of (joined_ok j q ls.ke (by rw [List.length_map]; omega)) (wA_cons (wE_blt (wA_cons ⟨_, _, ho 6 _ _ T6 rfl, wA_nil (wR_of (strI (nm_of h.dg) T6) (wA_nil ⟨WP.sz (by simp), ?_⟩))⟩)))⟩
 have a6 := E6.keep a5
 have a7 : (T6 ++ [Ob.lst [D.str (jn (p.ke.map (pT dot))), .str (istr p.dg)]])[n]? = some (.lst [D.str p.s, .str (jn p.pi), .str (jn (p.wo.map istr)), .str (jn (p.wh.map (pT col))), .str (jn (p.se.map sT))]) := (Ext.new).keep a6
 refine wR_of (catL a7 disp_at (by simp)) ?_
 refine ⟨_, rfl, _, rfl, ?_, disp_at, ((E5.trans E6).trans Ext.new).trans Ext.new⟩
 have := E5.len
 have := E6.len
 simp
 omega
end K33
end
section
namespace K33
open PySem PySem.Spec PyProof.Rows L2 PL WP
variable {p : Po}
theorem text_ok (j : Nat) (h : p.Ok) (S : Sto) : WR (lv (j + 2) 8 [p.D] S) fun d T => d = .str (txt p.W) ∧ Ext S T := by
 have ls := Po.ls h
 have l1 := h.l1
 have l2 := h.l2
 have l3 := h.l3
 have l4 := h.l4
 have l5 := h.l5
 show WR (m8 (lv (j + 1)) [p.D] S) _
 unfold m8
 let env1 : PL.Env := [some p.D, some (.str p.s), some (.tup (p.pi.map D.str)), some (.tup (p.wo.map D.int)), some (.tup (p.wh.map prD)), some (.tup (p.se.map spD)), some (.tup (p.ke.map prD)), some (.int p.dg), none, none, none, none, none, none]
 have vv : ∀ (i : Nat) (x : D) (T : Sto), env1[i]? = some (some x) → mVar i env1 T = some (x, T) := fun i x T e => WE.eq (wE_v e ⟨rfl, rfl⟩)
 refine wB (wS_then (wS_asgG (wE_v (d := p.D) rfl ⟨env1, S, rfl, rfl, ?_⟩)))
 refine wS_then (wS_asg (wE_lst ?_))
 refine wA_cons (wE_v (d := .str p.s) rfl ?_)
 refine wA_cons (wE_call (wA_cons (wE_v (d := .tup (p.pi.map D.str)) rfl (wA_nil ⟨rfl, wR_of (listed_ok j (seqs_tup S p.pi) ls.pi (by omega)) ?_⟩))))
 refine wA_cons (wE_call (wA_cons ((comp_I (u := 9) (vs := [9]) (vv 3 _ S rfl) (fun _ => rfl) (by omega) (fun x hx => nm_of (h.wo x hx))).mono ?_)))
 rintro d T1 ⟨q1, E1⟩
 refine wA_nil ⟨rfl, wR_of (listed_ok j q1 ls.wo (by rw [List.length_map]; omega)) ?_⟩
 refine wA_cons (wE_call (wA_cons ((comp_jn (c := col) (u := 10) (vs := [10]) col_is (vv 4 _ T1 rfl) (fun _ => rfl) (by omega) (fun q hq => ⟨tg_of (h.wh q hq).2.1, tg_of (h.wh q hq).2.2⟩)).mono ?_)))
 rintro d T2 ⟨q2, E2⟩
 refine wA_nil ⟨rfl, wR_of (listed_ok j q2 ls.wh (by rw [List.length_map]; omega)) ?_⟩
 refine wA_cons (wE_call (wA_cons ((comp_fs (u := 11) (v := 12) (vs := [11, 12]) (vv 5 _ T2 rfl) (fun _ _ => rfl) (fun _ _ => rfl) (by omega) (fun q hq => ⟨tg_of (h.se q hq).1, nm_of (h.se q hq).2⟩)).mono ?_)))
 rintro d T3 ⟨q3, E3⟩
 refine wA_nil ⟨rfl, wR_of (listed_ok j q3 ls.se (by rw [List.length_map]; omega)) ?_⟩
 refine wA_cons (wE_call (wA_cons ((comp_jn (c := dot) (u := 13) (vs := [13]) dot_is (vv 6 _ T3 rfl) (fun _ => rfl) (by omega) (fun q hq => ⟨tg_of (h.ke q hq).1, tg_of (h.ke q hq).2⟩)).mono ?_)))
 rintro d T4 ⟨q4, E4⟩
 refine wA_nil ⟨rfl, wR_of (listed_ok j q4 ls.ke (by rw [List.length_map]; omega)) ?_⟩
 refine wA_cons (wE_blt (wA_cons (wE_v (d := .int p.dg) rfl (wA_nil (wR_of (strI (nm_of h.dg) T4) (wA_nil ⟨WP.sz (by simp), ?_⟩))))))
 have hw : SeqS (T4 ++ [Ob.lst (p.W.map D.str)]) (.ref T4.length) p.W := seqs_ref disp_at
 refine ⟨rfl, wS_ret (wE_mt (wE_c ⟨rfl, ?_⟩))⟩
 refine wA_cons (wE_v (d := .ref T4.length) rfl (wA_nil (wR_of (join_okA (c := sp) hw (by decide +kernel) (wds_ok h).len (by show 7 ≤ 100; omega)) ?_)))
 exact ⟨_, rfl, rfl, (((E1.trans E2).trans E3).trans E4).trans Ext.new⟩
end K33
end
section
namespace K33
open PySem PySem.Spec PyProof.Rows L2 PL WP
section
variable {ns : List Int} {env : PL.Env} {S S1 : Sto}
theorem lc_fd {it : MI} {el : ME} {vs : List Nat} {u k c mm : Nat} {P : D → Prop} (hm : mm < 4) (hi : it env S = some ((mm + 1, nxR 0 mm), S1)) (f : FeedAt ns k S1)
  (hel : ∀ i k' T, FeedAt ns k' T → k' ≤ k + c * 3 → Go [] S1 T → WE el ((wipeE env vs).set u (some (.int (i : Nat)))) T fun d T' => P d ∧ FeedAt ns (k' + c) T' ∧ Go [] T T') :
  WE (mLc it (gN u) mYes el vs) env S fun d T => ∃ ds : List D, d = .ref S1.length ∧ T[S1.length]? = some (.lst ds) ∧ ds.length ≤ 3 ∧ (∀ x ∈ ds, P x) ∧ FeedAt ns (k + c * 3) T ∧ Go [] S1 T := by
 have h4 := f.len
 refine wE_lc (m := mm) (I := fun i acc T => acc.length = i ∧ (∀ x ∈ acc, P x) ∧ FeedAt ns (k + c * i) T ∧ Go [] S1 T) (by omega) hi ⟨rfl, (fun x hx => by cases hx), f.new, Go.new⟩ (fun i acc T hi hl hn h => ?_) (fun acc T h => ?_) (fun acc T h1 h2 h3 => ?_)
 ·obtain ⟨e1, e2, e3, e4⟩ := h
  have hc : c * i ≤ c * 3 := Nat.mul_le_mul_left _ (by omega)
  refine ⟨.int (i : Nat), _, T, nxR_in hi, rfl, wT_yes ⟨fun _ => ?_, fun z => by cases z⟩⟩
  refine (hel i _ T e3 (by omega) e4).mono ?_
  rintro d T' ⟨p1, f', G⟩
  have kn := G.keep _ _ (by omega : S1.length ≠ 3) (by simp) hn
  refine ⟨kn, by rw [List.length_append, e1]; rfl, fun x hx => ?_, ?_, (e4.trans G).set' (Nat.le_refl _)⟩
  ·rcases List.mem_append.mp hx with hx | hx
   ·exact e2 x hx
   ·rw [List.mem_singleton.mp hx]
    exact p1
  ·have e : k + c * (i + 1) = k + c * i + c := by rw [Nat.mul_succ]; omega
   rw [e]
   exact f'.set (by omega)
 ·exact nxR_end
 ·obtain ⟨e1, e2, e3, e4⟩ := h3
  have hc : c * mm ≤ c * 3 := Nat.mul_le_mul_left _ (by omega)
  exact ⟨acc, rfl, h1, by omega, e2, e3.mono (by omega), e4⟩
end
theorem un_map {α : Type} {F : α → D} {R : α → Prop} : ∀ {ds : List D}, (∀ x ∈ ds, ∃ a, x = F a ∧ R a) → ∃ as : List α, ds = as.map F ∧ ∀ a ∈ as, R a
 | [], _ => ⟨[], rfl, fun a ha => by cases ha⟩
 | d :: ds, h => by
  obtain ⟨a, rfl, r⟩ := h d (.head _)
  obtain ⟨as, rfl, rs⟩ := un_map (ds := ds) fun x hx => h x (.tail _ hx)
  refine ⟨a :: as, rfl, fun b hb => ?_⟩
  rcases List.mem_cons.mp hb with rfl | hb
  ·exact r
  ·exact rs b hb
theorem neg_ok {env : PL.Env} {S : Sto} (i : Int) : mNeg (mC (.int i)) env S = some (.int (-i), S) := rfl
theorem pow_ok {env : PL.Env} {S : Sto} {a b : Int} (h : cPowB a b = true) : mBin dPow (mC (.int a)) (mC (.int b)) env S = some (.int (a ^ b.toNat), S) := by
 simp [mBin, mC, dPow, iiI, h]
section
variable {ns : List Int} {S : Sto} {k t1 t2 : Nat} {env : PL.Env}
theorem pick1 (j : Nat) {t : Nat} {xs : List D} (f : FeedAt ns k S) (hk : k < 1000000) (h : S[t]? = some (.lst xs)) (ht : 4 ≤ t) (hp : 0 < xs.length) (hl : xs.length < 1000) {o : ME} (h0 : env[0]? = some (some (.ref 3))) (ho : o env S = some (.ref t, S)) :
  WE (mCall 2 (lv (j + 2) 19) (mCons (mVar 0) (mCons o mNil))) env S fun d T => d ∈ xs ∧ FeedAt ns (k + 1) T ∧ Go [] S T := by
 obtain ⟨x, hx, T, e, f', G⟩ := pick_ok f (by omega) j (d := .ref t) (seqAt_of h) (fun z => by cases z; omega) hp hl
 exact wE_call (wA_cons (wE_v h0 (wA_cons ⟨_, _, ho, wA_nil ⟨rfl, wR_of e ⟨hx, f', G⟩⟩⟩)))
theorem cnt4 (j : Nat) (f : FeedAt ns k S) (hk : k < 1000000) (h0 : env[0]? = some (some (.ref 3))) : ∃ mm T, mR1 (mCons (mCall 2 (lv (j + 1) 18) (mCons (mVar 0) (mCons (mC (.int 4)) mNil))) mNil) env S = some ((mm + 1, nxR 0 mm), T) ∧ mm < 4 ∧ FeedAt ns (k + 1) T ∧ Go [] S T := by
 obtain ⟨r, T, e, hr, f', G⟩ := draw_ok f (by omega) (lv j) 4 (by decide) (by decide)
 have hr' : r < 4 := by omega
 refine ⟨r, T, r1s ?_ (by omega), hr', f', G⟩
 have h : WA (mCons (mCall 2 (lv (j + 1) 18) (mCons (mVar 0) (mCons (mC (.int 4)) mNil))) mNil) env S fun ds T' => ds = [.int r] ∧ T' = T :=
  wA_cons (wE_call (wA_cons (wE_v h0 (wA_cons (wE_c (wA_nil ⟨rfl, wR_of (show lv (j + 1) 18 _ _ = _ from e) (wA_nil ⟨rfl, rfl⟩)⟩))))))
 obtain ⟨ds, T', e1, rfl, rfl⟩ := h
 exact e1
end
theorem tt_mem {x : D} (h : x ∈ TT4.map D.str) : ∃ s, x = .str s ∧ tgB s = true := by
 obtain ⟨s, hs, rfl⟩ := List.mem_map.mp h
 exact ⟨s, rfl, List.all_eq_true.mp t4_ok s hs⟩
theorem nn_mem {x : D} (h : x ∈ NN7.map D.int) : ∃ s, x = .int s ∧ nmB s = true := by
 obtain ⟨s, hs, rfl⟩ := List.mem_map.mp h
 exact ⟨s, rfl, List.all_eq_true.mp n7_ok s hs⟩
def AT : List D := [.str (Str.ofString "at"), .str (Str.ofString "with")]
theorem at_mem {x : D} (h : x ∈ AT) : ∃ s, x = .str s ∧ isAt s = true ∧ tgB s = true := by
 have t := List.all_eq_true.mp tx_ok
 simp only [AT, List.mem_cons, List.not_mem_nil, or_false] at h
 rcases h with rfl | rfl
 ·exact ⟨_, rfl, by decide +kernel, t _ (by simp [SS])⟩
 ·exact ⟨_, rfl, by decide +kernel, t _ (by simp [SS])⟩
theorem cmp_ok {ns : List Int} {k : Nat} {S : Sto} {env : PL.Env} {el : ME} {vs : List Nat} {u : Nat} {P : D → Prop} (j : Nat) (f : FeedAt ns k S) (hk : k < 900000) (h0 : env[0]? = some (some (.ref 3)))
  (hel : ∀ i k' T, FeedAt ns k' T → k' < 950000 → Go [] S T → WE el ((wipeE env vs).set u (some (.int (i : Nat)))) T fun d T' => P d ∧ FeedAt ns (k' + 2) T' ∧ Go [] T T') :
  WE (mBlt gTuple (mCons (mLc (mR1 (mCons (mCall 2 (lv (j + 1) 18) (mCons (mVar 0) (mCons (mC (.int 4)) (mNil)))) (mNil))) (gN u) mYes el vs) mNil)) env S fun d T => ∃ ds, d = .tup ds ∧ ds.length ≤ 3 ∧ (∀ x ∈ ds, P x) ∧ FeedAt ns (k + 7) T ∧ Go [] S T := by
 obtain ⟨mm, U, hi, hmm, f', G⟩ := cnt4 j f (by omega) h0
 refine wE_blt (wA_cons ((lc_fd (c := 2) (P := P) hmm hi f' fun i k' T fT hT GT => hel i k' T fT (by omega) (G.trans GT)).mono ?_))
 rintro d T ⟨ds, rfl, h1, h2, h3, f3, G3⟩
 exact wA_nil (wR_of (seq_tup h1) ⟨_, rfl, h2, h3, f3.mono (by omega), G.trans G3⟩)
def PA (x : D) : Prop := ∃ s, x = .str s ∧ tgB s = true
def PB (x : D) : Prop := ∃ s, x = .int s ∧ nmB s = true
theorem any_ok {ns : List Int} {k : Nat} {S : Sto} (j : Nat) (f : FeedAt ns k S) (hk : k < 100000) : WR (lv (j + 3) 22 [.ref 3] S) fun d T => ∃ p : Po, d = p.D ∧ p.Ok ∧ FeedAt ns (k + 40) T ∧ Go [] S T := by
 have h4 := f.len
 show WR (m22 (lv (j + 2)) [.ref 3] S) _
 unfold m22
 refine wB (wS_then (wS_asg (wE_lst (wA_cons (wE_c (wA_cons (wE_c (wA_cons (wE_c (wA_cons (wE_c (wA_nil ⟨WP.sz (by simp), rfl, ?_⟩))))))))))))
 have a1 : (S ++ [Ob.lst (TT4.map D.str)])[S.length]? = some (.lst (TT4.map D.str)) := disp_at
 have f1 : FeedAt ns k (S ++ [Ob.lst (TT4.map D.str)]) := f.new
 have G1 : Go [] S (S ++ [Ob.lst (TT4.map D.str)]) := Go.new
 show WS _ _ (S ++ [Ob.lst (TT4.map D.str)]) _
 generalize S ++ [Ob.lst (TT4.map D.str)] = T1 at a1 f1 G1
 have w10 : (10 : Int) ^ (9 : Int).toNat = 10 ^ 9 := rfl
 have hnum : WA (mCons (mC (.int 0)) (mCons (mC (.int 7)) (mCons (mNeg (mC (.int 1))) (mCons (mNeg (mC (.int 30))) (mCons (mBin dPow (mC (.int 10)) (mC (.int 9))) (mCons (mBin dPow (mC (.int 10)) (mC (.int 59))) (mCons (mBin dSub (mC (.int 1)) (mBin dPow (mC (.int 10)) (mC (.int 60)))) (mNil)))))))) (List.set (startE 9 [D.ref 3]) 1 (some (.ref S.length))) T1 fun ds T => ds = NN7.map D.int ∧ T = T1 := by
  refine wA_cons (wE_c (wA_cons (wE_c (wA_cons ⟨_, _, neg_ok 1, wA_cons ⟨_, _, neg_ok 30, wA_cons ⟨_, _, pow_ok (by decide), wA_cons ⟨_, _, pow_ok (by decide), ?_⟩⟩⟩⟩))))
  refine wA_cons (wE_bin (wE_c ⟨_, _, pow_ok (by decide), wR_of (d := .int (1 - 10 ^ 60)) (S' := T1) rfl (wA_nil ⟨rfl, rfl⟩)⟩))
 obtain ⟨ds, T, e2, hd, hT⟩ := hnum
 rw [hd, hT] at e2
 refine wS_then (wS_asg (wE_lst ⟨_, _, e2, WP.sz (by decide), rfl, ?_⟩))
 have a2 : (T1 ++ [Ob.lst (NN7.map D.int)])[T1.length]? = some (.lst (NN7.map D.int)) := disp_at
 have b1 : (T1 ++ [Ob.lst (NN7.map D.int)])[S.length]? = some (.lst (TT4.map D.str)) := Ext.new.keep a1
 have f2 : FeedAt ns k (T1 ++ [Ob.lst (NN7.map D.int)]) := f1.new
 have G2 : Go [] S (T1 ++ [Ob.lst (NN7.map D.int)]) := G1.trans Go.new
 have h5 := f1.len
 show WS _ _ (T1 ++ [Ob.lst (NN7.map D.int)]) _
 generalize T1 ++ [Ob.lst (NN7.map D.int)] = T2 at a2 b1 f2 G2
 generalize S.length = t1 at b1 h4
 generalize T1.length = t2 at a2 h5
 have tg : ∀ (env : PL.Env) (k' : Nat) (T : Sto), env[0]? = some (some (.ref 3)) → env[1]? = some (some (.ref t1)) → FeedAt ns k' T → k' < 990000 → T[t1]? = some (.lst (TT4.map D.str)) → WE (mCall 2 (lv (j + 2) 19) (mCons (mVar 0) (mCons (mVar 1) mNil))) env T fun d T' => PA d ∧ FeedAt ns (k' + 1) T' ∧ Go [] T T' := fun env k' T e0 e1 fT hT h1 =>
  (pick1 j fT (by omega) h1 h4 (by decide) (by decide) e0 (WE.eq (wE_v e1 ⟨rfl, rfl⟩))).mono fun d T' q => ⟨tt_mem q.1, q.2.1, q.2.2⟩
 have nm : ∀ (env : PL.Env) (k' : Nat) (T : Sto), env[0]? = some (some (.ref 3)) → env[2]? = some (some (.ref t2)) → FeedAt ns k' T → k' < 990000 → T[t2]? = some (.lst (NN7.map D.int)) → WE (mCall 2 (lv (j + 2) 19) (mCons (mVar 0) (mCons (mVar 2) mNil))) env T fun d T' => PB d ∧ FeedAt ns (k' + 1) T' ∧ Go [] T T' := fun env k' T e0 e1 fT hT h1 =>
  (pick1 j fT (by omega) h1 h5 (by decide) (by decide) e0 (WE.eq (wE_v e1 ⟨rfl, rfl⟩))).mono fun d T' q => ⟨nn_mem q.1, q.2.1, q.2.2⟩
 have k1 : ∀ {T T' : Sto}, Go [] T T' → T[t1]? = some (.lst (TT4.map D.str)) → T'[t1]? = some (.lst (TT4.map D.str)) := fun G h => G.keep _ _ (by omega) (by simp) h
 have k2 : ∀ {T T' : Sto}, Go [] T T' → T[t2]? = some (.lst (NN7.map D.int)) → T'[t2]? = some (.lst (NN7.map D.int)) := fun G h => G.keep _ _ (by omega) (by simp) h
 -- tags
 refine wS_then (wS_asg ((cmp_ok (P := PA) (j + 1) f2 (by omega) rfl fun i k' T fT hT GT => ?_).mono ?_))
 ·exact (tg _ k' T rfl rfl fT (by omega) (k1 GT b1)).mono fun d T' q => ⟨q.1, q.2.1.mono (by omega), q.2.2⟩
 rintro d T3 ⟨d3, rfl, l3, p3, f3, G3⟩
 have c1 := k1 G3 b1
 have c2 := k2 G3 a2
 refine ⟨rfl, wS_then (wS_asg ((cmp_ok (P := PB) (j + 1) f3 (by omega) rfl fun i k' T fT hT GT => ?_).mono ?_))⟩
 ·exact (nm _ k' T rfl rfl fT (by omega) (k2 GT c2)).mono fun d T' q => ⟨q.1, q.2.1.mono (by omega), q.2.2⟩
 rintro d T4 ⟨d4, rfl, l4, p4, f4, G4⟩
 have e1 := k1 G4 c1
 have e2 := k2 G4 c2
 refine ⟨rfl, wS_then (wS_asg ((cmp_ok (P := fun x => ∃ q : Str × Str, x = prD q ∧ isAt q.1 = true ∧ tgB q.1 = true ∧ tgB q.2 = true) (j + 1) f4 (by omega) rfl fun i k' T fT hT GT => ?_).mono ?_))⟩
 ·refine wE_tup (wA_cons ?_)
  have hT1 : (T ++ [Ob.lst AT])[T.length]? = some (.lst AT) := disp_at
  have hT4 := fT.len
  obtain ⟨x, hx, U, eU, fU, GU⟩ := pick_ok (fT.new (T := [Ob.lst AT])) (by omega) j (d := .ref T.length) (seqAt_of hT1) (fun z => by have := D.ref.inj z; omega) (by decide) (by decide)
  refine wE_call (wA_cons (wE_v (d := .ref 3) rfl (wA_cons (wE_lst (wA_cons (wE_c (wA_cons (wE_c (wA_nil ⟨WP.sz (by simp), wA_nil ⟨rfl, wR_of eU ?_⟩⟩)))))))))
  have GU' : Go [] T U := Go.new.trans GU
  refine wA_cons ((tg _ _ U rfl rfl fU (by omega) (k1 GU' (k1 GT e1))).mono ?_)
  rintro d T' ⟨⟨s2, rfl, hs2⟩, fT', GT'⟩
  obtain ⟨s1, rfl, hs1, hs1'⟩ := at_mem hx
  exact wA_nil ⟨WP.sz (by simp), ⟨(s1, s2), rfl, hs1, hs1', hs2⟩, fT'.mono (by omega), GU'.trans GT'⟩
 rintro d T5 ⟨d5, rfl, l5, p5, f5, G5⟩
 have g1 := k1 G5 e1
 have g2 := k2 G5 e2
 refine ⟨rfl, wS_then (wS_asg ((cmp_ok (P := fun x => ∃ q : Str × Int, x = spD q ∧ tgB q.1 = true ∧ nmB q.2 = true) (j + 1) f5 (by omega) rfl fun i k' T fT hT GT => ?_).mono ?_))⟩
 ·refine wE_tup (wA_cons ((tg _ k' T rfl rfl fT (by omega) (k1 GT g1)).mono ?_))
  rintro d U ⟨⟨s1, rfl, hs1⟩, fU, GU⟩
  refine wA_cons ((nm _ _ U rfl rfl fU (by omega) (k2 GU (k2 GT g2))).mono ?_)
  rintro d V ⟨⟨s2, rfl, hs2⟩, fV, GV⟩
  exact wA_nil ⟨WP.sz (by simp), ⟨(s1, s2), rfl, hs1, hs2⟩, fV, GU.trans GV⟩
 rintro d T6 ⟨d6, rfl, l6, p6, f6, G6⟩
 have m1 := k1 G6 g1
 have m2 := k2 G6 g2
 refine ⟨rfl, wS_then (wS_asg ((cmp_ok (P := fun x => ∃ q : Str × Str, x = prD q ∧ tgB q.1 = true ∧ tgB q.2 = true) (j + 1) f6 (by omega) rfl fun i k' T fT hT GT => ?_).mono ?_))⟩
 ·refine wE_tup (wA_cons ((tg _ k' T rfl rfl fT (by omega) (k1 GT m1)).mono ?_))
  rintro d U ⟨⟨s1, rfl, hs1⟩, fU, GU⟩
  refine wA_cons ((tg _ _ U rfl rfl fU (by omega) (k1 GU (k1 GT m1))).mono ?_)
  rintro d V ⟨⟨s2, rfl, hs2⟩, fV, GV⟩
  exact wA_nil ⟨WP.sz (by simp), ⟨(s1, s2), rfl, hs1, hs2⟩, fV, GU.trans GV⟩
 rintro d T7 ⟨d7, rfl, l7, p7, f7, G7⟩
 have o1 := k1 G7 m1
 have o2 := k2 G7 m2
 obtain ⟨x3, rfl, r3⟩ := un_map p3
 obtain ⟨x4, rfl, r4⟩ := un_map p4
 obtain ⟨x5, rfl, r5⟩ := un_map p5
 obtain ⟨x6, rfl, r6⟩ := un_map p6
 obtain ⟨x7, rfl, r7⟩ := un_map p7
 rw [List.length_map] at l3 l4 l5 l6 l7
 refine ⟨rfl, wS_ret (wE_tup (wA_cons ((tg _ _ T7 rfl rfl f7 (by omega) o1).mono ?_)))⟩
 rintro d T8 ⟨⟨s, rfl, hs⟩, f8, G8⟩
 refine wA_cons (wE_v (d := .tup (x3.map D.str)) rfl (wA_cons (wE_v (d := .tup (x4.map D.int)) rfl (wA_cons (wE_v (d := .tup (x5.map prD)) rfl (wA_cons (wE_v (d := .tup (x6.map spD)) rfl (wA_cons (wE_v (d := .tup (x7.map prD)) rfl ?_)))))))))
 refine wA_cons ((nm _ _ T8 rfl rfl f8 (by omega) (k2 G8 o2)).mono ?_)
 rintro d T9 ⟨⟨g, rfl, hg⟩, f9, G9⟩
 have GA : Go [] S T9 := (((((((G2.trans G3).trans G4).trans G5).trans G6).trans G7).trans G8).trans G9)
 refine wA_nil ⟨WP.sz (by simp), _, rfl, ⟨s, x3, x4, x5, x6, x7, g⟩, rfl, ?_, f9.mono (by omega), GA⟩
 exact ⟨hs, r3, r4, r5, r6, r7, hg, l3, Nat.le_trans l4 (by decide), Nat.le_trans l5 (by decide), Nat.le_trans l6 (by decide), Nat.le_trans l7 (by decide)⟩
end K33
end
section
namespace K33
open PySem PySem.Spec PyProof.Rows L2 PL WP
structure Bk (S T : Sto) (e m n : Nat) (l : List (Int × Nat × List D)) : Prop where
 fe : T[e]? = some (.lst (EV.map D.str))
 fm : T[m]? = some (.lst (NU.map D.str))
 en : e ≠ n
 mn : m ≠ n
 fd : T[n]? = some (.dK (l.map fun q => (.inl q.1, .ref q.2.1)))
 fl : ∀ q ∈ l, q.2.1 ≠ n ∧ S.length ≤ q.2.1 ∧ T[q.2.1]? = some (.lst q.2.2)
 sn : S.length ≤ n
 x : Ext S T
theorem lst_ok {a : MA} {env : PL.Env} {T : Sto} {ds : List D} (h : a env T = some (ds, T)) (hl : ds.length ≤ 100) : mLst a env T = some (.ref T.length, T ++ [.lst ds]) := by
 obtain ⟨d, T', e, rfl, rfl⟩ := wE_lst (Q := fun d T' => d = .ref T.length ∧ T' = T ++ [.lst ds]) ⟨ds, T, h, WP.sz hl, rfl, rfl⟩
 exact e
theorem put_new (l : List (Int × Nat × List D)) (k : Int) (d : D) (hk : ∀ q ∈ l, q.1 ≠ k) : putD (l.map fun q => ((.inl q.1 : Key), D.ref q.2.1)) (.inl k) d = (l.map fun q => ((.inl q.1 : Key), D.ref q.2.1)) ++ [(.inl k, d)] := by
 unfold putD
 rw [if_neg]
 rw [Bool.not_eq_true, List.any_eq_false]
 intro z hz
 obtain ⟨q, hq, rfl⟩ := List.mem_map.mp hz
 intro h
 exact hk q hq (Sum.inl.inj (of_decide_eq_true h))
theorem bw_step {S T : Sto} {e m n : Nat} {l : List (Int × Nat × List D)} (b : Bk S T e m n l) {k : Int} (hk : ∀ q ∈ l, q.1 ≠ k) (hl : l.length ≤ 20) {i r : Nat} {env : PL.Env} (hi : env[i]? = some (some (.ref r))) (h3 : env[3]? = some (some (.ref n)))
  {xs : List Str} (hr : T[r]? = some (.lst (xs.map D.str))) (hx : xs.length ≤ 100) {ys : List Str} (hy : ys.length ≤ 100) {a : MA} (ha : a env T = some (ys.map D.str, T)) {Q : Flw → PL.Env → Sto → Prop}
  (q : ∀ T', Bk S T' e m n (l ++ [(k, T.length + 1, (xs ++ ys).map D.str)]) → Q .nx env T') : WS (mAsg (mBin dAdd (mVar i) (mLst a)) (gSubM (mVar 3) (mC (.int k)) setSeq)) env T Q := by
 have h1 := lst_ok ha (by rw [List.length_map]; exact hy)
 have hr' : (T ++ [Ob.lst (ys.map D.str)])[r]? = some (.lst (xs.map D.str)) := Ext.new.keep hr
 have hc := catL hr' disp_at (by rw [List.length_map, List.length_map]; omega)
 have hn := (List.getElem?_eq_some_iff.mp b.fd).1
 have hlen : (T ++ [Ob.lst (ys.map D.str)]).length = T.length + 1 := by simp
 rw [hlen, ← List.map_append] at hc
 generalize hT1 : T ++ [Ob.lst (ys.map D.str)] ++ [Ob.lst ((xs ++ ys).map D.str)] = T1 at hc
 have E : Ext T T1 := by
  rw [← hT1]
  exact Ext.new.trans Ext.new
 have at1 : T1[T.length + 1]? = some (.lst ((xs ++ ys).map D.str)) := by
  rw [← hT1, ← hlen]
  exact disp_at
 have hs : setSeq (.ref n) (.int k) (.ref (T.length + 1)) T1 = some (T1.set n (.dK ((l ++ [(k, T.length + 1, (xs ++ ys).map D.str)]).map fun q => (.inl q.1, .ref q.2.1)))) := by
  have hz : 100 ≤ sizeLine := by decide
  simp only [setSeq, E.keep b.fd]
  rw [if_pos (by rw [List.length_map]; omega), put_new l k _ hk, List.map_append]
  rfl
 have hg : gSubM (mVar 3) (mC (.int k)) setSeq (.ref (T.length + 1)) env T1 = some (env, T1.set n (.dK ((l ++ [(k, T.length + 1, (xs ++ ys).map D.str)]).map fun q => (.inl q.1, .ref q.2.1)))) := by
  simp only [gSubM, mVar, h3, mC, Option.bind_some, hs]
 refine wS_asgG (wE_bin (wE_v hi ⟨_, _, h1, wR_of hc ?_⟩))
 refine ⟨env, _, hg, q _ ?_⟩
 ·have kp : ∀ {i : Nat} {o : Ob}, i ≠ n → T1[i]? = some o → ∀ {o'}, (T1.set n o')[i]? = some o := fun hi h o' => by
   rw [List.getElem?_set_ne (Ne.symm hi)]
   exact h
  refine ⟨kp b.en (E.keep b.fe), kp b.mn (E.keep b.fm), b.en, b.mn, ?_, fun z hz => ?_, b.sn, (b.x.trans E).set b.sn⟩
  ·rw [List.getElem?_set_self (by have := E.len; omega)]
  ·rcases List.mem_append.mp hz with hz | hz
   ·obtain ⟨c1, c2, c3⟩ := b.fl z hz
    exact ⟨c1, c2, kp c1 (E.keep c3)⟩
   ·rw [List.mem_singleton.mp hz]
    have hne : T.length + 1 ≠ n := by omega
    have := b.x.len
    exact ⟨hne, by show S.length ≤ T.length + 1; omega, kp hne at1⟩
theorem cut1 {env : PL.Env} {T : Sto} (s u w : String) (h1 : (Str.ofString s).length ≤ 10) (h2 : cutS (Str.ofString s) none (some 1) ++ Str.ofString u = Str.ofString w) (h3 : (cutS (Str.ofString s) none (some 1)).length + (Str.ofString u).length ≤ 20) :
  mBin dAdd (mSl slA (mC (.str (Str.ofString s))) (mNo) (mPart (mC (.int 1)))) (mC (.str (Str.ofString u))) env T = some (.str (Str.ofString w), T) := by
 have hz := sl_big
 have c : mSl slA (mC (.str (Str.ofString s))) (mNo) (mPart (mC (.int 1))) env T = some (.str (cutS (Str.ofString s) none (some 1)), T) := by
  have : (Str.ofString s).length ≤ sizeLine := by omega
  simp [mSl, mC, mNo, mPart, slA, this]
 refine WE.eq (wE_bin ⟨_, _, c, wE_c (wR_of (addS (by omega) T) ⟨?_, rfl⟩)⟩)
 rw [h2]
theorem ones_ok {env : PL.Env} {T : Sto} : mBin dMulZ (mC (.str (Str.ofString "1"))) (mC (.int 61)) env T = some (.str ones, T) := by
 have h1 : (Str.ofString "1").length = 1 := by decide +kernel
 simp [mBin, mC, dMulZ, dMulX, PL.alt, iiI, tiT', liL, siS, h1]
 rfl
theorem kn {l : List (Int × Nat × List D)} {k : Int} (h : k ∉ l.map (·.1)) : ∀ q ∈ l, q.1 ≠ k := fun q hq e => h (List.mem_map.mpr ⟨q, hq, e⟩)
theorem ix_dict {T : Sto} {n : Nat} {kvs : List (Key × D)} {k : Int} {d : D} (h : T[n]? = some (.dK kvs)) (hv : valD kvs (.inl k) = some d) : ixA (.ref n) (.int k) T = some (d, T) := by
 have h1 : ixSeq (.ref n) (.int k) T = none := by simp [ixSeq, seqD, seqAt, h]
 unfold ixA
 rw [h1]
 show ixD (.ref n) (.int k) T = _
 simp [ixD, dictAt, h, keyD, hv]
theorem bad_ok (j : Nat) {k : Nat} (hk : k < 7) (S : Sto) : WR (lv (j + 1) 23 [.int k] S) fun d T => ∃ n, d = .ref n ∧ S.length ≤ n ∧ T[n]? = some (.lst ((BW k).map D.str)) ∧ Ext S T := by
 show WR (m23 (lv j) [.int k] S) _
 unfold m23
 have c1 : ∀ (env : PL.Env) (T : Sto), (mCons (mC (.str (Str.ofString ""))) (mCons (mC (.str (Str.ofString "A"))) (mCons (mBin dAdd (mSl slA (mC (.str (Str.ofString "a b"))) (mNo) (mPart (mC (.int 1)))) (mC (.str (Str.ofString ",")))) (mCons (mC (.str (Str.ofString ",a"))) (mCons (mC (.str (Str.ofString "a,,b"))) (mCons (mC (.str (Str.ofString "-,a"))) (mCons (mC (.str (Str.ofString "a-"))) (mNil)))))))) env T = some (EV.map D.str, T) := fun env T => by
  have h := cut1 (env := env) (T := T) "a b" "," "a," (by decide +kernel) (by decide +kernel) (by decide +kernel)
  simp only [mCons, h, mC, mNil, Option.bind_some]
  rfl
 have c2 : ∀ (env : PL.Env) (T : Sto), (mCons (mC (.str (Str.ofString ""))) (mCons (mC (.str (Str.ofString "01"))) (mCons (mC (.str (Str.ofString "-0"))) (mCons (mC (.str (Str.ofString "+1"))) (mCons (mC (.str (Str.ofString "a"))) (mCons (mC (.str (Str.ofString "1."))) (mCons (mC (.str (Str.ofString "--1"))) (mCons (mBin dMulZ (mC (.str (Str.ofString "1"))) (mC (.int 61))) (mCons (mC (.str (Str.ofString "1/2"))) (mCons (mBin dAdd (mSl slA (mC (.str (Str.ofString "- 1"))) (mNo) (mPart (mC (.int 1)))) (mC (.str (Str.ofString "-")))) (mNil))))))))))) env T = some (NU.map D.str, T) := fun env T => by
  have h := cut1 (env := env) (T := T) "- 1" "-" "--" (by decide +kernel) (by decide +kernel) (by decide +kernel)
  simp only [mCons, h, ones_ok, mC, mNil, Option.bind_some]
  rfl
 refine wB (wS_then (wS_asg ⟨_, _, lst_ok (c1 _ S) (by decide), rfl, ?_⟩))
 have a1 : (S ++ [Ob.lst (EV.map D.str)])[S.length]? = some (.lst (EV.map D.str)) := disp_at
 have E1 : Ext S (S ++ [Ob.lst (EV.map D.str)]) := Ext.new
 generalize S ++ [Ob.lst (EV.map D.str)] = T1 at a1 E1
 refine wS_then (wS_asg ⟨_, _, lst_ok (c2 _ T1) (by decide), rfl, ?_⟩)
 have a2 : (T1 ++ [Ob.lst (NU.map D.str)])[T1.length]? = some (.lst (NU.map D.str)) := disp_at
 have b1 := (Ext.new (S := T1) (T := [Ob.lst (NU.map D.str)])).keep a1
 have E2 := E1.trans (Ext.new (S := T1) (T := [Ob.lst (NU.map D.str)]))
 have n1 := (List.getElem?_eq_some_iff.mp a2).1
 have n2 := (List.getElem?_eq_some_iff.mp b1).1
 generalize T1 ++ [Ob.lst (NU.map D.str)] = T2 at a2 b1 E2 n1 n2
 have sl : S.length ≤ T2.length := E2.len
 generalize hSe : S.length = e at b1 n2 sl
 generalize T1.length = m at a2 n1
 have k0 : (mCons (mC (.str (Str.ofString ""))) (mCons (mC (.str (Str.ofString "-"))) (mCons (mC (.str (Str.ofString "A"))) (mCons (mC (.str (Str.ofString "abcdefghi"))) (mCons (mC (.str (Str.ofString "a,b"))) (mCons (mC (.str (Str.ofString "7"))) (mCons (mC (.str (Str.ofString "a:"))) (mNil)))))))) (List.set (List.set (startE 4 [D.int k]) 1 (some (.ref e))) 2 (some (.ref m))) (T2 ++ [Ob.dK []]) = some ((BW 0).map D.str, T2 ++ [Ob.dK []]) := rfl
 have v0 := lst_ok k0 (by decide)
 have x1 : ((T2 ++ [Ob.dK []]) ++ [Ob.lst ((BW 0).map D.str)])[e]? = some (.lst (EV.map D.str)) := Ext.new.keep (Ext.new.keep b1)
 have v1 := lst_ok (T := (T2 ++ [Ob.dK []]) ++ [Ob.lst ((BW 0).map D.str)]) (env := (List.set (List.set (startE 4 [D.int k]) 1 (some (.ref e))) 2 (some (.ref m)))) (a := (mCons (mC (.str (Str.ofString "a,b,a,b"))) (mCons (mC (.str (Str.ofString "abcdefghi"))) (mCons (mC (.str (Str.ofString "a:b"))) (mNil))))) (ds := (SS ["a,b,a,b", "abcdefghi", "a:b"]).map D.str) rfl (by decide)
 have w1 : mBin dAdd (mVar 1) (mLst (mCons (mC (.str (Str.ofString "a,b,a,b"))) (mCons (mC (.str (Str.ofString "abcdefghi"))) (mCons (mC (.str (Str.ofString "a:b"))) (mNil))))) (List.set (List.set (startE 4 [D.int k]) 1 (some (.ref e))) 2 (some (.ref m))) ((T2 ++ [Ob.dK []]) ++ [Ob.lst ((BW 0).map D.str)]) = some (.ref (T2.length + 3), T2 ++ [Ob.dK [], Ob.lst ((BW 0).map D.str), Ob.lst ((SS ["a,b,a,b", "abcdefghi", "a:b"]).map D.str), Ob.lst ((BW 1).map D.str)]) := by
  have hc := catL (Ext.new (T := [Ob.lst ((SS ["a,b,a,b", "abcdefghi", "a:b"]).map D.str)]) |>.keep x1) disp_at (by decide)
  refine WE.eq (wE_bin (wE_v (d := .ref e) rfl ⟨_, _, v1, wR_of hc ⟨?_, ?_⟩⟩))
  ·simp
  ·rw [← List.map_append]
   simp
   rfl
 have hd : mDisp [(mC (.int 0), mLst (mCons (mC (.str (Str.ofString ""))) (mCons (mC (.str (Str.ofString "-"))) (mCons (mC (.str (Str.ofString "A"))) (mCons (mC (.str (Str.ofString "abcdefghi"))) (mCons (mC (.str (Str.ofString "a,b"))) (mCons (mC (.str (Str.ofString "7"))) (mCons (mC (.str (Str.ofString "a:"))) (mNil))))))))), (mC (.int 1), mBin dAdd (mVar 1) (mLst (mCons (mC (.str (Str.ofString "a,b,a,b"))) (mCons (mC (.str (Str.ofString "abcdefghi"))) (mCons (mC (.str (Str.ofString "a:b"))) (mNil))))))] (List.set (List.set (startE 4 [D.int k]) 1 (some (.ref e))) 2 (some (.ref m))) T2 = some (.ref T2.length, (T2 ++ [Ob.dK [], Ob.lst ((BW 0).map D.str), Ob.lst ((SS ["a,b,a,b", "abcdefghi", "a:b"]).map D.str), Ob.lst ((BW 1).map D.str)]).set T2.length (.dK [(.inl 0, .ref (T2.length + 1)), (.inl 1, .ref (T2.length + 3))])) := by
  have hlen : (T2 ++ [Ob.dK []]).length = T2.length + 1 := by simp
  rw [hlen] at v0
  have hat : (T2 ++ [Ob.dK [], Ob.lst ((BW 0).map D.str), Ob.lst ((SS ["a,b,a,b", "abcdefghi", "a:b"]).map D.str), Ob.lst ((BW 1).map D.str)])[T2.length]? = some (.dK []) := by simp
  unfold mDisp
  simp only [mPairs]
  simp only [mC] at v0 w1 ⊢
  simp only [Option.bind_some, v0, w1, Option.map_some, hat, keyPs, keyD]
  rfl
 refine wS_then (wS_asg ⟨_, _, hd, rfl, ?_⟩)
 have B : Bk S ((T2 ++ [Ob.dK [], Ob.lst ((BW 0).map D.str), Ob.lst ((SS ["a,b,a,b", "abcdefghi", "a:b"]).map D.str), Ob.lst ((BW 1).map D.str)]).set T2.length (.dK [(.inl 0, .ref (T2.length + 1)), (.inl 1, .ref (T2.length + 3))])) e m T2.length [(0, T2.length + 1, (BW 0).map D.str), (1, T2.length + 3, (BW 1).map D.str)] := by
  have kp : ∀ {i : Nat} {o : Ob}, i ≠ T2.length → (T2 ++ [Ob.dK [], Ob.lst ((BW 0).map D.str), Ob.lst ((SS ["a,b,a,b", "abcdefghi", "a:b"]).map D.str), Ob.lst ((BW 1).map D.str)])[i]? = some o → ∀ {o'}, ((T2 ++ [Ob.dK [], Ob.lst ((BW 0).map D.str), Ob.lst ((SS ["a,b,a,b", "abcdefghi", "a:b"]).map D.str), Ob.lst ((BW 1).map D.str)]).set T2.length o')[i]? = some o := fun hi h o' => by
   rw [List.getElem?_set_ne (Ne.symm hi)]
   exact h
  have hs := E2.len
  refine ⟨kp (by omega) (Ext.new.keep b1), kp (by omega) (Ext.new.keep a2), by omega, by omega, ?_, fun q hq => ?_, hs, (E2.trans Ext.new).set hs⟩
  ·rw [List.getElem?_set_self (by simp)]
   rfl
  ·simp only [List.mem_cons, List.not_mem_nil, or_false] at hq
   rcases hq with rfl | rfl
   ·exact ⟨by simp, by show S.length ≤ T2.length + 1; omega, kp (by simp) (by simp)⟩
   ·exact ⟨by simp, by show S.length ≤ T2.length + 3; omega, kp (by simp) (by simp)⟩
 show WS _ _ _ _
 generalize (T2 ++ [Ob.dK [], Ob.lst ((BW 0).map D.str), Ob.lst ((SS ["a,b,a,b", "abcdefghi", "a:b"]).map D.str), Ob.lst ((BW 1).map D.str)]).set T2.length (.dK [(.inl 0, .ref (T2.length + 1)), (.inl 1, .ref (T2.length + 3))]) = T3 at B
 generalize T2.length = n at B
 refine wS_then (bw_step B (k := 2) (i := 2) (r := m) (kn (by show (2 : Int) ∉ [0, 1]; decide)) (by show 2 ≤ 20; decide) rfl rfl B.fm (by decide) (ys := SS ["1,", "1,,2", "0,-0"]) (by decide) rfl fun T4 B4 => ⟨rfl, ?_⟩)
 refine wS_then (bw_step B4 (k := 3) (i := 1) (r := e) (kn (by show (3 : Int) ∉ [0, 1, 2]; decide)) (by show 3 ≤ 20; decide) rfl rfl B4.fe (by decide) (ys := SS ["in:a", "at", "at:", "at:A", "at:a:b", "with:abcdefghi", ":a"]) (by decide) rfl fun T5 B5 => ⟨rfl, ?_⟩)
 refine wS_then (bw_step B5 (k := 4) (i := 1) (r := e) (kn (by show (4 : Int) ∉ [0, 1, 2, 3]; decide)) (by show 4 ≤ 20; decide) rfl rfl B5.fe (by decide) (ys := SS ["a:", "a:01", "a:x", ":1", "a:1:2", "A:1", "a:1,b"]) (by decide) rfl fun T6 B6 => ⟨rfl, ?_⟩)
 refine wS_then (bw_step B6 (k := 5) (i := 1) (r := e) (kn (by show (5 : Int) ∉ [0, 1, 2, 3, 4]; decide)) (by show 5 ≤ 20; decide) rfl rfl B6.fe (by decide) (ys := SS ["a", "a.", ".a", "a.b.c", "a:b", "a.B"]) (by decide) rfl fun T7 B7 => ⟨rfl, ?_⟩)
 refine wS_then (bw_step B7 (k := 6) (i := 2) (r := m) (kn (by show (6 : Int) ∉ [0, 1, 2, 3, 4, 5]; decide)) (by show 6 ≤ 20; decide) rfl rfl B7.fm (by decide) (ys := SS ["-", "0,1"]) (by decide) rfl fun T8 B8 => ⟨rfl, ?_⟩)
 have fin : ∀ (r : Nat) (xs : List D), valD (([(0, n + 1, (BW 0).map D.str), (1, n + 3, (BW 1).map D.str)] ++ [(2, T3.length + 1, (NU ++ SS ["1,", "1,,2", "0,-0"]).map D.str)] ++ [(3, T4.length + 1, (EV ++ SS ["in:a", "at", "at:", "at:A", "at:a:b", "with:abcdefghi", ":a"]).map D.str)] ++ [(4, T5.length + 1, (EV ++ SS ["a:", "a:01", "a:x", ":1", "a:1:2", "A:1", "a:1,b"]).map D.str)] ++ [(5, T6.length + 1, (EV ++ SS ["a", "a.", ".a", "a.b.c", "a:b", "a.B"]).map D.str)] ++ [(6, T7.length + 1, (NU ++ SS ["-", "0,1"]).map D.str)] : List (Int × Nat × List D)).map fun q => ((.inl q.1 : Key), D.ref q.2.1)) (.inl (k : Int)) = some (.ref r) → S.length ≤ r ∧ T8[r]? = some (.lst xs) → xs = (BW k).map D.str → WS (mRet (mBin ixA (mVar 3) (mVar 0))) (List.set (List.set (List.set (startE 4 [D.int k]) 1 (some (.ref e))) 2 (some (.ref m))) 3 (some (.ref n))) T8 fun f e1 S1 => ∃ d, f = .rt d ∧ ∃ n, d = .ref n ∧ e ≤ n ∧ S1[n]? = some (.lst ((BW k).map D.str)) ∧ Ext S S1 := by
  intro r xs hv hx hxs
  subst hxs
  exact wS_ret (wE_bin (wE_v (d := .ref n) rfl (wE_v (d := .int k) rfl (wR_of (ix_dict B8.fd hv) ⟨_, rfl, r, rfl, Nat.le_trans (Nat.le_of_eq hSe.symm) hx.1, hx.2, B8.x⟩))))
 rcases (by omega : k = 0 ∨ k = 1 ∨ k = 2 ∨ k = 3 ∨ k = 4 ∨ k = 5 ∨ k = 6) with rfl | rfl | rfl | rfl | rfl | rfl | rfl
 ·exact fin _ _ rfl (B8.fl (0, n + 1, (BW 0).map D.str) (by simp)).2 rfl
 ·exact fin _ _ rfl (B8.fl (1, n + 3, (BW 1).map D.str) (by simp)).2 rfl
 ·exact fin _ _ rfl (B8.fl (2, T3.length + 1, _) (by simp)).2 rfl
 ·exact fin _ _ rfl (B8.fl (3, T4.length + 1, _) (by simp)).2 rfl
 ·exact fin _ _ rfl (B8.fl (4, T5.length + 1, _) (by simp)).2 rfl
 ·exact fin _ _ rfl (B8.fl (5, T6.length + 1, _) (by simp)).2 rfl
 ·exact fin _ _ rfl (B8.fl (6, T7.length + 1, _) (by simp)).2 rfl
theorem good_ok (j : Nat) {k : Nat} (hk : k < 7) (S : Sto) : WR (lv (j + 1) 24 [.int k] S) fun d T => d = .str (GW k) ∧ Ext S T := by
 show WR (m24 (lv j) [.int k] S) _
 have hat : (S ++ [Ob.dK []])[S.length]? = some (.dK []) := by simp
 have hd : mDisp [(mC (.int 0), mC (.str (Str.ofString "zz"))), (mC (.int 1), mC (.str (Str.ofString "b,b"))), (mC (.int 2), mC (.str (Str.ofString "0,-9"))), (mC (.int 3), mC (.str (Str.ofString "with:at,at:with"))), (mC (.int 4), mC (.str (Str.ofString "a:0,a:-5"))), (mC (.int 5), mC (.str (Str.ofString "b.a,a.b"))), (mC (.int 6), mC (.str (Str.ofString "-12")))] (startE 2 [D.int k]) S = some (.ref S.length, (S ++ [Ob.dK []]).set S.length (.dK [(.inl 0, .str (GW 0)), (.inl 1, .str (GW 1)), (.inl 2, .str (GW 2)), (.inl 3, .str (GW 3)), (.inl 4, .str (GW 4)), (.inl 5, .str (GW 5)), (.inl 6, .str (GW 6))])) := by
  unfold mDisp
  simp only [mPairs, mC, Option.bind_some, hat, keyPs, keyD, Option.map_some]
  rfl
 have a1 : ((S ++ [Ob.dK []]).set S.length (.dK [(.inl 0, .str (GW 0)), (.inl 1, .str (GW 1)), (.inl 2, .str (GW 2)), (.inl 3, .str (GW 3)), (.inl 4, .str (GW 4)), (.inl 5, .str (GW 5)), (.inl 6, .str (GW 6))]))[S.length]? = some (.dK [(.inl 0, .str (GW 0)), (.inl 1, .str (GW 1)), (.inl 2, .str (GW 2)), (.inl 3, .str (GW 3)), (.inl 4, .str (GW 4)), (.inl 5, .str (GW 5)), (.inl 6, .str (GW 6))]) := List.getElem?_set_self (by simp)
 have E : Ext S ((S ++ [Ob.dK []]).set S.length (.dK [(.inl 0, .str (GW 0)), (.inl 1, .str (GW 1)), (.inl 2, .str (GW 2)), (.inl 3, .str (GW 3)), (.inl 4, .str (GW 4)), (.inl 5, .str (GW 5)), (.inl 6, .str (GW 6))])) := Ext.new.set (Nat.le_refl _)
 unfold m24
 have fin : ∀ {x : D}, valD ([(.inl 0, .str (GW 0)), (.inl 1, .str (GW 1)), (.inl 2, .str (GW 2)), (.inl 3, .str (GW 3)), (.inl 4, .str (GW 4)), (.inl 5, .str (GW 5)), (.inl 6, .str (GW 6))] : List (Key × D)) (.inl (k : Int)) = some x → x = .str (GW k) → WR (mBody 2 (mSeq (mAsg (mDisp [(mC (.int 0), mC (.str (Str.ofString "zz"))), (mC (.int 1), mC (.str (Str.ofString "b,b"))), (mC (.int 2), mC (.str (Str.ofString "0,-9"))), (mC (.int 3), mC (.str (Str.ofString "with:at,at:with"))), (mC (.int 4), mC (.str (Str.ofString "a:0,a:-5"))), (mC (.int 5), mC (.str (Str.ofString "b.a,a.b"))), (mC (.int 6), mC (.str (Str.ofString "-12")))]) (gN 1)) (mRet (mBin ixA (mVar 1) (mVar 0)))) [.int k] S) fun d T => d = .str (GW k) ∧ Ext S T := fun {x} hv hx => by
  subst hx
  exact wB (wS_then (wS_asg ⟨_, _, hd, rfl, wS_ret (wE_bin (wE_v (d := .ref S.length) rfl (wE_v (d := .int k) rfl (wR_of (ix_dict a1 hv) ⟨_, rfl, rfl, E⟩))))⟩))
 rcases (by omega : k = 0 ∨ k = 1 ∨ k = 2 ∨ k = 3 ∨ k = 4 ∨ k = 5 ∨ k = 6) with rfl | rfl | rfl | rfl | rfl | rfl | rfl
 ·exact fin rfl rfl
 ·exact fin rfl rfl
 ·exact fin rfl rfl
 ·exact fin rfl rfl
 ·exact fin rfl rfl
 ·exact fin rfl rfl
 ·exact fin rfl rfl
end K33
end
section
namespace K33
open PySem PySem.Spec PyProof.Rows L2 PL WP
def sub (ws : List Str) (k : Nat) (w : Str) : List Str := ws.take k ++ [w] ++ ws.drop (k + 1)
theorem sub_lt {ws : List Str} {k i : Nat} {w : Str} (hk : k ≤ ws.length) (hi : i < k) : (sub ws k w)[i]? = ws[i]? := by
 unfold sub
 rw [List.append_assoc, List.getElem?_append_left (by rw [List.length_take]; omega), List.getElem?_take_of_lt hi]
theorem sub_at {ws : List Str} {k : Nat} {w : Str} (hk : k ≤ ws.length) : (sub ws k w)[k]? = some w := by
 unfold sub
 have h : (ws.take k).length = k := by rw [List.length_take]; omega
 rw [List.append_assoc, List.getElem?_append_right (by omega), h, Nat.sub_self]
 rfl
theorem sub_mem {ws : List Str} {k : Nat} {w x : Str} (h : x ∈ sub ws k w) : x = w ∨ x ∈ ws := by
 unfold sub at h
 simp only [List.mem_append, List.mem_singleton] at h
 rcases h with (h | h) | h
 ·exact .inr (List.mem_of_mem_take h)
 ·exact .inl h
 ·exact .inr (List.mem_of_mem_drop h)
theorem sub_len {ws : List Str} {k : Nat} {w : Str} (hk : k < ws.length) : (sub ws k w).length = ws.length := by
 unfold sub
 simp only [List.length_append, List.length_take, List.length_drop, List.length_singleton]
 omega
structure Bad (k : Nat) (w : Str) : Prop where
 r : rd k w = some .non
 f : 32 ∉ cp w
 l : w.length ≤ 600
theorem bad_of {k : Nat} (hk : k < 7) {w : Str} (hw : w ∈ BW k) : Bad k w := by
 have h := List.all_eq_true.mp (List.all_eq_true.mp bad_all k (List.mem_range.mpr hk)) w hw
 unfold badOk at h
 simp only [Bool.and_eq_true, decide_eq_true_eq, Bool.not_eq_true', List.contains_eq_mem, decide_eq_false_iff_not] at h
 obtain ⟨h1, h2, h3⟩ := h
 refine ⟨?_, h2, by omega⟩
 obtain ⟨d, e, hd⟩ := Option.map_eq_some_iff.mp h1
 rw [e]
 cases d <;> first | rfl | cases hd
theorem bad_lens {k : Nat} (hk : k < 7) : 7 ≤ (BW k).length := of_decide_eq_true (List.all_eq_true.mp bad_len k (List.mem_range.mpr hk))
def Thing (d : D) : Prop := ∃ x k, d = .tup [.str x, .int (k : Nat)] ∧ k ≤ 7 ∧ Sr x (exK k)
theorem Wds.sub {ws : List Str} (h : Wds ws) {k : Nat} (hk : k < ws.length) {w : Str} (hf : 32 ∉ cp w) (hl : w.length ≤ 600) : Wds (sub ws k w) := by
 refine ⟨fun z => ?_, fun x hx => ?_, fun x hx => ?_, by rw [sub_len hk]; exact h.few⟩
 ·have := sub_len (w := w) hk
  rw [z] at this
  simp only [List.length_nil] at this
  omega
 ·rcases sub_mem hx with rfl | hx
  ·exact hf
  ·exact h.free x hx
 ·rcases sub_mem hx with rfl | hx
  ·exact hl
  ·exact h.len x hx
theorem Wds.app {ws zs : List Str} (h : Wds ws) (hz : ∀ z ∈ zs, 32 ∉ cp z ∧ z.length ≤ 600) (hl : ws.length + zs.length ≤ 20) : Wds (ws ++ zs) := by
 refine ⟨fun z => h.ne (List.append_eq_nil_iff.mp z).1, fun x hx => ?_, fun x hx => ?_, by rw [List.length_append]; exact hl⟩
 ·rcases List.mem_append.mp hx with hx | hx
  ·exact h.free x hx
  ·exact (hz x hx).1
 ·rcases List.mem_append.mp hx with hx | hx
  ·exact h.len x hx
  ·exact (hz x hx).2
section
variable {p : Po}
theorem Po.wlen (p : Po) : p.W.length = 7 := rfl
theorem Told.pre {ws ws' : List Str} {vals : Nat → D} {K : Nat} (t : Told ws vals 7) (hK : K ≤ 7) (h : ∀ i, i < K → ws'[i]? = ws[i]?) : Told ws' vals K :=
 ⟨fun i hi => by
  obtain ⟨w, h1, h2⟩ := t.get i (by omega)
  exact ⟨w, by rw [h i hi]; exact h1, h2⟩, fun i hi => t.plain i (by omega)⟩
theorem cut_sr (h : p.Ok) {k : Nat} (h1 : 1 ≤ k) (h2 : k < 7) : Sr (txt (p.W.take k)) (exK k) := by
 have hw := wds_ok h
 have hl : (p.W.take k).length = k := by rw [List.length_take, p.wlen]; omega
 refine sr_stop ⟨fun z => ?_, fun x hx => hw.free x (List.mem_of_mem_take hx), fun x hx => hw.len x (List.mem_of_mem_take hx), by omega⟩ ((told_ok h).pre (by omega) fun i hi => List.getElem?_take_of_lt hi) h2 (.inl (by omega))
 rw [z] at hl
 simp only [List.length_nil] at hl
 omega
theorem long_sr (h : p.Ok) {zs : List Str} (hne : 0 < zs.length) (hl : zs.length ≤ 2) (hz : ∀ z ∈ zs, 32 ∉ cp z ∧ z.length ≤ 600) : Sr (txt (p.W ++ zs)) (exK 7) := by
 refine sr_long ((wds_ok h).app hz (by rw [p.wlen]; omega)) ((told_ok h).pre (by omega) fun i hi => List.getElem?_append_left (by rw [p.wlen]; exact hi)) ?_
 rw [List.length_append, p.wlen]
 omega
theorem void_sr {zs : List Str} (hl : zs.length ≤ 10) (hz : ∀ z ∈ zs, 32 ∉ cp z ∧ z.length ≤ 600) : Sr (txt (Str.ofString "" :: zs)) (exK 0) := by
 have b := bad_of (k := 0) (by omega) (w := Str.ofString "") (by show _ ∈ SS _; simp [SS])
 refine sr_stop (vals := fun _ => .non) (K := 0) ⟨by simp, fun x hx => ?_, fun x hx => ?_, by simp; omega⟩ ⟨fun i hi => absurd hi (by omega), fun i hi => absurd hi (by omega)⟩ (by omega) (.inr ⟨_, rfl, b.r⟩)
 ·rcases List.mem_cons.mp hx with rfl | hx
  ·exact b.f
  ·exact (hz x hx).1
 ·rcases List.mem_cons.mp hx with rfl | hx
  ·exact b.l
  ·exact (hz x hx).2
theorem sub_sr (h : p.Ok) {k : Nat} (hk : k < 7) {w : Str} (b : Bad k w) : Sr (txt (sub p.W k w)) (exK k) :=
 sr_stop ((wds_ok h).sub (by rw [p.wlen]; exact hk) b.f b.l) ((told_ok h).pre (by omega) fun i hi => sub_lt (by rw [p.wlen]; omega) hi) hk (.inr ⟨w, sub_at (by rw [p.wlen]; omega), b.r⟩)
theorem both_sr (h : p.Ok) {k m : Nat} (hk : k < m) (hm : m < 7) {w u : Str} (b : Bad k w) (c : Bad m u) : Sr (txt (sub (sub p.W k w) m u)) (exK k) := by
 have hl : (sub p.W k w).length = 7 := by rw [sub_len (by rw [p.wlen]; omega)]; rfl
 refine sr_stop (((wds_ok h).sub (by rw [p.wlen]; omega) b.f b.l).sub (by omega) c.f c.l) ((told_ok h).pre (by omega) fun i hi => ?_) (by omega) (.inr ⟨w, ?_, b.r⟩)
 ·rw [sub_lt (by omega) (by omega), sub_lt (by rw [p.wlen]; omega) hi]
 ·rw [sub_lt (by omega) hk, sub_at (by rw [p.wlen]; omega)]
def Po.late (p : Po) : Nat → Po
 | 0 => { p with s := Str.ofString "zz" }
 | 1 => { p with pi := SS ["b", "b"] }
 | 2 => { p with wo := [0, -9] }
 | 3 => { p with wh := [(Str.ofString "with", Str.ofString "at"), (Str.ofString "at", Str.ofString "with")] }
 | 4 => { p with se := [(Str.ofString "a", 0), (Str.ofString "a", -5)] }
 | 5 => { p with ke := [(Str.ofString "b", Str.ofString "a"), (Str.ofString "a", Str.ofString "b")] }
 | _ => { p with dg := -12 }
theorem tx (x : String) (h : Str.ofString x ∈ SS ["at", "with", "zz", "a", "b", "c", "d", "e", "f", "g", "h", "p", "q", "r", "s"]) : tgB (Str.ofString x) = true := List.all_eq_true.mp tx_ok _ h
theorem nx (i : Int) (h : i ∈ ([0, 1, 2, 3, 5, 9, -9, -5, -12] : List Int)) : nmB i = true := List.all_eq_true.mp nx_ok _ h
theorem late_ok (h : p.Ok) {k : Nat} (hk : k < 7) : (p.late k).Ok ∧ (p.late k).W = sub p.W k (GW k) := by
 have ta := tx "a" (by simp [SS])
 have tb := tx "b" (by simp [SS])
 have tat := tx "at" (by simp [SS])
 have twi := tx "with" (by simp [SS])
 rcases (by omega : k = 0 ∨ k = 1 ∨ k = 2 ∨ k = 3 ∨ k = 4 ∨ k = 5 ∨ k = 6) with rfl | rfl | rfl | rfl | rfl | rfl | rfl
 ·exact ⟨{ h with s := tx "zz" (by simp [SS]) }, rfl⟩
 ·refine ⟨{ h with pi := fun x hx => ?_, l1 := (by decide : 2 ≤ 3) }, ?_⟩
  ·have hx : x ∈ SS ["b", "b"] := hx
   simp only [SS, List.map_cons, List.map_nil, List.mem_cons, List.not_mem_nil, or_false, or_self] at hx
   rw [hx]
   exact tb
  ·have e : jn (SS ["b", "b"]) = GW 1 := by decide +kernel
   show [p.s, jn (SS ["b", "b"]), _, _, _, _, _] = _
   rw [e]
   rfl
 ·refine ⟨{ h with wo := fun x hx => ?_, l2 := (by decide : 2 ≤ 8) }, ?_⟩
  ·have hx : x ∈ ([0, -9] : List Int) := hx
   simp only [List.mem_cons, List.not_mem_nil, or_false] at hx
   rcases hx with rfl | rfl
   ·exact nx 0 (by simp)
   ·exact nx (-9) (by simp)
  ·have e : jn (([0, -9] : List Int).map istr) = GW 2 := by decide +kernel
   show [p.s, jn p.pi, jn (([0, -9] : List Int).map istr), _, _, _, _] = _
   rw [e]
   rfl
 ·refine ⟨{ h with wh := fun x hx => ?_, l3 := (by decide : 2 ≤ 8) }, ?_⟩
  ·have hx : x ∈ [(Str.ofString "with", Str.ofString "at"), (Str.ofString "at", Str.ofString "with")] := hx
   simp only [List.mem_cons, List.not_mem_nil, or_false] at hx
   rcases hx with rfl | rfl
   ·exact ⟨by decide +kernel, twi, tat⟩
   ·exact ⟨by decide +kernel, tat, twi⟩
  ·have e : jn ([(Str.ofString "with", Str.ofString "at"), (Str.ofString "at", Str.ofString "with")].map (pT col)) = GW 3 := by decide +kernel
   show [p.s, jn p.pi, jn (p.wo.map istr), jn ([(Str.ofString "with", Str.ofString "at"), (Str.ofString "at", Str.ofString "with")].map (pT col)), _, _, _] = _
   rw [e]
   rfl
 ·refine ⟨{ h with se := fun x hx => ?_, l4 := (by decide : 2 ≤ 8) }, ?_⟩
  ·have hx : x ∈ ([(Str.ofString "a", 0), (Str.ofString "a", -5)] : List (Str × Int)) := hx
   simp only [List.mem_cons, List.not_mem_nil, or_false] at hx
   rcases hx with rfl | rfl
   ·exact ⟨ta, nx 0 (by simp)⟩
   ·exact ⟨ta, nx (-5) (by simp)⟩
  ·have e : jn (([(Str.ofString "a", 0), (Str.ofString "a", -5)] : List (Str × Int)).map sT) = GW 4 := by decide +kernel
   show [p.s, jn p.pi, jn (p.wo.map istr), jn (p.wh.map (pT col)), jn (([(Str.ofString "a", 0), (Str.ofString "a", -5)] : List (Str × Int)).map sT), _, _] = _
   rw [e]
   rfl
 ·refine ⟨{ h with ke := fun x hx => ?_, l5 := (by decide : 2 ≤ 32) }, ?_⟩
  ·have hx : x ∈ [(Str.ofString "b", Str.ofString "a"), (Str.ofString "a", Str.ofString "b")] := hx
   simp only [List.mem_cons, List.not_mem_nil, or_false] at hx
   rcases hx with rfl | rfl
   ·exact ⟨tb, ta⟩
   ·exact ⟨ta, tb⟩
  ·have e : jn ([(Str.ofString "b", Str.ofString "a"), (Str.ofString "a", Str.ofString "b")].map (pT dot)) = GW 5 := by decide +kernel
   show [p.s, jn p.pi, jn (p.wo.map istr), jn (p.wh.map (pT col)), jn (p.se.map sT), jn ([(Str.ofString "b", Str.ofString "a"), (Str.ofString "a", Str.ofString "b")].map (pT dot)), _] = _
   rw [e]
   rfl
 ·refine ⟨{ h with dg := nx (-12) (by simp) }, ?_⟩
  have e : istr (-12) = GW 6 := by decide +kernel
  show [p.s, jn p.pi, jn (p.wo.map istr), jn (p.wh.map (pT col)), jn (p.se.map sT), jn (p.ke.map (pT dot)), istr (-12)] = _
  rw [e]
  rfl
end
end K33
end
section
namespace K33
open PySem PySem.Spec PyProof.Rows L2 PL WP
section
variable {env : PL.Env} {T : Sto}
def Lst (ws : List Str) (T : Sto) (d : D) (T' : Sto) : Prop := ∃ n, d = .ref n ∧ T'[n]? = some (.lst (ws.map D.str)) ∧ T.length ≤ n ∧ Ext T T'
theorem sub_ev {i kv r k : Nat} {e : ME} {w : Str} {ws : List Str} (hi : env[i]? = some (some (.ref r))) (hk : env[kv]? = some (some (.int (k : Nat)))) (hr : T[r]? = some (.lst (ws.map D.str))) (hl : ws.length ≤ 20) (hkl : k < 20)
  (he : ∀ T', Ext T T' → WE e env T' fun d T'' => d = .str w ∧ Ext T' T'') :
  WE (mBin dAdd (mBin dAdd (mSl slA (mVar i) (mNo) (mPart (mVar kv))) (mLst (mCons e (mNil)))) (mSl slA (mVar i) (mPart (mBin dAdd (mVar kv) (mC (.int 1)))) (mNo))) env T fun d T' => Lst (sub ws k w) T d T' := by
 refine wE_bin (wE_bin (wE_slTo (wE_v hi (wE_v hk ⟨k, rfl, by omega, wR_of (slA_to hr) ?_⟩))))
 have a1 : (T ++ [Ob.lst ((ws.map D.str).take k)])[T.length]? = some (.lst ((ws.map D.str).take k)) := disp_at
 have E1 : Ext T (T ++ [Ob.lst ((ws.map D.str).take k)]) := Ext.new
 generalize T ++ [Ob.lst ((ws.map D.str).take k)] = T1 at a1 E1
 refine wE_lst (wA_cons ((he T1 E1).mono ?_))
 rintro _ T2 ⟨rfl, E2⟩
 refine wA_nil ⟨WP.sz (by simp), ?_⟩
 have a2 : (T2 ++ [Ob.lst [D.str w]])[T2.length]? = some (.lst [D.str w]) := disp_at
 have b1 := (Ext.new (S := T2) (T := [Ob.lst [D.str w]])).keep (E2.keep a1)
 have E3 := (E1.trans E2).trans (Ext.new (S := T2) (T := [Ob.lst [D.str w]]))
 generalize T2 ++ [Ob.lst [D.str w]] = T3 at a2 b1 E3
 refine wR_of (catL b1 a2 (by rw [List.length_take, List.length_map]; show min k ws.length + 1 ≤ 100000; omega)) ?_
 have a4 : (T3 ++ [Ob.lst ((ws.map D.str).take k ++ [D.str w])])[T3.length]? = some (.lst ((ws.map D.str).take k ++ [D.str w])) := disp_at
 have E4 := E3.trans (Ext.new (S := T3) (T := [Ob.lst ((ws.map D.str).take k ++ [D.str w])]))
 generalize T3 ++ [Ob.lst ((ws.map D.str).take k ++ [D.str w])] = T4 at a4 E4
 refine wE_slFrom (wE_v hi (wE_bin (wE_v hk (wE_c (wR_of (d := .int ((k : Int) + 1)) (S' := T4) rfl ⟨k + 1, rfl, by omega, wR_of (slA_from (E4.keep hr)) ?_⟩)))))
 have a5 : (T4 ++ [Ob.lst ((ws.map D.str).drop (k + 1))])[T4.length]? = some (.lst ((ws.map D.str).drop (k + 1))) := disp_at
 have b4 := (Ext.new (S := T4) (T := [Ob.lst ((ws.map D.str).drop (k + 1))])).keep a4
 have E5 := E4.trans (Ext.new (S := T4) (T := [Ob.lst ((ws.map D.str).drop (k + 1))]))
 generalize T4 ++ [Ob.lst ((ws.map D.str).drop (k + 1))] = T5 at a5 b4 E5
 refine wR_of (catL b4 a5 (by simp only [List.length_append, List.length_take, List.length_drop, List.length_map, List.length_singleton]; omega)) ⟨_, rfl, ?_, E5.len, E5.trans Ext.new⟩
 rw [disp_at]
 unfold sub
 simp
theorem join_ev {m : ME} {ws : List Str} (hw : Wds ws) (h : WE m env T fun d T' => ∃ n, d = .ref n ∧ T'[n]? = some (.lst (ws.map D.str)) ∧ Ext T T') : WE (mMt "str" gJoinA (mC (.str (Str.ofString " "))) (mCons m mNil)) env T fun d T' => d = .str (txt ws) ∧ Ext T T' := by
 refine wE_mt (wE_c ⟨rfl, wA_cons (h.mono ?_)⟩)
 rintro _ T' ⟨n, rfl, hn, E⟩
 exact wA_nil (wR_of (join_okA (c := sp) (seqs_ref hn) (by decide +kernel) hw.len (by have := hw.few; omega)) ⟨rfl, E⟩)
theorem join_v {i r : Nat} {ws : List Str} (hw : Wds ws) (hi : env[i]? = some (some (.ref r))) (hr : T[r]? = some (.lst (ws.map D.str))) : mMt "str" gJoinA (mC (.str (Str.ofString " "))) (mCons (mVar i) mNil) env T = some (.str (txt ws), T) :=
 WE.eq (wE_mt (wE_c ⟨rfl, wA_cons (wE_v hi (wA_nil (wR_of (join_okA (c := sp) (seqs_ref hr) (by decide +kernel) hw.len (by have := hw.few; omega)) ⟨rfl, rfl⟩)))⟩))
theorem hd_text (k : Nat) (T : Sto) : ∃ U, hdS (Str.ofString "NoText") [Str.ofString "word", Str.ofString "line"] [.int (k : Nat), .int 0] T = some (.tup [.str (Str.ofString "text"), .int 0, .int (k : Nat)], U) ∧ Ext T U := ⟨_, by unfold hdS; rw [if_pos ⟨rfl, rfl⟩], Ext.new⟩
theorem said_text {m : ME} {k : Nat} (h : WE m env T fun d U => d = exK k ∧ Ext T U) : WE (mSaid (Str.ofString "told") hdS m) env T fun d U => d = .tup [.str (Str.ofString "text"), .int 0, .int (k : Nat)] ∧ Ext T U := by
 refine wE_saidX (h.mono ?_)
 rintro _ U ⟨rfl, E⟩
 obtain ⟨V, e, E2⟩ := hd_text k U
 exact ⟨_, _, _, _, _, _, V, rfl, e, rfl, E.trans E2⟩
theorem said_told {m : ME} {p : Po} (h : WE m env T fun d U => d = p.D ∧ Ext T U) : WE (mSaid (Str.ofString "told") hdS m) env T fun d U => d = .tup [.str (Str.ofString "told"), p.D] ∧ Ext T U := by
 refine wE_saidV (h.mono ?_)
 rintro _ U ⟨rfl, E⟩
 exact ⟨rfl, rfl, E⟩
theorem call_rd (j : Nat) {x : Str} {d : D} {m : ME} (s : Sr x d) (h : WE m env T fun y U => y = .str x ∧ Ext T U) : WE (mCallD 1 [] (lv (j + 7) 27) (mCons m mNil)) env T fun y U => y = d ∧ Ext T U := by
 refine wE_callD (wA_cons (h.mono ?_))
 rintro _ U ⟨rfl, E⟩
 exact wA_nil ⟨rfl, (s j U).mono fun y V q => ⟨q.1, E.trans q.2⟩⟩
theorem call_rdK (j : Nat) {x : Str} {d : D} {m : ME} (s : Sr x d) (h : WE m env T fun y U => y = .str x ∧ Ext T U) : WE (mCallK 1 1 [0] (lv (j + 7) 27) (mCons m mNil)) env T fun y U => y = d ∧ Ext T U := by
 refine wE_callK (wA_cons (h.mono ?_))
 rintro _ U ⟨rfl, E⟩
 exact wA_nil ⟨⟨rfl, rfl⟩, (s j U).mono fun y V q => ⟨q.1, E.trans q.2⟩⟩
def Rs (d : D) : Prop := ∃ s : Str, ∀ T, gRr [d] T = some (.str s, T)
theorem rs_post {p : Po} (h : p.Ok) : Rs p.D := rep_fd (Po.fd h) (by omega) (by omega)
theorem str_fd (x : String) (hl : (Str.ofString x).length ≤ 9) (hc : ∀ c ∈ cp (Str.ofString x), c < 1114112) (m : Nat) : Fd 210 m (.str (Str.ofString x)) := .str (by omega) hc
theorem rs_told {p : Po} (h : p.Ok) : Rs (.tup [.str (Str.ofString "told"), p.D]) :=
 rep_fd (c := 90000) (m := 4) (.tup (k := 85000) (.cons (str_fd "told" (by decide +kernel) (by decide +kernel) 3) (.cons (Po.fd h) (.nil (c := 0)) (by omega : 80000 + 0 + 5 ≤ 80005)) (by omega)) (by omega)) (by omega) (by omega)
theorem rs_text {k : Nat} (hk : k ≤ 7) : Rs (.tup [.str (Str.ofString "text"), .int 0, .int (k : Nat)]) := by
 have hb : 7 ≤ big := by decide
 exact rep_fd (c := 1000) (m := 1) (.tup (k := 900) (.cons (str_fd "text" (by decide +kernel) (by decide +kernel) 0) (.cons (.int (Nat.le_refl 210) (by decide)) (.cons (.int (Nat.le_refl 210) (by omega)) (.nil (c := 0)) (by omega : 210 + 0 + 5 ≤ 215)) (by omega : 210 + 215 + 5 ≤ 430)) (by omega)) (by omega)) (by omega) (by omega)
theorem ne_str (x : Str) (T : Sto) : dNe (.str x) (.str x) T = some (.bl false, T) := by simp [dNe, PL.alt, sEq]
theorem eq_str (x : Str) (T : Sto) : dEq (.str x) (.str x) T = some (.bl true, T) := by simp [dEq, PL.alt, sEq]
theorem ne_rep {a b : ME} {d : D} (r : Rs d) (ha : WE a env T fun x U => x = d ∧ Ext T U) (hb : ∀ U, Ext T U → WE b env U fun x V => x = d ∧ Ext U V) {Q : Bool → Sto → Prop} (q : ∀ U, Ext T U → Q false U) :
  WT (asB (mBin dNe (mBlt gRr (mCons a mNil)) (mBlt gRr (mCons b mNil)))) env T Q := by
 obtain ⟨s, hs⟩ := r
 refine wT_b (wE_bin (wE_blt (wA_cons (ha.mono ?_))))
 rintro _ U ⟨rfl, E⟩
 refine wA_nil (wR_of (hs U) (wE_blt (wA_cons ((hb U E).mono ?_))))
 rintro _ V ⟨rfl, E2⟩
 exact wA_nil (wR_of (hs V) (wR_of (ne_str s V) ⟨_, rfl, q V (E.trans E2)⟩))
end
end K33
end
section
namespace K33
open PySem PySem.Spec PyProof.Rows L2 PL WP
structure Cx (p : Po) (ns : List Int) (wl tl kk N : Nat) (T : Sto) : Prop where
 w : T[wl]? = some (.lst (p.W.map D.str))
 t : ∃ th, T[tl]? = some (.lst th) ∧ (∀ x ∈ th, Thing x) ∧ th.length ≤ N
 f : FeedAt ns kk T
 ne : wl ≠ tl
 h1 : 4 ≤ wl
 h2 : 4 ≤ tl
section
variable {p : Po} {ns : List Int} {wl tl kk N : Nat} {T T' : Sto} {env : PL.Env}
theorem Cx.ext (c : Cx p ns wl tl kk N T) (E : Ext T T') : Cx p ns wl tl kk N T' := by
 obtain ⟨th, h1, h2, h3⟩ := c.t
 exact ⟨E.keep c.w, ⟨th, E.keep h1, h2, h3⟩, E.feed c.f, c.ne, c.h1, c.h2⟩
theorem Cx.go {k' : Nat} (c : Cx p ns wl tl kk N T) (G : Go [] T T') (f : FeedAt ns k' T') : Cx p ns wl tl k' N T' := by
 obtain ⟨th, h1, h2, h3⟩ := c.t
 have a := c.h1
 have b := c.h2
 exact ⟨G.keep _ _ (by omega) (by simp) c.w, ⟨th, G.keep _ _ (by omega) (by simp) h1, h2, h3⟩, f, c.ne, c.h1, c.h2⟩
theorem Cx.more {M : Nat} (c : Cx p ns wl tl kk N T) (h : N ≤ M) : Cx p ns wl tl kk M T := by
 obtain ⟨th, h1, h2, h3⟩ := c.t
 exact ⟨c.w, ⟨th, h1, h2, by omega⟩, c.f, c.ne, c.h1, c.h2⟩
theorem app_ev {e : ME} {x : D} (c : Cx p ns wl tl kk N T) (hN : N < 1000) (h6 : env[6]? = some (some (.ref tl))) (h : WE e env T fun d T' => d = x ∧ Ext T T') (hx : Thing x) {Q : Flw → PL.Env → Sto → Prop}
  (q : ∀ T', Cx p ns wl tl kk (N + 1) T' → (∀ i o, i ≠ tl → T[i]? = some o → T'[i]? = some o) → Q .nx env T') : WS (mDrop (mMt "list" gAppend (mVar 6) (mCons e mNil))) env T Q := by
 obtain ⟨th, h1, h2, h3⟩ := c.t
 refine wS_drop (wE_mt (wE_v h6 ⟨dIs_list h1, wA_cons (h.mono ?_)⟩))
 rintro _ T1 ⟨rfl, E⟩
 have h1' := E.keep h1
 refine wA_nil (wR_of (app_okL h1' (by omega)) (q _ ?_ ?_))
 ·refine ⟨?_, ⟨_, List.getElem?_set_self (List.getElem?_eq_some_iff.mp h1').1, fun y hy => ?_, by simp; omega⟩, (E.feed c.f).set c.h2, c.ne, c.h1, c.h2⟩
  ·rw [List.getElem?_set_ne (Ne.symm c.ne)]
   exact E.keep c.w
  ·rcases List.mem_append.mp hy with hy | hy
   ·exact h2 y hy
   ·rw [List.mem_singleton.mp hy]
    exact hx
 ·intro i o hi ho
  rw [List.getElem?_set_ne (Ne.symm hi)]
  exact E.keep ho
end
def E7 (p : Po) (tu : D) (ks : Str) (wl tl : Nat) (r : List (Option D)) : PL.Env := some (.ref 0) :: some (.ref 3) :: some tu :: some p.D :: some (.str ks) :: some (.ref wl) :: some (.ref tl) :: r
section
variable {p : Po} {ns : List Int} {wl tl kk N : Nat} {tu : D} {ks : Str}
theorem pair_ev {env : PL.Env} {T : Sto} {m : ME} {x : Str} {k i : Nat} (h : WE m env T fun d U => d = .str x ∧ Ext T U) (hi : env[i]? = some (some (.int (k : Nat)))) : WE (mTup (mCons m (mCons (mVar i) mNil))) env T fun d U => d = .tup [.str x, .int (k : Nat)] ∧ Ext T U := by
 refine wE_tup (wA_cons (h.mono ?_))
 rintro _ U ⟨rfl, E⟩
 exact wA_cons (wE_v hi (wA_nil ⟨WP.sz (by simp), rfl, E⟩))
theorem bads_ok (h : p.Ok) (j : Nat) {k : Nat} (hk : k < 7) {T : Sto} {x8 x9 x10 x11 x12 x13 x14 x15 x16 x17 x18 x19 : Option D} (c : Cx p ns wl tl kk N T) (hN : N ≤ 200) :
  WS (mFor (mItr (mCall 1 (lv (j + 1) 23) (mCons (mVar 7) (mNil)))) (gN 8) (mDrop (mMt "list" gAppend (mVar 6) (mCons (mTup (mCons (mMt "str" gJoinA (mC (.str (Str.ofString " "))) (mCons (mBin dAdd (mBin dAdd (mSl slA (mVar 5) (mNo) (mPart (mVar 7))) (mLst (mCons (mVar 8) (mNil)))) (mSl slA (mVar 5) (mPart (mBin dAdd (mVar 7) (mC (.int 1)))) (mNo))) (mNil))) (mCons (mVar 7) (mNil)))) (mNil)))))
   (E7 p tu ks wl tl [some (.int (k : Nat)), x8, x9, x10, x11, x12, x13, x14, x15, x16, x17, x18, x19]) T fun f e' T' => f = .nx ∧ (∃ y8, e' = E7 p tu ks wl tl [some (.int (k : Nat)), y8, x9, x10, x11, x12, x13, x14, x15, x16, x17, x18, x19]) ∧ Cx p ns wl tl kk (N + 14) T' := by
 obtain ⟨d, T1, e1, n, rfl, hn, hT1, E1⟩ := bad_ok j hk T
 have hlen : (BW k).length ≤ 14 := by
  rcases (by omega : k = 0 ∨ k = 1 ∨ k = 2 ∨ k = 3 ∨ k = 4 ∨ k = 5 ∨ k = 6) with rfl | rfl | rfl | rfl | rfl | rfl | rfl <;> decide
 have c1 := c.ext E1
 have htl : tl < T.length := by
  obtain ⟨th, h1, _⟩ := c.t
  exact (List.getElem?_eq_some_iff.mp h1).1
 have hmc : mCall 1 (lv (j + 1) 23) (mCons (mVar 7) (mNil)) (E7 p tu ks wl tl [some (.int (k : Nat)), x8, x9, x10, x11, x12, x13, x14, x15, x16, x17, x18, x19]) T = some (.ref n, T1) := WE.eq (wE_call (wA_cons (wE_v rfl (wA_nil ⟨rfl, wR_of e1 ⟨rfl, rfl⟩⟩))))
 refine wS_for (n := (BW k).length) (nx := nxL n) (S1 := T1) (I := fun i e U => (∃ y8, e = E7 p tu ks wl tl [some (.int (k : Nat)), y8, x9, x10, x11, x12, x13, x14, x15, x16, x17, x18, x19]) ∧ U[n]? = some (.lst ((BW k).map D.str)) ∧ Cx p ns wl tl kk (N + i) U) ?_ ⟨⟨_, rfl⟩, hT1, c1⟩ ?_ ?_ ?_
 ·have := itr_ref hmc hT1
  rw [List.length_map] at this
  exact this
 ·rintro i e U hi ⟨⟨y8, rfl⟩, hU, cU⟩
  have hb : (BW k)[i]? = some (BW k)[i] := List.getElem?_eq_getElem hi
  have b := bad_of hk (List.getElem_mem hi)
  refine ⟨.str (BW k)[i], E7 p tu ks wl tl [some (.int (k : Nat)), some (.str (BW k)[i]), x9, x10, x11, x12, x13, x14, x15, x16, x17, x18, x19], U, ?_, rfl, ?_⟩
  ·rw [nxL_in hU (by rw [List.length_map]; exact hi), List.getElem_map]
  have hw := (wds_ok h).sub (by rw [p.wlen]; exact hk) b.f b.l
  refine app_ev cU (by omega) rfl (pair_ev (join_ev hw ((sub_ev rfl rfl cU.w (by rw [p.wlen]; omega) (by omega) (fun T' E => wE_v rfl ⟨rfl, Ext.refl⟩)).mono ?_)) rfl) ⟨_, k, rfl, by omega, sub_sr h hk b⟩ (fun T' cT kp => ?_)
  ·rintro d V ⟨m, rfl, hm, _, E⟩
   exact ⟨m, rfl, hm, E⟩
  ·exact ⟨rfl, ⟨_, rfl⟩, kp n _ (by omega) hU, cT⟩
 ·rintro e U ⟨_, hU, _⟩
  have := nxL_end hU
  rw [List.length_map] at this
  exact this
 ·rintro e' U ⟨h1, _, cU⟩
  exact ⟨rfl, h1, cU.more (by omega)⟩
end
end K33
end
section
namespace K33
open PySem PySem.Spec PyProof.Rows L2 PL WP
section
variable {p : Po} {ns : List Int} {wl tl kk N : Nat} {tu : D} {ks : Str}
theorem draw7 (j : Nat) {env : PL.Env} {T : Sto} (f : FeedAt ns kk T) (hk : kk < 100000) (h1 : env[1]? = some (some (.ref 3))) : WE (mCall 2 (lv (j + 8) 18) (mCons (mVar 1) (mCons (mC (.int 7)) (mNil)))) env T fun d U => ∃ r : Nat, d = .int r ∧ r < 7 ∧ FeedAt ns (kk + 1) U ∧ Go [] T U := by
 obtain ⟨r, U, e, hr, f', G⟩ := draw_ok f (by omega) (lv (j + 7)) 7 (by decide) (by decide)
 exact wE_call (wA_cons (wE_v h1 (wA_cons (wE_c (wA_nil ⟨rfl, wR_of (show lv (j + 8) 18 _ _ = _ from e) ⟨r, rfl, by omega, f', G⟩⟩)))))
theorem pick_bad (j : Nat) {env : PL.Env} {T : Sto} {s k : Nat} (f : FeedAt ns kk T) (hkk : kk < 100000) (h1 : env[1]? = some (some (.ref 3))) (hs : env[s]? = some (some (.int (k : Nat)))) (hk : k < 7) :
  WE (mBin ixA (mCall 1 (lv (j + 8) 23) (mCons (mVar s) (mNil))) (mCall 2 (lv (j + 8) 18) (mCons (mVar 1) (mCons (mC (.int 7)) (mNil))))) env T fun d U => ∃ w, d = .str w ∧ Bad k w ∧ FeedAt ns (kk + 1) U ∧ Go [] T U := by
 refine wE_bin (wE_call (wA_cons (wE_v hs (wA_nil ⟨rfl, (bad_ok (j + 7) hk T).mono ?_⟩))))
 rintro _ T1 ⟨n, rfl, hn, hT1, E⟩
 have f1 := E.feed f
 refine (draw7 j f1 hkk h1).mono ?_
 rintro _ U ⟨r, rfl, hr, fU, G⟩
 have hl := bad_lens hk
 have h4 := f.len
 have hU := G.keep _ _ (by omega) (by simp) hT1
 have hb : (BW k)[r]? = some (BW k)[r] := List.getElem?_eq_getElem (by omega)
 refine wR_of (ix_nat (xs := (BW k).map D.str) (r := r) (seqAt_of hU) (by rw [List.getElem?_map, hb]; rfl)) ⟨_, rfl, bad_of hk (List.getElem_mem _), fU, E.go.trans G⟩
theorem lapK (h : p.Ok) (j : Nat) {k : Nat} (hk : k < 7) {T : Sto} {x8 x9 x10 x11 x12 x13 x14 x15 x16 x17 x18 x19 : Option D} (c : Cx p ns wl tl kk N T) (hN : N ≤ 200) (hkk : kk < 90000) :
  WS (mSeq (mFor (mItr (mCall 1 (lv (j + 8) 23) (mCons (mVar 7) (mNil)))) (gN 8) (mDrop (mMt "list" gAppend (mVar 6) (mCons (mTup (mCons (mMt "str" gJoinA (mC (.str (Str.ofString " "))) (mCons (mBin dAdd (mBin dAdd (mSl slA (mVar 5) (mNo) (mPart (mVar 7))) (mLst (mCons (mVar 8) (mNil)))) (mSl slA (mVar 5) (mPart (mBin dAdd (mVar 7) (mC (.int 1)))) (mNo))) (mNil))) (mCons (mVar 7) (mNil)))) (mNil)))))
  (mSeq (mAsg (mBin dAdd (mBin dAdd (mSl slA (mVar 5) (mNo) (mPart (mVar 7))) (mLst (mCons (mCall 1 (lv (j + 8) 24) (mCons (mVar 7) (mNil))) (mNil)))) (mSl slA (mVar 5) (mPart (mBin dAdd (mVar 7) (mC (.int 1)))) (mNo))) (gN 9))
  (mSeq (mAsg (mSaid (Str.ofString "told") hdS (mCallD 1 [] (lv (j + 8) 27) (mCons (mMt "str" gJoinA (mC (.str (Str.ofString " "))) (mCons (mVar 9) (mNil))) (mNil)))) (gN 10))
  (mSeq (mIfS (mOrT (asB (mBin dNe (mBin ixA (mVar 10) (mC (.int 0))) (mC (.str (Str.ofString "told"))))) (asB (mBin dNe (mCall 1 (lv (j + 8) 8) (mCons (mBin ixA (mVar 10) (mC (.int 1))) (mNil))) (mMt "str" gJoinA (mC (.str (Str.ofString " "))) (mCons (mVar 9) (mNil)))))) (mRet (mC (.bl false))) (mNext))
  (mSeq (mAsg (mCall 2 (lv (j + 8) 18) (mCons (mVar 1) (mCons (mC (.int 7)) (mNil)))) (gN 11))
  (mSeq (mAsg (mBin ixA (mCall 1 (lv (j + 8) 23) (mCons (mVar 11) (mNil))) (mCall 2 (lv (j + 8) 18) (mCons (mVar 1) (mCons (mC (.int 7)) (mNil))))) (gN 12))
  (mSeq (mAsg (mBin ixA (mCall 1 (lv (j + 8) 23) (mCons (mVar 7) (mNil))) (mCall 2 (lv (j + 8) 18) (mCons (mVar 1) (mCons (mC (.int 7)) (mNil))))) (gN 13))
  (mSeq (mAsg (mBin dAdd (mBin dAdd (mSl slA (mVar 5) (mNo) (mPart (mVar 7))) (mLst (mCons (mVar 13) (mNil)))) (mSl slA (mVar 5) (mPart (mBin dAdd (mVar 7) (mC (.int 1)))) (mNo))) (gN 14))
  (mSeq (mAsg (mIf (asB (mBin xGt (mVar 11) (mVar 7))) (mBin dAdd (mBin dAdd (mSl slA (mVar 14) (mNo) (mPart (mVar 11))) (mLst (mCons (mVar 12) (mNil)))) (mSl slA (mVar 14) (mPart (mBin dAdd (mVar 11) (mC (.int 1)))) (mNo))) (mVar 14)) (gN 14))
  (mDrop (mMt "list" gAppend (mVar 6) (mCons (mTup (mCons (mMt "str" gJoinA (mC (.str (Str.ofString " "))) (mCons (mVar 14) (mNil))) (mCons (mVar 7) (mNil)))) (mNil)))))))))))))
   (E7 p tu ks wl tl [some (.int (k : Nat)), x8, x9, x10, x11, x12, x13, x14, x15, x16, x17, x18, x19]) T fun f e' T' => f = .nx ∧ (∃ y8 y9 y10 y11 y12 y13 y14 y15 y16 y17 y18 y19, e' = E7 p tu ks wl tl [some (.int (k : Nat)), y8, y9, y10, y11, y12, y13, y14, y15, y16, y17, y18, y19]) ∧ Cx p ns wl tl (kk + 3) (N + 15) T' := by
 refine wS_then ((bads_ok h (j + 7) hk c hN).mono ?_)
 rintro _ _ T1 ⟨rfl, ⟨y8, rfl⟩, c1⟩
 obtain ⟨hlo, hlw⟩ := late_ok h hk
 refine ⟨rfl, wS_then (wS_asg ((sub_ev rfl rfl c1.w (by rw [p.wlen]; omega) (by omega) (fun T' E => wE_call (wA_cons (wE_v (d := .int (k : Nat)) rfl (wA_nil ⟨rfl, good_ok (j + 7) hk T'⟩))))).mono ?_))⟩
 rintro _ T2 ⟨n9, rfl, h9, _, E2⟩
 have c2 := c1.ext E2
 rw [← hlw] at h9
 have hwl := wds_ok hlo
 refine ⟨rfl, wS_then (wS_asg ((said_told (call_rd (j + 1) (sr_post hlo) ⟨_, _, join_v hwl rfl h9, rfl, Ext.refl⟩)).mono ?_))⟩
 rintro _ T3 ⟨rfl, E3⟩
 have c3 := c2.ext E3
 have h93 := E3.keep h9
 refine ⟨rfl, wS_then (wS_if ?_)⟩
 have i0 : ∀ U, ixA (.tup [.str (Str.ofString "told"), (p.late k).D]) (.int 0) U = some (.str (Str.ofString "told"), U) := fun U => ix_nat (r := 0) rfl rfl
 have i1 : ∀ U, ixA (.tup [.str (Str.ofString "told"), (p.late k).D]) (.int 1) U = some ((p.late k).D, U) := fun U => ix_nat (r := 1) rfl rfl
 refine wT_or (wT_b (wE_bin (wE_bin (wE_v rfl (wE_c (wR_of (i0 T3) (wE_c (wR_of (ne_str _ T3) ⟨_, rfl, (fun z => by cases z), fun _ => ?_⟩))))))))
 refine wT_b (wE_bin (wE_call (wA_cons (wE_bin (wE_v rfl (wE_c (wR_of (i1 T3) (wA_nil ⟨rfl, (text_ok (j + 6) hlo T3).mono ?_⟩))))))))
 rintro _ T4 ⟨rfl, E4⟩
 have c4 := c3.ext E4
 have h94 := E4.keep h93
 refine ⟨_, _, join_v hwl rfl h94, wR_of (ne_str _ T4) ⟨_, rfl, (fun z => by cases z), fun _ => wS_next ⟨rfl, ?_⟩⟩⟩
 refine wS_then (wS_asg ((draw7 j c4.f (by omega) rfl).mono ?_))
 rintro _ T5 ⟨a, rfl, ha, f5, G5⟩
 have c5 := c4.go G5 f5
 refine ⟨rfl, wS_then (wS_asg ((pick_bad j (s := 11) (k := a) c5.f (by omega) rfl rfl ha).mono ?_))⟩
 rintro _ T6 ⟨wo, rfl, bo, f6, G6⟩
 have c6 := c5.go G6 f6
 refine ⟨rfl, wS_then (wS_asg ((pick_bad j (s := 7) (k := k) c6.f (by omega) rfl rfl hk).mono ?_))⟩
 rintro _ T7 ⟨wf, rfl, bf, f7, G7⟩
 have c7 := c6.go G7 f7
 refine ⟨rfl, wS_then (wS_asg ((sub_ev rfl rfl c7.w (by rw [p.wlen]; omega) (by omega) (fun T' E => wE_v (d := .str wf) rfl ⟨rfl, Ext.refl⟩)).mono ?_))⟩
 rintro _ T8 ⟨n14, rfl, h14, _, E8⟩
 have c8 := c7.ext E8
 have wsub := (wds_ok h).sub (by rw [p.wlen]; exact hk) bf.f bf.l
 have hlen : (sub p.W k wf).length = 7 := by rw [sub_len (by rw [p.wlen]; exact hk)]; rfl
 refine ⟨rfl, wS_then (wS_asg ?_)⟩
 have fin : WE (mIf (asB (mBin xGt (mVar 11) (mVar 7))) (mBin dAdd (mBin dAdd (mSl slA (mVar 14) (mNo) (mPart (mVar 11))) (mLst (mCons (mVar 12) (mNil)))) (mSl slA (mVar 14) (mPart (mBin dAdd (mVar 11) (mC (.int 1)))) (mNo))) (mVar 14)) (E7 p tu ks wl tl [some (.int (k : Nat)), y8, some (.ref n9), some (.tup [.str (Str.ofString "told"), (p.late k).D]), some (.int (a : Nat)), some (.str wo), some (.str wf), some (.ref n14), x15, x16, x17, x18, x19]) T8 fun d T9 => ∃ n ws, d = .ref n ∧ T9[n]? = some (.lst (ws.map D.str)) ∧ Wds ws ∧ Sr (txt ws) (exK k) ∧ Ext T8 T9 := by
  refine wE_if (wT_b (wE_bin (wE_v rfl (wE_v rfl (wR_of (xGt_i _ _ _) ⟨_, rfl, fun hz => ?_, fun hz => ?_⟩)))))
  ·have hlt := of_decide_eq_true hz
   have hka : k < a := by omega
   refine (sub_ev rfl rfl h14 (by omega) (by omega) (fun T' E => wE_v (d := .str wo) rfl ⟨rfl, Ext.refl⟩)).mono ?_
   rintro _ T9 ⟨n, rfl, hn, _, E⟩
   exact ⟨n, _, rfl, hn, wsub.sub (by omega) bo.f bo.l, both_sr h hka ha bf bo, E⟩
  ·exact wE_v rfl ⟨n14, _, rfl, h14, wsub, sub_sr h hk bf, Ext.refl⟩
 refine fin.mono ?_
 rintro _ T9 ⟨n, ws, rfl, hn, hw, hs, E9⟩
 have c9 := c8.ext E9
 refine ⟨rfl, app_ev c9 (by omega) rfl (pair_ev (k := k) ⟨_, _, join_v hw rfl hn, rfl, Ext.refl⟩ rfl) ⟨_, k, rfl, by omega, hs⟩ (fun T' cT kp => ?_)⟩
 exact ⟨rfl, ⟨_, _, _, _, _, _, _, _, _, _, _, _, rfl⟩, cT.more (by omega)⟩
end
end K33
end
section
namespace K33
open PySem PySem.Spec PyProof.Rows L2 PL WP
section
variable {p : Po} {ns : List Int} {wl tl kk N : Nat} {tu : D} {ks : Str}
theorem laps7 (h : p.Ok) {T : Sto} {x7 x8 x9 x10 x11 x12 x13 x14 x15 x16 x17 x18 x19 : Option D} (c : Cx p ns wl tl kk 12 T) (hkk : kk < 80000) :
  WS (mFor (mR1 (mCons (mC (.int 7)) (mNil))) (gN 7) (mSeq (mFor (mItr (mCall 1 (lv 29 23) (mCons (mVar 7) (mNil)))) (gN 8) (mDrop (mMt "list" gAppend (mVar 6) (mCons (mTup (mCons (mMt "str" gJoinA (mC (.str (Str.ofString " "))) (mCons (mBin dAdd (mBin dAdd (mSl slA (mVar 5) (mNo) (mPart (mVar 7))) (mLst (mCons (mVar 8) (mNil)))) (mSl slA (mVar 5) (mPart (mBin dAdd (mVar 7) (mC (.int 1)))) (mNo))) (mNil))) (mCons (mVar 7) (mNil)))) (mNil)))))
  (mSeq (mAsg (mBin dAdd (mBin dAdd (mSl slA (mVar 5) (mNo) (mPart (mVar 7))) (mLst (mCons (mCall 1 (lv 29 24) (mCons (mVar 7) (mNil))) (mNil)))) (mSl slA (mVar 5) (mPart (mBin dAdd (mVar 7) (mC (.int 1)))) (mNo))) (gN 9))
  (mSeq (mAsg (mSaid (Str.ofString "told") hdS (mCallD 1 [] (lv 29 27) (mCons (mMt "str" gJoinA (mC (.str (Str.ofString " "))) (mCons (mVar 9) (mNil))) (mNil)))) (gN 10))
  (mSeq (mIfS (mOrT (asB (mBin dNe (mBin ixA (mVar 10) (mC (.int 0))) (mC (.str (Str.ofString "told"))))) (asB (mBin dNe (mCall 1 (lv 29 8) (mCons (mBin ixA (mVar 10) (mC (.int 1))) (mNil))) (mMt "str" gJoinA (mC (.str (Str.ofString " "))) (mCons (mVar 9) (mNil)))))) (mRet (mC (.bl false))) (mNext))
  (mSeq (mAsg (mCall 2 (lv 29 18) (mCons (mVar 1) (mCons (mC (.int 7)) (mNil)))) (gN 11))
  (mSeq (mAsg (mBin ixA (mCall 1 (lv 29 23) (mCons (mVar 11) (mNil))) (mCall 2 (lv 29 18) (mCons (mVar 1) (mCons (mC (.int 7)) (mNil))))) (gN 12))
  (mSeq (mAsg (mBin ixA (mCall 1 (lv 29 23) (mCons (mVar 7) (mNil))) (mCall 2 (lv 29 18) (mCons (mVar 1) (mCons (mC (.int 7)) (mNil))))) (gN 13))
  (mSeq (mAsg (mBin dAdd (mBin dAdd (mSl slA (mVar 5) (mNo) (mPart (mVar 7))) (mLst (mCons (mVar 13) (mNil)))) (mSl slA (mVar 5) (mPart (mBin dAdd (mVar 7) (mC (.int 1)))) (mNo))) (gN 14))
  (mSeq (mAsg (mIf (asB (mBin xGt (mVar 11) (mVar 7))) (mBin dAdd (mBin dAdd (mSl slA (mVar 14) (mNo) (mPart (mVar 11))) (mLst (mCons (mVar 12) (mNil)))) (mSl slA (mVar 14) (mPart (mBin dAdd (mVar 11) (mC (.int 1)))) (mNo))) (mVar 14)) (gN 14))
  (mDrop (mMt "list" gAppend (mVar 6) (mCons (mTup (mCons (mMt "str" gJoinA (mC (.str (Str.ofString " "))) (mCons (mVar 14) (mNil))) (mCons (mVar 7) (mNil)))) (mNil)))))))))))))) (E7 p tu ks wl tl [x7, x8, x9, x10, x11, x12, x13, x14, x15, x16, x17, x18, x19]) T fun f e' T' => f = .nx ∧ (∃ y7 y8 y9 y10 y11 y12 y13 y14 y15 y16 y17 y18 y19, e' = E7 p tu ks wl tl [y7, y8, y9, y10, y11, y12, y13, y14, y15, y16, y17, y18, y19]) ∧ Cx p ns wl tl (kk + 21) 120 T' := by
 refine wS_for (n := 7) (nx := nxR 0 7) (S1 := T) (I := fun i e U => (∃ y7 y8 y9 y10 y11 y12 y13 y14 y15 y16 y17 y18 y19, e = E7 p tu ks wl tl [y7, y8, y9, y10, y11, y12, y13, y14, y15, y16, y17, y18, y19]) ∧ Cx p ns wl tl (kk + 3 * i) (12 + 15 * i) U) rfl ⟨⟨_, _, _, _, _, _, _, _, _, _, _, _, _, rfl⟩, c⟩ ?_ ?_ ?_
 ·rintro i e U hi ⟨⟨y7, y8, y9, y10, y11, y12, y13, y14, y15, y16, y17, y18, y19, rfl⟩, cU⟩
  refine ⟨.int (i : Nat), E7 p tu ks wl tl [some (.int (i : Nat)), y8, y9, y10, y11, y12, y13, y14, y15, y16, y17, y18, y19], U, nxR_in hi, rfl, ?_⟩
  refine (lapK h 21 hi cU (by omega) (by omega)).mono ?_
  rintro f e' V ⟨rfl, ⟨z8, z9, z10, z11, z12, z13, z14, z15, z16, z17, z18, z19, rfl⟩, cV⟩
  refine ⟨rfl, ⟨_, _, _, _, _, _, _, _, _, _, _, _, _, rfl⟩, ?_⟩
  have a : kk + 3 * (i + 1) = kk + 3 * i + 3 := by omega
  have b : 12 + 15 * (i + 1) = 12 + 15 * i + 15 := by omega
  rw [a, b]
  exact cV
 ·intro e U _
  exact nxR_end
 ·rintro e' U ⟨h1, cU⟩
  exact ⟨rfl, h1, cU.more (by omega)⟩
theorem due_ok {T : Sto} {x7 x8 x9 x10 x11 x12 x13 x14 x15 x16 x17 x18 x19 : Option D} (c : Cx p ns wl tl kk 120 T) :
  WS (mFor (mItr (mVar 6)) (gT 2 (gsC (gN 15) (gsC (gN 16) (gsN)))) (mIfS (asB (mBin dNe (mBlt (gOr (gOr gReprN (gOr gReprA gReprS)) gReprIB) (mCons (mSaid (Str.ofString "told") hdS (mCallD 1 [] (lv 29 27) (mCons (mVar 15) (mNil)))) (mNil))) (mBlt (gOr (gOr gReprN (gOr gReprA gReprS)) gReprIB) (mCons (mTup (mCons (mC (.str (Str.ofString "text"))) (mCons (mC (.int 0)) (mCons (mVar 16) (mNil))))) (mNil))))) (mRet (mC (.bl false))) (mNext)))
   (E7 p tu ks wl tl [x7, x8, x9, x10, x11, x12, x13, x14, x15, x16, x17, x18, x19]) T fun f e' T' => f = .nx ∧ (∃ a b, e' = E7 p tu ks wl tl [x7, x8, x9, x10, x11, x12, x13, x14, a, b, x17, x18, x19]) ∧ FeedAt ns kk T' := by
 obtain ⟨th, h1, h2, h3⟩ := c.t
 refine wS_for (n := th.length) (nx := nxL tl) (S1 := T) (I := fun i e U => (∃ a b, e = E7 p tu ks wl tl [x7, x8, x9, x10, x11, x12, x13, x14, a, b, x17, x18, x19]) ∧ Ext T U) ?_ ⟨⟨_, _, rfl⟩, Ext.refl⟩ ?_ ?_ ?_
 ·exact itr_ref (WE.eq (wE_v (d := .ref tl) rfl ⟨rfl, rfl⟩)) h1
 ·rintro i e U hi ⟨⟨a, b, rfl⟩, E⟩
  obtain ⟨x, k, hx, hk, hs⟩ := h2 _ (List.getElem_mem hi)
  refine ⟨.tup [.str x, .int (k : Nat)], E7 p tu ks wl tl [x7, x8, x9, x10, x11, x12, x13, x14, some (.str x), some (.int (k : Nat)), x17, x18, x19], U, ?_, rfl, ?_⟩
  ·rw [nxL_in (E.keep h1) hi, hx]
  refine wS_if (ne_rep (rs_text hk) (said_text (call_rd 22 hs (wE_v rfl ⟨rfl, Ext.refl⟩))) (fun V EV => ?_) (fun V EV => ⟨(fun z => by cases z), fun _ => wS_next ⟨rfl, ⟨_, _, rfl⟩, E.trans EV⟩⟩))
  exact wE_tup (wA_cons (wE_c (wA_cons (wE_c (wA_cons (wE_v (d := .int (k : Nat)) rfl (wA_nil ⟨WP.sz (by simp), rfl, Ext.refl⟩)))))))
 ·rintro e U ⟨_, E⟩
  exact nxL_end (E.keep h1)
 ·rintro e' U ⟨h, E⟩
  exact ⟨rfl, h, E.feed c.f⟩
end
end K33
end
section
namespace K33
open PySem PySem.Spec PyProof.Rows L2 PL WP
section
variable {p : Po} {ns : List Int} {kk : Nat}
theorem addB {a b : Str} (h : a.length + b.length ≤ 100000) (T : Sto) : dAdd (.str a) (.str b) T = some (.str (a ++ b), T) := by
 have hz := sl_big
 have hh : a.length + b.length ≤ sizeLine := by omega
 simp [dAdd, PL.alt, iiI, ssS, hh]
theorem txt_end (p : Po) : txt p.W ++ Str.ofString " " = txt (p.W ++ [Str.ofString ""]) := by
 refine cp_inj ?_
 have e1 : cp (Str.ofString " ") = [32] := by decide +kernel
 have e2 : cp (Str.ofString "") = [] := by decide +kernel
 rw [cp_app, cp_txt, cp_txt, e1, List.map_append]
 simp [Po.W, joinL, e2]
theorem txt_front (p : Po) : Str.ofString " " ++ txt p.W = txt (Str.ofString "" :: p.W) := by
 refine cp_inj ?_
 have e1 : cp (Str.ofString " ") = [32] := by decide +kernel
 have e2 : cp (Str.ofString "") = [] := by decide +kernel
 rw [cp_app, cp_txt, cp_txt, e1]
 simp [Po.W, joinL, e2]
theorem txt_void : txt (SS [""]) = Str.ofString "" := by decide +kernel
theorem txt_blank : txt (SS ["", ""]) = Str.ofString " " := by decide +kernel
theorem frees {zs : List Str} (h : zs.all (fun z => !(cp z).contains 32 && decide (z.length ≤ 600)) = true) : ∀ z ∈ zs, 32 ∉ cp z ∧ z.length ≤ 600 := fun z hz => by
 have := List.all_eq_true.mp h z hz
 simp only [Bool.and_eq_true, Bool.not_eq_true', List.contains_eq_mem, decide_eq_false_iff_not, decide_eq_true_eq] at this
 exact this
theorem appw_ev {env : PL.Env} {T : Sto} {wl : Nat} {a : MA} {zs : List Str} (h5 : env[5]? = some (some (.ref wl))) (hw : T[wl]? = some (.lst (p.W.map D.str))) (ha : a env T = some (zs.map D.str, T)) (hz : zs.length ≤ 10) :
  WE (mBin dAdd (mVar 5) (mLst a)) env T fun d T' => ∃ n, d = .ref n ∧ T'[n]? = some (.lst ((p.W ++ zs).map D.str)) ∧ Ext T T' := by
 have h1 := lst_ok ha (by rw [List.length_map]; omega)
 have hc := catL ((Ext.new (T := [Ob.lst (zs.map D.str)])).keep hw) disp_at (by rw [List.length_map, List.length_map, p.wlen]; omega)
 rw [← List.map_append] at hc
 refine wE_bin (wE_v h5 ⟨_, _, h1, wR_of hc ⟨_, rfl, disp_at, Ext.new.trans Ext.new⟩⟩)
theorem tupC_ev {env : PL.Env} {T : Sto} {m : ME} {x : Str} {k : Int} (h : WE m env T fun d U => d = .str x ∧ Ext T U) : WE (mTup (mCons m (mCons (mC (.int k)) mNil))) env T fun d U => d = .tup [.str x, .int k] ∧ Ext T U := by
 refine wE_tup (wA_cons (h.mono ?_))
 rintro _ U ⟨rfl, E⟩
 exact wA_cons (wE_c (wA_nil ⟨WP.sz (by simp), rfl, E⟩))
def cutD' (p : Po) (i : Nat) : D := .tup [.str (txt (p.W.take (i + 1))), .int ((i + 1 : Nat) : Int)]
def cutF (p : Po) : D → D
 | .int k => .tup [.str (txt (p.W.take k.toNat)), .int k]
 | d => d
theorem take_wds (h : p.Ok) {k : Nat} (hk : 1 ≤ k) : Wds (p.W.take k) := by
 have hw := wds_ok h
 refine ⟨fun z => ?_, fun x hx => hw.free x (List.mem_of_mem_take hx), fun x hx => hw.len x (List.mem_of_mem_take hx), by rw [List.length_take, p.wlen]; omega⟩
 have := congrArg List.length z
 rw [List.length_take, p.wlen, List.length_nil] at this
 omega
theorem cuts_ok (h : p.Ok) {env : PL.Env} {V : Sto} {wl : Nat} (hV : V[wl]? = some (.lst (p.W.map D.str))) (h5 : ∀ d, (List.set (wipeE env [7]) 7 (some d))[5]? = some (some (.ref wl))) (h7 : ∀ d, (List.set (wipeE env [7]) 7 (some d))[7]? = some (some d)) :
  WE (mLc (mR2 (mCons (mC (.int 1)) (mCons (mC (.int 7)) (mNil)))) (gN 7) (mYes) (mTup (mCons (mMt "str" gJoinA (mC (.str (Str.ofString " "))) (mCons (mSl slA (mVar 5) (mNo) (mPart (mVar 7))) (mNil))) (mCons (mVar 7) (mNil)))) [7]) env V fun d T => ∃ n, d = .ref n ∧ T[n]? = some (.lst ((List.range 6).map (cutD' p))) ∧ Ext V T := by
 refine (lc_map (xs := (List.range 6).map fun i => D.int ((i + 1 : Nat) : Int)) (nx := nxR 1 6) (S1 := V) (f := cutF p) (ev := fun d => List.set (wipeE env [7]) 7 (some d)) (by simp) (by simp [mR2, mCons, mC, mNil, r2Of]) (fun T E i => ?_) (fun x T hx => rfl) ?_).mono ?_
 ·unfold nxR
  by_cases hi : i < 6
  ·rw [if_pos hi, List.getElem?_map, List.getElem?_range hi]
   have : (1 : Int) + (i : Int) = ((i + 1 : Nat) : Int) := by omega
   rw [this]
   rfl
  ·rw [if_neg hi, List.getElem?_eq_none (by simp; omega)]
 ·intro x T hx E
  obtain ⟨i, hi, rfl⟩ := List.mem_map.mp hx
  have hi6 := List.mem_range.mp hi
  have hT := E.keep hV
  refine (pair_ev (k := i + 1) (join_ev (take_wds h (by omega : 1 ≤ i + 1)) (wE_slTo (wE_v (h5 _) (wE_v (h7 _) ⟨i + 1, rfl, by omega, wR_of (slA_to hT) ?_⟩)))) (h7 _)).mono ?_
  ·refine ⟨T.length, rfl, ?_, Ext.new⟩
   rw [disp_at, List.map_take]
  ·rintro d U ⟨rfl, E2⟩
   exact ⟨rfl, E2⟩
 ·rintro d T ⟨rfl, hT, E⟩
  rw [List.map_map] at hT
  exact ⟨_, rfl, hT, E⟩
theorem turn_ok {env : PL.Env} {S : Sto} {tu : D} {x3 x4 x5 x6 x7 x8 x9 x10 x11 x12 x13 x14 x15 x16 x17 x18 x19 : Option D} (henv : env = [some (.ref 0), some (.ref 3), some tu, x3, x4, x5, x6, x7, x8, x9, x10, x11, x12, x13, x14, x15, x16, x17, x18, x19]) (f : FeedAt ns kk S) (hkk : kk < 70000) :
  WS (mSeq (mAsg (mCall 1 (lv 29 22) (mCons (mVar 1) (mNil))) (gN 3))
  (mSeq (mAsg (mTup (mCons (mBlt (gOr (gOr gReprN (gOr gReprA gReprS)) gReprIB) (mCons (mVar 3) (mNil))) (mCons (mCall 1 (lv 29 21) (mCons (mVar 3) (mNil))) (mNil)))) (gT 2 (gsC (gN 4) (gsC (gN 5) (gsN)))))
  (mSeq (mIfS (mOrT (asB (mBin dNe (mCall 1 (lv 29 8) (mCons (mVar 3) (mNil))) (mMt "str" gJoinA (mC (.str (Str.ofString " "))) (mCons (mVar 5) (mNil))))) (mOrT (asB (mBin dNe (mCallK 1 1 [0] (lv 29 8) (mCons (mVar 3) (mNil))) (mMt "str" gJoinA (mC (.str (Str.ofString " "))) (mCons (mVar 5) (mNil))))) (asB (mBin dNe (mBlt (gOr (gOr gReprN (gOr gReprA gReprS)) gReprIB) (mCons (mVar 3) (mNil))) (mVar 4))))) (mRet (mC (.bl false))) (mNext))
  (mSeq (mIfS (asB (mBin dNe (mBlt (gOr (gOr gReprN (gOr gReprA gReprS)) gReprIB) (mCons (mSaid (Str.ofString "told") hdS (mCallK 1 1 [0] (lv 29 27) (mCons (mMt "str" gJoinA (mC (.str (Str.ofString " "))) (mCons (mVar 5) (mNil))) (mNil)))) (mNil))) (mBlt (gOr (gOr gReprN (gOr gReprA gReprS)) gReprIB) (mCons (mTup (mCons (mC (.str (Str.ofString "told"))) (mCons (mVar 3) (mNil)))) (mNil))))) (mRet (mC (.bl false))) (mNext))
  (mSeq (mAsg (mBin dAdd (mLc (mR2 (mCons (mC (.int 1)) (mCons (mC (.int 7)) (mNil)))) (gN 7) (mYes) (mTup (mCons (mMt "str" gJoinA (mC (.str (Str.ofString " "))) (mCons (mSl slA (mVar 5) (mNo) (mPart (mVar 7))) (mNil))) (mCons (mVar 7) (mNil)))) [7]) (mLst (mCons (mTup (mCons (mMt "str" gJoinA (mC (.str (Str.ofString " "))) (mCons (mBin dAdd (mVar 5) (mLst (mCons (mC (.str (Str.ofString "0"))) (mNil)))) (mNil))) (mCons (mC (.int 7)) (mNil)))) (mCons (mTup (mCons (mC (.str (Str.ofString ""))) (mCons (mC (.int 0)) (mNil)))) (mCons (mTup (mCons (mC (.str (Str.ofString " "))) (mCons (mC (.int 0)) (mNil)))) (mNil)))))) (gN 6))
  (mSeq (mAsg (mBin dAdd (mVar 6) (mLst (mCons (mTup (mCons (mBin dAdd (mMt "str" gJoinA (mC (.str (Str.ofString " "))) (mCons (mVar 5) (mNil))) (mC (.str (Str.ofString " ")))) (mCons (mC (.int 7)) (mNil)))) (mCons (mTup (mCons (mBin dAdd (mC (.str (Str.ofString " "))) (mMt "str" gJoinA (mC (.str (Str.ofString " "))) (mCons (mVar 5) (mNil)))) (mCons (mC (.int 0)) (mNil)))) (mCons (mTup (mCons (mMt "str" gJoinA (mC (.str (Str.ofString " "))) (mCons (mBin dAdd (mVar 5) (mLst (mCons (mC (.str (Str.ofString ""))) (mCons (mC (.str (Str.ofString "x"))) (mNil))))) (mNil))) (mCons (mC (.int 7)) (mNil)))) (mNil)))))) (gN 6))
  (mSeq (mFor (mR1 (mCons (mC (.int 7)) (mNil))) (gN 7) (mSeq (mFor (mItr (mCall 1 (lv 29 23) (mCons (mVar 7) (mNil)))) (gN 8) (mDrop (mMt "list" gAppend (mVar 6) (mCons (mTup (mCons (mMt "str" gJoinA (mC (.str (Str.ofString " "))) (mCons (mBin dAdd (mBin dAdd (mSl slA (mVar 5) (mNo) (mPart (mVar 7))) (mLst (mCons (mVar 8) (mNil)))) (mSl slA (mVar 5) (mPart (mBin dAdd (mVar 7) (mC (.int 1)))) (mNo))) (mNil))) (mCons (mVar 7) (mNil)))) (mNil)))))
  (mSeq (mAsg (mBin dAdd (mBin dAdd (mSl slA (mVar 5) (mNo) (mPart (mVar 7))) (mLst (mCons (mCall 1 (lv 29 24) (mCons (mVar 7) (mNil))) (mNil)))) (mSl slA (mVar 5) (mPart (mBin dAdd (mVar 7) (mC (.int 1)))) (mNo))) (gN 9))
  (mSeq (mAsg (mSaid (Str.ofString "told") hdS (mCallD 1 [] (lv 29 27) (mCons (mMt "str" gJoinA (mC (.str (Str.ofString " "))) (mCons (mVar 9) (mNil))) (mNil)))) (gN 10))
  (mSeq (mIfS (mOrT (asB (mBin dNe (mBin ixA (mVar 10) (mC (.int 0))) (mC (.str (Str.ofString "told"))))) (asB (mBin dNe (mCall 1 (lv 29 8) (mCons (mBin ixA (mVar 10) (mC (.int 1))) (mNil))) (mMt "str" gJoinA (mC (.str (Str.ofString " "))) (mCons (mVar 9) (mNil)))))) (mRet (mC (.bl false))) (mNext))
  (mSeq (mAsg (mCall 2 (lv 29 18) (mCons (mVar 1) (mCons (mC (.int 7)) (mNil)))) (gN 11))
  (mSeq (mAsg (mBin ixA (mCall 1 (lv 29 23) (mCons (mVar 11) (mNil))) (mCall 2 (lv 29 18) (mCons (mVar 1) (mCons (mC (.int 7)) (mNil))))) (gN 12))
  (mSeq (mAsg (mBin ixA (mCall 1 (lv 29 23) (mCons (mVar 7) (mNil))) (mCall 2 (lv 29 18) (mCons (mVar 1) (mCons (mC (.int 7)) (mNil))))) (gN 13))
  (mSeq (mAsg (mBin dAdd (mBin dAdd (mSl slA (mVar 5) (mNo) (mPart (mVar 7))) (mLst (mCons (mVar 13) (mNil)))) (mSl slA (mVar 5) (mPart (mBin dAdd (mVar 7) (mC (.int 1)))) (mNo))) (gN 14))
  (mSeq (mAsg (mIf (asB (mBin xGt (mVar 11) (mVar 7))) (mBin dAdd (mBin dAdd (mSl slA (mVar 14) (mNo) (mPart (mVar 11))) (mLst (mCons (mVar 12) (mNil)))) (mSl slA (mVar 14) (mPart (mBin dAdd (mVar 11) (mC (.int 1)))) (mNo))) (mVar 14)) (gN 14))
  (mDrop (mMt "list" gAppend (mVar 6) (mCons (mTup (mCons (mMt "str" gJoinA (mC (.str (Str.ofString " "))) (mCons (mVar 14) (mNil))) (mCons (mVar 7) (mNil)))) (mNil))))))))))))))
  (mFor (mItr (mVar 6)) (gT 2 (gsC (gN 15) (gsC (gN 16) (gsN)))) (mIfS (asB (mBin dNe (mBlt (gOr (gOr gReprN (gOr gReprA gReprS)) gReprIB) (mCons (mSaid (Str.ofString "told") hdS (mCallD 1 [] (lv 29 27) (mCons (mVar 15) (mNil)))) (mNil))) (mBlt (gOr (gOr gReprN (gOr gReprA gReprS)) gReprIB) (mCons (mTup (mCons (mC (.str (Str.ofString "text"))) (mCons (mC (.int 0)) (mCons (mVar 16) (mNil))))) (mNil))))) (mRet (mC (.bl false))) (mNext)))))))))) env S fun f e' T => f = .nx ∧ (∃ y2 y3 y4 y5 y6 y7 y8 y9 y10 y11 y12 y13 y14 y15 y16 y17 y18 y19, e' = [some (.ref 0), some (.ref 3), y2, y3, y4, y5, y6, y7, y8, y9, y10, y11, y12, y13, y14, y15, y16, y17, y18, y19]) ∧ FeedAt ns (kk + 61) T := by
 subst henv
 refine wS_then (wS_asg (wE_call (wA_cons (wE_v (d := .ref 3) rfl (wA_nil ⟨rfl, (any_ok 26 f (by omega)).mono ?_⟩)))))
 rintro _ T1 ⟨p, rfl, h, f1, G1⟩
 obtain ⟨s, hs⟩ := rs_post h
 have hw := wds_ok h
 have h4 := f1.len
 refine ⟨rfl, wS_then (wS_asgG (wE_tup (wA_cons (wE_blt (wA_cons (wE_v (d := p.D) rfl (wA_nil (wR_of (hs T1) (wA_cons (wE_call (wA_cons (wE_v (d := p.D) rfl (wA_nil ⟨rfl, (words_ok 27 h T1).mono ?_⟩)))))))))))))⟩
 rintro _ T2 ⟨wl, rfl, hwl1, hwl, E2⟩
 refine wA_nil ⟨WP.sz (by simp), _, T2, rfl, rfl, ?_⟩
 have f2 := E2.feed f1
 have hl4 : 4 ≤ wl := by omega
 -- texts
 refine wS_then (wS_if ?_)
 refine wT_or (wT_b (wE_bin (wE_call (wA_cons (wE_v (d := p.D) rfl (wA_nil ⟨rfl, (text_ok 27 h T2).mono ?_⟩))))))
 rintro _ T3 ⟨rfl, E3⟩
 refine ⟨_, _, join_v hw rfl (E3.keep hwl), wR_of (ne_str _ T3) ⟨_, rfl, (fun z => by cases z), fun _ => ?_⟩⟩
 refine wT_or (wT_b (wE_bin (wE_callK (wA_cons (wE_v (d := p.D) rfl (wA_nil ⟨⟨rfl, rfl⟩, (text_ok 27 h T3).mono ?_⟩))))))
 rintro _ T4 ⟨rfl, E4⟩
 have E24 := E3.trans E4
 refine ⟨_, _, join_v hw rfl (E24.keep hwl), wR_of (ne_str _ T4) ⟨_, rfl, (fun z => by cases z), fun _ => ?_⟩⟩
 refine wT_b (wE_bin (wE_blt (wA_cons (wE_v (d := p.D) rfl (wA_nil (wR_of (hs T4) (wE_v (d := .str s) rfl (wR_of (ne_str s T4) ⟨_, rfl, (fun z => by cases z), fun _ => wS_next ⟨rfl, ?_⟩⟩))))))))
 -- told
 refine wS_then (wS_if (ne_rep (rs_told h) (said_told (call_rdK 22 (sr_post h) ⟨_, _, join_v hw rfl (E24.keep hwl), rfl, Ext.refl⟩)) (fun V EV => wE_tup (wA_cons (wE_c (wA_cons (wE_v (d := p.D) rfl (wA_nil ⟨WP.sz (by simp), rfl, Ext.refl⟩)))))) (fun V EV => ⟨(fun z => by cases z), fun _ => wS_next ⟨rfl, ?_⟩⟩)))
 have E5 := E24.trans EV
 have hV := E5.keep hwl
 -- things
 refine wS_then (wS_asg (wE_bin ((cuts_ok h hV (fun _ => rfl) (fun _ => rfl)).mono ?_)))
 rintro _ V1 ⟨n1, rfl, hn1, E1'⟩
 have hV1 := E1'.keep hV
 have w0 : Wds (p.W ++ SS ["0"]) := hw.app (frees (by decide +kernel)) (by rw [p.wlen]; decide)
 refine wE_lst (wA_cons ((tupC_ev (x := txt (p.W ++ SS ["0"])) (k := 7) (join_ev w0 (appw_ev (zs := SS ["0"]) rfl hV1 rfl (by decide)))).mono ?_))
 rintro _ V2 ⟨rfl, E2'⟩
 refine wA_cons ((tupC_ev (x := Str.ofString "") (k := 0) (wE_c ⟨rfl, Ext.refl⟩)).mono ?_)
 rintro _ V3 ⟨rfl, E3'⟩
 refine wA_cons ((tupC_ev (x := Str.ofString " ") (k := 0) (wE_c ⟨rfl, Ext.refl⟩)).mono ?_)
 rintro _ V4 ⟨rfl, E4'⟩
 refine wA_nil ⟨WP.sz (by simp), ?_⟩
 have E14 := (E2'.trans E3').trans E4'
 have hc1 := catL (Ext.new.keep (E14.keep hn1)) (disp_at (T := V4) (xs := [D.tup [.str (txt (p.W ++ SS ["0"])), .int 7], .tup [.str (Str.ofString ""), .int 0], .tup [.str (Str.ofString " "), .int 0]])) (by simp)
 refine wR_of hc1 ⟨rfl, ?_⟩
 have t1 := disp_at (T := V4 ++ [Ob.lst [D.tup [.str (txt (p.W ++ SS ["0"])), .int 7], .tup [.str (Str.ofString ""), .int 0], .tup [.str (Str.ofString " "), .int 0]]]) (xs := (List.range 6).map (cutD' p) ++ [D.tup [.str (txt (p.W ++ SS ["0"])), .int 7], .tup [.str (Str.ofString ""), .int 0], .tup [.str (Str.ofString " "), .int 0]])
 have E6 : Ext V (V4 ++ [Ob.lst [D.tup [.str (txt (p.W ++ SS ["0"])), .int 7], .tup [.str (Str.ofString ""), .int 0], .tup [.str (Str.ofString " "), .int 0]]] ++ [Ob.lst ((List.range 6).map (cutD' p) ++ [D.tup [.str (txt (p.W ++ SS ["0"])), .int 7], .tup [.str (Str.ofString ""), .int 0], .tup [.str (Str.ofString " "), .int 0]])]) := ((E1'.trans E14).trans Ext.new).trans Ext.new
 generalize (V4 ++ [Ob.lst [D.tup [.str (txt (p.W ++ SS ["0"])), .int 7], .tup [.str (Str.ofString ""), .int 0], .tup [.str (Str.ofString " "), .int 0]]]).length = n6 at t1
 generalize (V4 ++ [Ob.lst [D.tup [.str (txt (p.W ++ SS ["0"])), .int 7], .tup [.str (Str.ofString ""), .int 0], .tup [.str (Str.ofString " "), .int 0]]] ++ [Ob.lst ((List.range 6).map (cutD' p) ++ [D.tup [.str (txt (p.W ++ SS ["0"])), .int 7], .tup [.str (Str.ofString ""), .int 0], .tup [.str (Str.ofString " "), .int 0]])]) = V6 at t1 E6
 have hV6 := E6.keep hV
 have tl12 := hw.tlen
 have wx : Wds (p.W ++ SS ["", "x"]) := hw.app (frees (by decide +kernel)) (by rw [p.wlen]; decide)
 have lsp : (Str.ofString " ").length = 1 := by decide +kernel
 refine wS_then (wS_asg (wE_bin (wE_v (d := .ref n6) rfl (wE_lst (wA_cons ((tupC_ev (x := txt (p.W ++ SS [""])) (k := 7) (wE_bin ⟨_, _, join_v hw rfl hV6, wE_c (wR_of (addB (by omega) V6) ⟨congrArg D.str (txt_end p), Ext.refl⟩)⟩)).mono ?_))))))
 rintro _ V7 ⟨rfl, E7'⟩
 refine wA_cons ((tupC_ev (x := txt (Str.ofString "" :: p.W)) (k := 0) (wE_bin (wE_c ⟨_, _, join_v hw rfl (E7'.keep hV6), wR_of (addB (by omega) V7) ⟨congrArg D.str (txt_front p), Ext.refl⟩⟩))).mono ?_)
 rintro _ V8 ⟨rfl, E8'⟩
 have E78 := E7'.trans E8'
 refine wA_cons ((tupC_ev (x := txt (p.W ++ SS ["", "x"])) (k := 7) (join_ev wx (appw_ev (zs := SS ["", "x"]) rfl (E78.keep hV6) rfl (by decide)))).mono ?_)
 rintro _ V9 ⟨rfl, E9'⟩
 refine wA_nil ⟨WP.sz (by simp), ?_⟩
 have E79 := E78.trans E9'
 have hc2 := catL (Ext.new.keep (E79.keep t1)) (disp_at (T := V9) (xs := [D.tup [.str (txt (p.W ++ SS [""])), .int 7], .tup [.str (txt (Str.ofString "" :: p.W)), .int 0], .tup [.str (txt (p.W ++ SS ["", "x"])), .int 7]])) (by simp)
 refine wR_of hc2 ⟨rfl, ?_⟩
 have EE := (((E5.trans E6).trans E79).trans (Ext.new (T := [Ob.lst [D.tup [.str (txt (p.W ++ SS [""])), .int 7], .tup [.str (txt (Str.ofString "" :: p.W)), .int 0], .tup [.str (txt (p.W ++ SS ["", "x"])), .int 7]]]))).trans (Ext.new (T := [Ob.lst (((List.range 6).map (cutD' p) ++ [D.tup [.str (txt (p.W ++ SS ["0"])), .int 7], .tup [.str (Str.ofString ""), .int 0], .tup [.str (Str.ofString " "), .int 0]]) ++ [D.tup [.str (txt (p.W ++ SS [""])), .int 7], .tup [.str (txt (Str.ofString "" :: p.W)), .int 0], .tup [.str (txt (p.W ++ SS ["", "x"])), .int 7]])]))
 have hle : wl < (V9 ++ [Ob.lst ([D.tup [.str (txt (p.W ++ SS [""])), .int 7], .tup [.str (txt (Str.ofString "" :: p.W)), .int 0], .tup [.str (txt (p.W ++ SS ["", "x"])), .int 7]])]).length := by
  have := (List.getElem?_eq_some_iff.mp (E79.keep hV6)).1
  rw [List.length_append]
  omega
 have t2 := disp_at (T := V9 ++ [Ob.lst ([D.tup [.str (txt (p.W ++ SS [""])), .int 7], .tup [.str (txt (Str.ofString "" :: p.W)), .int 0], .tup [.str (txt (p.W ++ SS ["", "x"])), .int 7]])]) (xs := ((List.range 6).map (cutD' p) ++ [D.tup [.str (txt (p.W ++ SS ["0"])), .int 7], .tup [.str (Str.ofString ""), .int 0], .tup [.str (Str.ofString " "), .int 0]]) ++ [D.tup [.str (txt (p.W ++ SS [""])), .int 7], .tup [.str (txt (Str.ofString "" :: p.W)), .int 0], .tup [.str (txt (p.W ++ SS ["", "x"])), .int 7]])
 generalize (V9 ++ [Ob.lst ([D.tup [.str (txt (p.W ++ SS [""])), .int 7], .tup [.str (txt (Str.ofString "" :: p.W)), .int 0], .tup [.str (txt (p.W ++ SS ["", "x"])), .int 7]])]).length = tl at t2 hle
 generalize V9 ++ [Ob.lst ([D.tup [.str (txt (p.W ++ SS [""])), .int 7], .tup [.str (txt (Str.ofString "" :: p.W)), .int 0], .tup [.str (txt (p.W ++ SS ["", "x"])), .int 7]])] ++ [Ob.lst (((List.range 6).map (cutD' p) ++ [D.tup [.str (txt (p.W ++ SS ["0"])), .int 7], .tup [.str (Str.ofString ""), .int 0], .tup [.str (Str.ofString " "), .int 0]]) ++ [D.tup [.str (txt (p.W ++ SS [""])), .int 7], .tup [.str (txt (Str.ofString "" :: p.W)), .int 0], .tup [.str (txt (p.W ++ SS ["", "x"])), .int 7]])] = Vz at t2 EE
 have c : Cx p ns wl tl (kk + 40) 12 Vz := by
  refine ⟨EE.keep hwl, ⟨_, t2, fun d hd => ?_, by simp⟩, EE.feed f2, by omega, hl4, by omega⟩
  ·simp only [List.mem_append, List.mem_cons, List.not_mem_nil, or_false, List.mem_map, List.mem_range] at hd
   rcases hd with (⟨i, hi, rfl⟩ | rfl | rfl | rfl) | rfl | rfl | rfl
   ·exact ⟨_, i + 1, rfl, by omega, cut_sr h (by omega) (by omega)⟩
   ·exact ⟨_, 7, rfl, by omega, long_sr h (by decide) (by decide) (frees (by decide +kernel))⟩
   ·refine ⟨_, 0, rfl, by omega, ?_⟩
    have := void_sr (zs := []) (by decide) (frees (by decide +kernel))
    have e : txt [Str.ofString ""] = Str.ofString "" := txt_void
    rw [e] at this
    exact this
   ·refine ⟨_, 0, rfl, by omega, ?_⟩
    have := void_sr (zs := SS [""]) (by decide) (frees (by decide +kernel))
    have e : txt (Str.ofString "" :: SS [""]) = Str.ofString " " := txt_blank
    rw [e] at this
    exact this
   ·exact ⟨_, 7, rfl, by omega, long_sr h (by decide) (by decide) (frees (by decide +kernel))⟩
   ·exact ⟨_, 0, rfl, by omega, void_sr (by rw [p.wlen]; omega) fun z hz => ⟨hw.free z hz, hw.len z hz⟩⟩
   ·exact ⟨_, 7, rfl, by omega, long_sr h (by decide) (by decide) (frees (by decide +kernel))⟩
 refine wS_then ((laps7 (tu := tu) (ks := s) h c (by omega)).mono ?_)
 rintro _ _ U ⟨rfl, ⟨y7, y8, y9, y10, y11, y12, y13, y14, y15, y16, y17, y18, y19, rfl⟩, cU⟩
 refine ⟨rfl, (due_ok cU).mono ?_⟩
 rintro _ _ W ⟨rfl, ⟨a, b, rfl⟩, fW⟩
 exact ⟨rfl, ⟨_, _, _, _, _, _, _, _, _, _, _, _, _, _, _, _, _, _, rfl⟩, fW⟩
end
end K33
end
section
namespace K33
open PySem PySem.Spec PyProof.Rows L2 PL WP
def LT : List Str := SS ["a", "b", "c", "d", "e", "f", "g", "h"]
def PQ : List Str := SS ["p", "q", "r", "s"]
def row (a : Str) : List (Str × Str) := PQ.map fun b => (a, b)
def PF : Po := ⟨Str.ofString "a", [], [0, 1, 2, 3], [(Str.ofString "at", Str.ofString "b"), (Str.ofString "at", Str.ofString "b"), (Str.ofString "at", Str.ofString "b"), (Str.ofString "at", Str.ofString "b")], LT.map fun a => (a, 9), LT.flatMap row, 5⟩
def PE : Po := ⟨Str.ofString "a", [], [], [], [], [], 0⟩
theorem lt_tg : ∀ a ∈ LT, tgB a = true := fun a ha => List.all_eq_true.mp tx_ok a (by
 simp only [LT, SS, List.map_cons, List.map_nil, List.mem_cons, List.not_mem_nil, or_false] at ha ⊢
 rcases ha with rfl | rfl | rfl | rfl | rfl | rfl | rfl | rfl <;> simp)
theorem pq_tg : ∀ a ∈ PQ, tgB a = true := fun a ha => List.all_eq_true.mp tx_ok a (by
 simp only [PQ, SS, List.map_cons, List.map_nil, List.mem_cons, List.not_mem_nil, or_false] at ha ⊢
 rcases ha with rfl | rfl | rfl | rfl <;> simp)
theorem pf_ok : PF.Ok := by
 refine ⟨tx "a" (by simp [SS]), (fun x hx => by cases hx), fun x hx => ?_, fun x hx => ?_, fun x hx => ?_, fun x hx => ?_, nx 5 (by simp), by decide, by decide, by decide, by decide, by decide⟩
 ·have hx : x ∈ ([0, 1, 2, 3] : List Int) := hx
  simp only [List.mem_cons, List.not_mem_nil, or_false] at hx
  rcases hx with rfl | rfl | rfl | rfl <;> exact nx _ (by simp)
 ·have hx : x ∈ [(Str.ofString "at", Str.ofString "b"), (Str.ofString "at", Str.ofString "b"), (Str.ofString "at", Str.ofString "b"), (Str.ofString "at", Str.ofString "b")] := hx
  simp only [List.mem_cons, List.not_mem_nil, or_false, or_self] at hx
  subst hx
  exact ⟨by decide +kernel, tx "at" (by simp [SS]), tx "b" (by simp [SS])⟩
 ·obtain ⟨a, ha, rfl⟩ := List.mem_map.mp (show x ∈ LT.map fun a => (a, (9 : Int)) from hx)
  exact ⟨lt_tg a ha, nx 9 (by simp)⟩
 ·obtain ⟨a, ha, hx⟩ := List.mem_flatMap.mp (show x ∈ LT.flatMap row from hx)
  obtain ⟨b, hb, rfl⟩ := List.mem_map.mp hx
  exact ⟨lt_tg a ha, pq_tg b hb⟩
theorem pe_ok : PE.Ok := by
 refine ⟨tx "a" (by simp [SS]), (fun x hx => by cases hx), (fun x hx => by cases hx), (fun x hx => by cases hx), (fun x hx => by cases hx), (fun x hx => by cases hx), nx 0 (by simp), by decide, by decide, by decide, by decide, by decide⟩
theorem pe_txt : txt PE.W = Str.ofString "a - - - - - 0" := by decide +kernel
theorem ch_lt : ((Str.ofString "abcdefgh").cps.toList.map fun c => D.str ⟨#[c]⟩) = LT.map D.str := by
 have h : ((Str.ofString "abcdefgh").cps.toList.map fun c => (⟨#[c]⟩ : Str)) = LT := by decide +kernel
 rw [← h, List.map_map]
 rfl
theorem ch_pq : ((Str.ofString "pqrs").cps.toList.map fun c => D.str ⟨#[c]⟩) = PQ.map D.str := by
 have h : ((Str.ofString "pqrs").cps.toList.map fun c => (⟨#[c]⟩ : Str)) = PQ := by decide +kernel
 rw [← h, List.map_map]
 rfl
theorem nxS_any (x : Str) (T : Sto) (i : Nat) : nxS x i T = some (x.cps.toList.map fun c => D.str ⟨#[c]⟩)[i]? := by simp [nxS]
theorem lc_str {x : Str} {env : PL.Env} {S : Sto} {el : ME} {u : Nat} {vs : List Nat} {ss : List Str} {f : D → D} (hs : (x.cps.toList.map fun c => D.str ⟨#[c]⟩) = ss.map D.str) (hl : ss.length < 1000) (hel : ∀ s T, s ∈ ss → WE el ((wipeE env vs).set u (some (.str s))) T fun d T' => d = f (.str s) ∧ Ext T T') :
  WE (mLc (mItr (mC (.str x))) (gN u) mYes el vs) env S fun d T => ∃ n, d = .ref n ∧ T[n]? = some (.lst ((ss.map D.str).map f)) ∧ Ext S T := by
 have hz : x.cps.size = (ss.map D.str).length := by
  rw [← hs]
  simp
 refine (lc_map (xs := ss.map D.str) (nx := nxS x) (S1 := S) (f := f) (ev := fun d => (wipeE env vs).set u (some d)) (by rw [List.length_map]; omega) ?_ (fun T E i => ?_) (fun y T hy => rfl) ?_).mono ?_
 ·show some ((x.cps.size + 1, nxS x), S) = _
  rw [hz]
 ·rw [nxS_any, hs]
 ·intro y T hy E
  obtain ⟨s, hs', rfl⟩ := List.mem_map.mp hy
  exact hel s T hs'
 ·rintro d T ⟨rfl, hT, E⟩
  exact ⟨_, rfl, hT, E⟩
def fRow (a : Str) : D → D
 | .str b => prD (a, b)
 | d => d
def fNine : D → D
 | .str a => spD (a, 9)
 | d => d
theorem fly {α β : Type} (f : α → List β) (xs : List α) {i : Nat} {a : α} (h : xs[i]? = some a) : (xs.take (i + 1)).flatMap f = (xs.take i).flatMap f ++ f a := by
 rw [take_snoc h, List.flatMap_append]
 simp
theorem rest_ok {S : Sto} {x2 x3 x4 x5 x6 x7 x8 x9 x10 x11 x12 x13 x14 x15 x16 x17 x18 x19 : Option D} : WS (mSeq (mAsg (mLst (mNil)) (gN 17))
  (mSeq (mFor (mItr (mC (.str (Str.ofString "abcdefgh")))) (gN 18) (mDrop (mMt "list" gExtend (mVar 17) (mCons (mLc (mItr (mC (.str (Str.ofString "pqrs")))) (gN 19) (mYes) (mTup (mCons (mVar 18) (mCons (mVar 19) (mNil)))) [19]) (mNil)))))
  (mSeq (mAsg (mTup (mCons (mC (.str (Str.ofString "a"))) (mCons (mTup (mNil)) (mCons (mTup (mCons (mC (.int 0)) (mCons (mC (.int 1)) (mCons (mC (.int 2)) (mCons (mC (.int 3)) (mNil)))))) (mCons (mBin dMulZ (mTup (mCons (mTup (mCons (mC (.str (Str.ofString "at"))) (mCons (mC (.str (Str.ofString "b"))) (mNil)))) (mNil))) (mC (.int 4))) (mCons (mBlt gTuple (mCons (mLc (mItr (mC (.str (Str.ofString "abcdefgh")))) (gN 18) (mYes) (mTup (mCons (mVar 18) (mCons (mC (.int 9)) (mNil)))) [18]) (mNil))) (mCons (mBlt gTuple (mCons (mVar 17) (mNil))) (mCons (mC (.int 5)) (mNil))))))))) (gN 3))
  (mSeq (mIfS (mOrT (asB (mBin dNe (mCall 1 (lv 29 8) (mCons (mVar 3) (mNil))) (mMt "str" gJoinA (mC (.str (Str.ofString " "))) (mCons (mCall 1 (lv 29 21) (mCons (mVar 3) (mNil))) (mNil))))) (asB (mBin dNe (mBlt (gOr (gOr gReprN (gOr gReprA gReprS)) gReprIB) (mCons (mCall 1 (mNoXF (lv 29 27)) (mCons (mMt "str" gJoinA (mC (.str (Str.ofString " "))) (mCons (mCall 1 (lv 29 21) (mCons (mVar 3) (mNil))) (mNil))) (mNil))) (mNil))) (mBlt (gOr (gOr gReprN (gOr gReprA gReprS)) gReprIB) (mCons (mVar 3) (mNil)))))) (mRet (mC (.bl false))) (mNext))
  (mRet (mBin dEq (mBlt (gOr (gOr gReprN (gOr gReprA gReprS)) gReprIB) (mCons (mSaid (Str.ofString "told") hdS (mCallD 1 [] (lv 29 27) (mCons (mC (.str (Str.ofString "a - - - - - 0"))) (mNil)))) (mNil))) (mBlt (gOr (gOr gReprN (gOr gReprA gReprS)) gReprIB) (mCons (mTup (mCons (mC (.str (Str.ofString "told"))) (mCons (mTup (mCons (mC (.str (Str.ofString "a"))) (mCons (mTup (mNil)) (mCons (mTup (mNil)) (mCons (mTup (mNil)) (mCons (mTup (mNil)) (mCons (mTup (mNil)) (mCons (mC (.int 0)) (mNil))))))))) (mNil)))) (mNil))))))))) [some (.ref 0), some (.ref 3), x2, x3, x4, x5, x6, x7, x8, x9, x10, x11, x12, x13, x14, x15, x16, x17, x18, x19] S fun f _ _ => f = .rt (.bl true) := by
 refine wS_then (wS_asg (wE_lst (wA_nil ⟨WP.sz (by simp), rfl, ?_⟩)))
 have hsz : (Str.ofString "abcdefgh").cps.size = 8 := by decide +kernel
 refine wS_then (wS_for (n := 8) (nx := nxS (Str.ofString "abcdefgh")) (S1 := S ++ [Ob.lst []]) (I := fun i e T => (∃ y18, e = [some (.ref 0), some (.ref 3), x2, x3, x4, x5, x6, x7, x8, x9, x10, x11, x12, x13, x14, x15, x16, some (.ref S.length), y18, x19]) ∧ T[S.length]? = some (.lst (((LT.take i).flatMap row).map prD))) ?_ ⟨⟨_, rfl⟩, by simp⟩ ?_ ?_ ?_)
 ·show some (((Str.ofString "abcdefgh").cps.size + 1, _), _) = _
  rw [hsz]
 ·rintro i e T hi ⟨⟨y18, rfl⟩, hT⟩
  obtain ⟨a, ha⟩ : ∃ a, LT[i]? = some a := ⟨_, List.getElem?_eq_getElem (show i < LT.length from hi)⟩
  have hl : LT.length = 8 := rfl
  refine ⟨.str a, _, T, by rw [nxS_any, ch_lt, List.getElem?_map, ha]; rfl, rfl, ?_⟩
  refine wS_drop (wE_mt (wE_v (d := .ref S.length) rfl ⟨dIs_list hT, wA_cons ((lc_str (ss := PQ) (f := fRow a) ch_pq (by decide) (fun s U hs => wE_tup (wA_cons (wE_v (d := .str a) rfl (wA_cons (wE_v (d := .str s) rfl (wA_nil ⟨WP.sz (by simp), rfl, Ext.refl⟩))))))).mono ?_)⟩))
  rintro _ U ⟨n, rfl, hn, E⟩
  have hU := E.keep hT
  have hrow : ((PQ.map D.str).map (fRow a)) = (row a).map prD := by
   unfold row
   rw [List.map_map, List.map_map]
   rfl
  rw [hrow] at hn
  have hz := sl_big
  have hlen : (((LT.take i).flatMap row).map prD).length + ((row a).map prD).length ≤ sizeLine := by
   have h1 : ((LT.take i).flatMap row).length ≤ 4 * 8 := by
    have : ∀ xs : List Str, (xs.flatMap row).length = 4 * xs.length := fun xs => by
     induction xs with
     | nil => rfl
     | cons x xs ih =>
      rw [List.flatMap_cons, List.length_append, ih, List.length_cons]
      have : (row x).length = 4 := rfl
      omega
    rw [this, List.length_take, hl]
    omega
   have h2 : (row a).length = 4 := rfl
   rw [List.length_map, List.length_map]
   omega
  have hx : gExtend (.ref S.length) [.ref n] U = some (.non, U.set S.length (.lst ((((LT.take i).flatMap row).map prD) ++ (row a).map prD))) := by
   simp only [gExtend, hU, hn]
   rw [if_pos hlen]
  refine wA_nil (wR_of hx ⟨rfl, ⟨_, rfl⟩, ?_⟩)
  rw [List.getElem?_set_self (List.getElem?_eq_some_iff.mp hU).1, fly row LT ha, List.map_append]
 ·rintro e T _
  rw [nxS_any, ch_lt]
  rfl
 rintro _ T ⟨⟨y18, rfl⟩, hT⟩
 have hT : T[S.length]? = some (.lst ((LT.flatMap row).map prD)) := hT
 have hmul : ∀ U : Sto, dMulZ (.tup [prD (Str.ofString "at", Str.ofString "b")]) (.int 4) U = some (.tup [prD (Str.ofString "at", Str.ofString "b"), prD (Str.ofString "at", Str.ofString "b"), prD (Str.ofString "at", Str.ofString "b"), prD (Str.ofString "at", Str.ofString "b")], U) := fun U => by
  simp [dMulZ, dMulX, PL.alt, iiI, tiT']
 refine ⟨rfl, wS_then (wS_asg (wE_tup (wA_cons (wE_c ?_))))⟩
 refine wA_cons (wE_tup (wA_nil ⟨WP.sz (by simp), ?_⟩))
 refine wA_cons (wE_tup (wA_cons (wE_c (wA_cons (wE_c (wA_cons (wE_c (wA_cons (wE_c (wA_nil ⟨WP.sz (by simp), ?_⟩))))))))))
 refine wA_cons (wE_bin (wE_tup (wA_cons (wE_tup (wA_cons (wE_c (wA_cons (wE_c (wA_nil ⟨WP.sz (by simp), wA_nil ⟨WP.sz (by simp), wE_c (wR_of (hmul T) ?_)⟩⟩)))))))))
 refine wA_cons (wE_blt (wA_cons ((lc_str (ss := LT) (f := fNine) ch_lt (by decide) (fun s U hs => ?_)).mono ?_)))
 ·exact wE_tup (wA_cons (wE_v (d := .str s) rfl (wA_cons (wE_c (wA_nil ⟨WP.sz (by simp), rfl, Ext.refl⟩)))))
 rintro _ U ⟨n, rfl, hn, E⟩
 have hrow : ((LT.map D.str).map fNine) = PF.se.map spD := by
  show _ = (LT.map fun a => (a, (9 : Int))).map spD
  rw [List.map_map, List.map_map]
  rfl
 rw [hrow] at hn
 refine wA_nil (wR_of (seq_tup hn) ?_)
 refine wA_cons (wE_blt (wA_cons (wE_v (d := .ref S.length) rfl (wA_nil (wR_of (seq_tup (E.keep hT)) ?_)))))
 refine wA_cons (wE_c (wA_nil ⟨WP.sz (by simp), rfl, ?_⟩))
 have hw := wds_ok pf_ok
 refine wS_then (wS_if (wT_or (wT_b (wE_bin (wE_call (wA_cons (wE_v (d := PF.D) rfl (wA_nil ⟨rfl, (text_ok 27 pf_ok U).mono ?_⟩))))))))
 rintro _ U1 ⟨rfl, E1⟩
 have jw : ∀ (e : PL.Env) (V : Sto), e[3]? = some (some PF.D) → WE (mMt "str" gJoinA (mC (.str (Str.ofString " "))) (mCons (mCall 1 (lv 29 21) (mCons (mVar 3) (mNil))) (mNil))) e V fun d V' => d = .str (txt PF.W) ∧ Ext V V' := fun e V he => join_ev hw (wE_call (wA_cons (wE_v he (wA_nil ⟨rfl, (words_ok 27 pf_ok V).mono fun d V' q => by
  obtain ⟨n, h1, _, h2, h3⟩ := q
  exact ⟨n, h1, h2, h3⟩⟩))))
 refine (jw _ U1 rfl).mono ?_
 rintro _ U2 ⟨rfl, E2⟩
 refine wR_of (ne_str _ U2) ⟨_, rfl, (fun z => by cases z), fun _ => ?_⟩
 refine ne_rep (rs_post pf_ok) (wE_call (wA_cons ((jw _ U2 rfl).mono ?_))) (fun V EV => wE_v (d := PF.D) rfl ⟨rfl, Ext.refl⟩) (fun V EV => ⟨(fun z => by cases z), fun _ => wS_next ⟨rfl, ?_⟩⟩)
 ·rintro _ V ⟨rfl, EV⟩
  refine wA_nil ⟨rfl, ?_⟩
  obtain ⟨d, V2, e, rfl, E3⟩ := sr_post pf_ok 22 V
  refine ⟨PF.D, V2, ?_, rfl, EV.trans E3⟩
  show ((lv 29 27 [.str (txt PF.W)] V).bind fun p => if isX p.1 = true then none else some p) = _
  rw [e]
  rfl
 ·obtain ⟨s, hs⟩ := rs_told pe_ok
  have sp0 := sr_post pe_ok
  rw [pe_txt] at sp0
  refine wS_ret (wE_bin (wE_blt (wA_cons ((said_told (p := PE) (call_rd 22 sp0 (wE_c ⟨rfl, Ext.refl⟩))).mono ?_))))
  rintro _ V3 ⟨rfl, E3⟩
  refine wA_nil (wR_of (hs V3) (wE_blt (wA_cons (wE_tup (wA_cons (wE_c (wA_cons (wE_tup (wA_cons (wE_c (wA_cons (wE_tup (wA_nil ⟨WP.sz (by simp), ?_⟩)))))))))))))
  refine wA_cons (wE_tup (wA_nil ⟨WP.sz (by simp), ?_⟩))
  refine wA_cons (wE_tup (wA_nil ⟨WP.sz (by simp), ?_⟩))
  refine wA_cons (wE_tup (wA_nil ⟨WP.sz (by simp), ?_⟩))
  refine wA_cons (wE_tup (wA_nil ⟨WP.sz (by simp), ?_⟩))
  refine wA_cons (wE_c (wA_nil ⟨WP.sz (by simp), wA_nil ⟨WP.sz (by simp), wA_nil (wR_of (hs V3) (wR_of (eq_str s V3) rfl))⟩⟩))
theorem feed_ok (j : Nat) {ns : List Int} (hl : ns.length ≤ 63) : WR (lv (j + 1) 17 [.ref 0] [.cst (ns.map D.int)]) fun r T => r = .ref 3 ∧ FeedAt ns 0 T := by
 show WR (m17 (lv j) _ _) _
 unfold m17
 have s0 : seqAt 0 [.cst (ns.map D.int)] = some (ns.map D.int) := rfl
 have e1 : slA (.ref 0) none (some ((63 : Nat) : Int)) [.cst (ns.map D.int)] = some (.ref 1, [.cst (ns.map D.int), .lst (ns.map D.int)]) := by
  show (seqAt 0 [.cst (ns.map D.int)]).bind (fun xs => newL (PL.cutD xs none (some ((63 : Nat) : Int))) [.cst (ns.map D.int)]) = _
  rw [s0, Option.bind_some, cut_to, List.take_of_length_le (by rw [List.length_map]; exact hl)]
  rfl
 have e2 : gList [.ref 1] [.cst (ns.map D.int), .lst (ns.map D.int)] = some (.ref 2, [.cst (ns.map D.int), .lst (ns.map D.int), .lst (ns.map D.int)]) := rfl
 refine WP.wB (wS_ret (wE_lst (wA_cons (wE_blt (wA_cons (wE_slTo (wE_v rfl (wE_c ⟨63, rfl, by omega, wR_of e1 (wA_nil ?_)⟩))))))))
 refine wR_of e2 ?_
 refine wA_cons (wE_c (wA_cons (wE_c (wA_cons (wE_c (wA_nil ⟨WP.sz (by simp), _, rfl, rfl, ?_⟩))))))
 exact ⟨.cst (ns.map D.int), .lst (ns.map D.int), 0, 0, 0, [], rfl, Nat.le_refl _⟩
theorem hm : ∀ ns : List Int, ns.length ≤ 63 → ∃ S', lv 30 25 [.ref 0] [.cst (ns.map D.int)] = some (.bl true, S') := by
 intro ns hl
 obtain ⟨_, S1, e1, rfl, f1⟩ := feed_ok 28 hl
 have h : WR (m25 (lv 29) [.ref 0] [.cst (ns.map D.int)]) fun r _ => r = .bl true := by
  unfold m25
  refine WP.wB (wS_then (wS_asg (wE_call (wA_cons (wE_v rfl (wA_nil ⟨rfl, wR_of e1 ⟨rfl, ?_⟩⟩))))))
  refine wS_then (wS_for (n := 6) (nx := nxR 0 6) (S1 := S1) (I := fun i e T => (∃ y2 y3 y4 y5 y6 y7 y8 y9 y10 y11 y12 y13 y14 y15 y16 y17 y18 y19, e = [some (.ref 0), some (.ref 3), y2, y3, y4, y5, y6, y7, y8, y9, y10, y11, y12, y13, y14, y15, y16, y17, y18, y19]) ∧ FeedAt ns (61 * i) T) rfl ⟨⟨none, none, none, none, none, none, none, none, none, none, none, none, none, none, none, none, none, none, rfl⟩, f1⟩ ?_ ?_ ?_)
  ·rintro i e T hi ⟨⟨y2, y3, y4, y5, y6, y7, y8, y9, y10, y11, y12, y13, y14, y15, y16, y17, y18, y19, rfl⟩, fT⟩
   refine ⟨.int (i : Nat), _, T, nxR_in hi, rfl, ?_⟩
   refine (turn_ok (tu := .int (i : Nat)) rfl fT (by omega)).mono ?_
   rintro _ _ U ⟨rfl, h1, fU⟩
   have e : 61 * (i + 1) = 61 * i + 61 := by omega
   rw [e]
   exact ⟨rfl, h1, fU⟩
  ·intro e T _
   exact nxR_end
  ·rintro e T ⟨⟨y2, y3, y4, y5, y6, y7, y8, y9, y10, y11, y12, y13, y14, y15, y16, y17, y18, y19, rfl⟩, _⟩
   refine ⟨rfl, rest_ok.mono ?_⟩
   rintro _ _ U rfl
   exact ⟨_, rfl, rfl⟩
 obtain ⟨_, S', e, rfl⟩ := h
 exact ⟨S', e⟩
end K33
end
section
set_option maxHeartbeats 0
namespace K33
open PySem PySem.Spec PyProof.Rows L2 PL
section
variable {q : Program} {w : World} {K : PySem.W.Frag} {h : Heap} {mg : Str → Option Value} {fa : Addr} {l : PySem.W.OpenLaw}
theorem fin_mk (X : K.In h) (G : h.Ns mainGlobals mg) (hfa : mg (Str.ofString "law") = some (.ref fa))
 {X0 : Addr} {X1 : Addr} {X2 : Addr} {X3 : Addr} {X4 : Addr} {X5 : Addr} {X6 : Addr} {X7 : Addr} {f0 : Addr} {od0 an0 : Option Addr} {sl0 : Array (Option Value)} {oc0 dc0 pm0 ct0 : Value}
 {kV0 : Value} {cd0 : Value} {f1 : Addr} {od1 an1 : Option Addr} {sl1 : Array (Option Value)} {oc1 dc1 pm1 ct1 : Value}
 {kV1 : Value} {cd1 : Value} {f2 : Addr} {od2 an2 : Option Addr} {sl2 : Array (Option Value)} {oc2 dc2 pm2 ct2 : Value}
 {kV2 : Value} {cd2 : Value} {f3 : Addr} {od3 an3 : Option Addr} {sl3 : Array (Option Value)} {oc3 dc3 pm3 ct3 : Value}
 {kV3 : Value} {cd3 : Value} {f4 : Addr} {od4 an4 : Option Addr} {sl4 : Array (Option Value)} {oc4 dc4 pm4 ct4 : Value}
 {kV4 : Value} {cd4 : Value} {f5 : Addr} {od5 an5 : Option Addr} {sl5 : Array (Option Value)} {oc5 dc5 pm5 ct5 : Value}
 {kV5 : Value} {cd5 : Value} {f6 : Addr} {od6 an6 : Option Addr} {sl6 : Array (Option Value)} {oc6 dc6 pm6 ct6 : Value}
 {kV6 : Value} {cd6 : Value} {f7 : Addr} {od7 an7 : Option Addr} {sl7 : Array (Option Value)} {oc7 dc7 pm7 ct7 : Value}
 {kV7 : Value} {cd7 : Value} {f8 : Addr} {od8 an8 : Option Addr} {sl8 : Array (Option Value)} {oc8 dc8 pm8 ct8 : Value}
 {kV8 : Value} {cd8 : Value} {f9 : Addr} {od9 an9 : Option Addr} {sl9 : Array (Option Value)} {oc9 dc9 pm9 ct9 : Value}
 {kV9 : Value} {cd9 : Value} {f10 : Addr} {od10 an10 : Option Addr} {sl10 : Array (Option Value)} {oc10 dc10 pm10 ct10 : Value}
 {kV10 : Value} {cd10 : Value} {f11 : Addr} {od11 an11 : Option Addr} {sl11 : Array (Option Value)} {oc11 dc11 pm11 ct11 : Value}
 {kV11 : Value} {cd11 : Value} {f12 : Addr} {od12 an12 : Option Addr} {sl12 : Array (Option Value)} {oc12 dc12 pm12 ct12 : Value}
 {kV12 : Value} {cd12 : Value} {f13 : Addr} {od13 an13 : Option Addr} {sl13 : Array (Option Value)} {oc13 dc13 pm13 ct13 : Value}
 {kV13 : Value} {cd13 : Value} {f14 : Addr} {od14 an14 : Option Addr} {sl14 : Array (Option Value)} {oc14 dc14 pm14 ct14 : Value}
 {kV14 : Value} {cd14 : Value} {f15 : Addr} {od15 an15 : Option Addr} {sl15 : Array (Option Value)} {oc15 dc15 pm15 ct15 : Value}
 {kV15 : Value} {cd15 : Value} {f16 : Addr} {od16 an16 : Option Addr} {sl16 : Array (Option Value)} {oc16 dc16 pm16 ct16 : Value}
 {kV16 : Value} {cd16 : Value} {f17 : Addr} {od17 an17 : Option Addr} {sl17 : Array (Option Value)} {oc17 dc17 pm17 ct17 : Value}
 {kV17 : Value} {cd17 : Value} {f18 : Addr} {od18 an18 : Option Addr} {sl18 : Array (Option Value)} {oc18 dc18 pm18 ct18 : Value}
 {kV18 : Value} {cd18 : Value} {f19 : Addr} {od19 an19 : Option Addr} {sl19 : Array (Option Value)} {oc19 dc19 pm19 ct19 : Value}
 {kV19 : Value} {cd19 : Value} {f20 : Addr} {od20 an20 : Option Addr} {sl20 : Array (Option Value)} {oc20 dc20 pm20 ct20 : Value}
 {kV20 : Value} {cd20 : Value} {f21 : Addr} {od21 an21 : Option Addr} {sl21 : Array (Option Value)} {oc21 dc21 pm21 ct21 : Value}
 {kV21 : Value} {cd21 : Value} {f22 : Addr} {od22 an22 : Option Addr} {sl22 : Array (Option Value)} {oc22 dc22 pm22 ct22 : Value}
 {kV22 : Value} {cd22 : Value} {f23 : Addr} {od23 an23 : Option Addr} {sl23 : Array (Option Value)} {oc23 dc23 pm23 ct23 : Value}
 {kV23 : Value} {cd23 : Value} {f24 : Addr} {od24 an24 : Option Addr} {sl24 : Array (Option Value)} {oc24 dc24 pm24 ct24 : Value}
 {kV24 : Value} {cd24 : Value} {f25 : Addr} {od25 an25 : Option Addr} {sl25 : Array (Option Value)} {oc25 dc25 pm25 ct25 : Value}
 {kV25 : Value} {ca25 pa25 : Addr} {f26 : Addr} {od26 an26 : Option Addr} {sl26 : Array (Option Value)} {oc26 dc26 pm26 ct26 : Value}
 {kV26 : Value} {cd26 : Value} {f27 : Addr} {od27 an27 : Option Addr} {sl27 : Array (Option Value)} {oc27 dc27 pm27 ct27 : Value}
 {kV27 : Value} {cd27 : Value} {f28 : Addr} {od28 an28 : Option Addr} {sl28 : Array (Option Value)} {oc28 dc28 pm28 ct28 : Value}
 {kV28 : Value} {cd28 : Value} {f29 : Addr} {od29 an29 : Option Addr} {sl29 : Array (Option Value)} {oc29 dc29 pm29 ct29 : Value}
 {kV29 : Value} {cd29 : Value} {oz25 : Value} {dz25 : Option Addr} {vz25 : Array Value} {sz25 : Array (Option Value)} {xnm7 : _} {xq7 : _} {xN7 : _} {xbs7 : _} {xbm7 : _} {xsn7 : _} {xsub7 : _} {xab7 : _} {xcol7 : _} {xdd7 : _} {xk07 : _} {xk17 : _} {xk27 : _} {xk37 : _} {xk57 : _}
 {yd0 : _} {yd1 : _} {yd2 : _} {yd3 : _} {yd4 : _} {yd5 : _} {yd6 : _} {yd7 : _} {tk_FIGURES : PySem.Tok} {tk_DEEP : PySem.Tok} (aX0 : PySem.W.nsIn K mainGlobals (Str.ofString "TaleError") = some (some (.ref X0)))
 (aX1 : PySem.W.nsIn K mainGlobals (Str.ofString "LackError") = some (some (.ref X1)))
 (aX2 : PySem.W.nsIn K mainGlobals (Str.ofString "NoPaper") = some (some (.ref X2)))
 (aX3 : PySem.W.nsIn K mainGlobals (Str.ofString "NoStory") = some (some (.ref X3)))
 (aX4 : PySem.W.nsIn K mainGlobals (Str.ofString "NoChoice") = some (some (.ref X4)))
 (aX5 : PySem.W.nsIn K mainGlobals (Str.ofString "NoRow") = some (some (.ref X5)))
 (aX6 : PySem.W.nsIn K mainGlobals (Str.ofString "NoMore") = some (some (.ref X6)))
 (aX7 : PySem.W.nsIn K mainGlobals (Str.ofString "NoText") = some (some (.ref X7)))
 (a0 : PySem.W.nsIn K mainGlobals (Str.ofString "is_word") = some (some (.ref f0)))
 (l0 : K.lookup f0 = some ⟨oc0, od0, .func (PySem.W.fnOf (Str.ofString "is_word") (Str.ofString "is_word") (defArgs s0) (defBody s0) (defScope s0) .none kV0 dc0 pm0 an0 cd0 ct0), sl0⟩)
 (c0 : PySem.W.codeIn K cd0 (Str.ofString "is_word") = true)
 (k0 : PySem.W.keepIn K (.ref f0) = true)
 (a1 : PySem.W.nsIn K mainGlobals (Str.ofString "listed") = some (some (.ref f1)))
 (l1 : K.lookup f1 = some ⟨oc1, od1, .func (PySem.W.fnOf (Str.ofString "listed") (Str.ofString "listed") (defArgs s1) (defBody s1) (defScope s1) .none kV1 dc1 pm1 an1 cd1 ct1), sl1⟩)
 (c1 : PySem.W.codeIn K cd1 (Str.ofString "listed") = true)
 (k1 : PySem.W.keepIn K (.ref f1) = true)
 (a2 : PySem.W.nsIn K mainGlobals (Str.ofString "unlisted") = some (some (.ref f2)))
 (l2 : K.lookup f2 = some ⟨oc2, od2, .func (PySem.W.fnOf (Str.ofString "unlisted") (Str.ofString "unlisted") (defArgs s2) (defBody s2) (defScope s2) .none kV2 dc2 pm2 an2 cd2 ct2), sl2⟩)
 (c2 : PySem.W.codeIn K cd2 (Str.ofString "unlisted") = true)
 (k2 : PySem.W.keepIn K (.ref f2) = true)
 (a3 : PySem.W.nsIn K mainGlobals (Str.ofString "halves") = some (some (.ref f3)))
 (l3 : K.lookup f3 = some ⟨oc3, od3, .func (PySem.W.fnOf (Str.ofString "halves") (Str.ofString "halves") (defArgs s3) (defBody s3) (defScope s3) .none kV3 dc3 pm3 an3 cd3 ct3), sl3⟩)
 (c3 : PySem.W.codeIn K cd3 (Str.ofString "halves") = true)
 (k3 : PySem.W.keepIn K (.ref f3) = true)
 (a4 : PySem.W.nsIn K mainGlobals (Str.ofString "word_read") = some (some (.ref f4)))
 (l4 : K.lookup f4 = some ⟨oc4, od4, .func (PySem.W.fnOf (Str.ofString "word_read") (Str.ofString "word_read") (defArgs s4) (defBody s4) (defScope s4) .none kV4 dc4 pm4 an4 cd4 ct4), sl4⟩)
 (c4 : PySem.W.codeIn K cd4 (Str.ofString "word_read") = true)
 (k4 : PySem.W.keepIn K (.ref f4) = true)
 (a5 : PySem.W.nsIn K mainGlobals (Str.ofString "pair_read") = some (some (.ref f5)))
 (l5 : K.lookup f5 = some ⟨oc5, od5, .func (PySem.W.fnOf (Str.ofString "pair_read") (Str.ofString "pair_read") (defArgs s5) (defBody s5) (defScope s5) .none kV5 dc5 pm5 an5 cd5 ct5), sl5⟩)
 (c5 : PySem.W.codeIn K cd5 (Str.ofString "pair_read") = true)
 (k5 : PySem.W.keepIn K (.ref f5) = true)
 (a6 : PySem.W.nsIn K mainGlobals (Str.ofString "number_read") = some (some (.ref f6)))
 (l6 : K.lookup f6 = some ⟨oc6, od6, .func (PySem.W.fnOf (Str.ofString "number_read") (Str.ofString "number_read") (defArgs s6) (defBody s6) (defScope s6) .none kV6 dc6 pm6 an6 cd6 ct6), sl6⟩)
 (c6 : PySem.W.codeIn K cd6 (Str.ofString "number_read") = true)
 (k6 : PySem.W.keepIn K (.ref f6) = true)
 (a7 : PySem.W.nsIn K mainGlobals (Str.ofString "_are_figures") = some (some (.ref f7)))
 (l7 : K.lookup f7 = some ⟨oc7, od7, .func (PySem.W.fnOf (Str.ofString "_are_figures") (Str.ofString "_are_figures") (defArgs s7) (defBody s7) (defScope s7) .none kV7 dc7 pm7 an7 cd7 ct7), sl7⟩)
 (c7 : PySem.W.codeIn K cd7 (Str.ofString "_are_figures") = true)
 (k7 : PySem.W.keepIn K (.ref f7) = true)
 (a8 : PySem.W.nsIn K mainGlobals (Str.ofString "stand_text") = some (some (.ref f8)))
 (l8 : K.lookup f8 = some ⟨oc8, od8, .func (PySem.W.fnOf (Str.ofString "stand_text") (Str.ofString "stand_text") (defArgs s8) (defBody s8) (defScope s8) .none kV8 dc8 pm8 an8 cd8 ct8), sl8⟩)
 (c8 : PySem.W.codeIn K cd8 (Str.ofString "stand_text") = true)
 (k8 : PySem.W.keepIn K (.ref f8) = true)
 (a9 : PySem.W.nsIn K mainGlobals (Str.ofString "_stack_read") = some (some (.ref f9)))
 (l9 : K.lookup f9 = some ⟨oc9, od9, .func (PySem.W.fnOf (Str.ofString "_stack_read") (Str.ofString "_stack_read") (defArgs s9) (defBody s9) (defScope s9) .none kV9 dc9 pm9 an9 cd9 ct9), sl9⟩)
 (c9 : PySem.W.codeIn K cd9 (Str.ofString "_stack_read") = true)
 (k9 : PySem.W.keepIn K (.ref f9) = true)
 (a10 : PySem.W.nsIn K mainGlobals (Str.ofString "_numbers_read") = some (some (.ref f10)))
 (l10 : K.lookup f10 = some ⟨oc10, od10, .func (PySem.W.fnOf (Str.ofString "_numbers_read") (Str.ofString "_numbers_read") (defArgs s10) (defBody s10) (defScope s10) .none kV10 dc10 pm10 an10 cd10 ct10), sl10⟩)
 (c10 : PySem.W.codeIn K cd10 (Str.ofString "_numbers_read") = true)
 (k10 : PySem.W.keepIn K (.ref f10) = true)
 (a11 : PySem.W.nsIn K mainGlobals (Str.ofString "_wheres_read") = some (some (.ref f11)))
 (l11 : K.lookup f11 = some ⟨oc11, od11, .func (PySem.W.fnOf (Str.ofString "_wheres_read") (Str.ofString "_wheres_read") (defArgs s11) (defBody s11) (defScope s11) .none kV11 dc11 pm11 an11 cd11 ct11), sl11⟩)
 (c11 : PySem.W.codeIn K cd11 (Str.ofString "_wheres_read") = true)
 (k11 : PySem.W.keepIn K (.ref f11) = true)
 (a12 : PySem.W.nsIn K mainGlobals (Str.ofString "_where_read") = some (some (.ref f12)))
 (l12 : K.lookup f12 = some ⟨oc12, od12, .func (PySem.W.fnOf (Str.ofString "_where_read") (Str.ofString "_where_read") (defArgs s12) (defBody s12) (defScope s12) .none kV12 dc12 pm12 an12 cd12 ct12), sl12⟩)
 (c12 : PySem.W.codeIn K cd12 (Str.ofString "_where_read") = true)
 (k12 : PySem.W.keepIn K (.ref f12) = true)
 (a13 : PySem.W.nsIn K mainGlobals (Str.ofString "_seen_read") = some (some (.ref f13)))
 (l13 : K.lookup f13 = some ⟨oc13, od13, .func (PySem.W.fnOf (Str.ofString "_seen_read") (Str.ofString "_seen_read") (defArgs s13) (defBody s13) (defScope s13) .none kV13 dc13 pm13 an13 cd13 ct13), sl13⟩)
 (c13 : PySem.W.codeIn K cd13 (Str.ofString "_seen_read") = true)
 (k13 : PySem.W.keepIn K (.ref f13) = true)
 (a14 : PySem.W.nsIn K mainGlobals (Str.ofString "_seen_pair_read") = some (some (.ref f14)))
 (l14 : K.lookup f14 = some ⟨oc14, od14, .func (PySem.W.fnOf (Str.ofString "_seen_pair_read") (Str.ofString "_seen_pair_read") (defArgs s14) (defBody s14) (defScope s14) .none kV14 dc14 pm14 an14 cd14 ct14), sl14⟩)
 (c14 : PySem.W.codeIn K cd14 (Str.ofString "_seen_pair_read") = true)
 (k14 : PySem.W.keepIn K (.ref f14) = true)
 (a15 : PySem.W.nsIn K mainGlobals (Str.ofString "_made_read") = some (some (.ref f15)))
 (l15 : K.lookup f15 = some ⟨oc15, od15, .func (PySem.W.fnOf (Str.ofString "_made_read") (Str.ofString "_made_read") (defArgs s15) (defBody s15) (defScope s15) .none kV15 dc15 pm15 an15 cd15 ct15), sl15⟩)
 (c15 : PySem.W.codeIn K cd15 (Str.ofString "_made_read") = true)
 (k15 : PySem.W.keepIn K (.ref f15) = true)
 (a16 : PySem.W.nsIn K mainGlobals (Str.ofString "_choice_read") = some (some (.ref f16)))
 (l16 : K.lookup f16 = some ⟨oc16, od16, .func (PySem.W.fnOf (Str.ofString "_choice_read") (Str.ofString "_choice_read") (defArgs s16) (defBody s16) (defScope s16) .none kV16 dc16 pm16 an16 cd16 ct16), sl16⟩)
 (c16 : PySem.W.codeIn K cd16 (Str.ofString "_choice_read") = true)
 (k16 : PySem.W.keepIn K (.ref f16) = true)
 (a17 : PySem.W.nsIn K mainGlobals (Str.ofString "_law_feed") = some (some (.ref f17)))
 (l17 : K.lookup f17 = some ⟨oc17, od17, .func (PySem.W.fnOf (Str.ofString "_law_feed") (Str.ofString "_law_feed") (defArgs s17) (defBody s17) (defScope s17) .none kV17 dc17 pm17 an17 cd17 ct17), sl17⟩)
 (c17 : PySem.W.codeIn K cd17 (Str.ofString "_law_feed") = true)
 (k17 : PySem.W.keepIn K (.ref f17) = true)
 (a18 : PySem.W.nsIn K mainGlobals (Str.ofString "_law_draw") = some (some (.ref f18)))
 (l18 : K.lookup f18 = some ⟨oc18, od18, .func (PySem.W.fnOf (Str.ofString "_law_draw") (Str.ofString "_law_draw") (defArgs s18) (defBody s18) (defScope s18) .none kV18 dc18 pm18 an18 cd18 ct18), sl18⟩)
 (c18 : PySem.W.codeIn K cd18 (Str.ofString "_law_draw") = true)
 (k18 : PySem.W.keepIn K (.ref f18) = true)
 (a19 : PySem.W.nsIn K mainGlobals (Str.ofString "_law_any") = some (some (.ref f19)))
 (l19 : K.lookup f19 = some ⟨oc19, od19, .func (PySem.W.fnOf (Str.ofString "_law_any") (Str.ofString "_law_any") (defArgs s19) (defBody s19) (defScope s19) .none kV19 dc19 pm19 an19 cd19 ct19), sl19⟩)
 (c19 : PySem.W.codeIn K cd19 (Str.ofString "_law_any") = true)
 (k19 : PySem.W.keepIn K (.ref f19) = true)
 (a20 : PySem.W.nsIn K mainGlobals (Str.ofString "_law_joined") = some (some (.ref f20)))
 (l20 : K.lookup f20 = some ⟨oc20, od20, .func (PySem.W.fnOf (Str.ofString "_law_joined") (Str.ofString "_law_joined") (defArgs s20) (defBody s20) (defScope s20) .none kV20 dc20 pm20 an20 cd20 ct20), sl20⟩)
 (c20 : PySem.W.codeIn K cd20 (Str.ofString "_law_joined") = true)
 (k20 : PySem.W.keepIn K (.ref f20) = true)
 (a21 : PySem.W.nsIn K mainGlobals (Str.ofString "_law_words") = some (some (.ref f21)))
 (l21 : K.lookup f21 = some ⟨oc21, od21, .func (PySem.W.fnOf (Str.ofString "_law_words") (Str.ofString "_law_words") (defArgs s21) (defBody s21) (defScope s21) .none kV21 dc21 pm21 an21 cd21 ct21), sl21⟩)
 (c21 : PySem.W.codeIn K cd21 (Str.ofString "_law_words") = true)
 (k21 : PySem.W.keepIn K (.ref f21) = true)
 (a22 : PySem.W.nsIn K mainGlobals (Str.ofString "_law_any_post") = some (some (.ref f22)))
 (l22 : K.lookup f22 = some ⟨oc22, od22, .func (PySem.W.fnOf (Str.ofString "_law_any_post") (Str.ofString "_law_any_post") (defArgs s22) (defBody s22) (defScope s22) .none kV22 dc22 pm22 an22 cd22 ct22), sl22⟩)
 (c22 : PySem.W.codeIn K cd22 (Str.ofString "_law_any_post") = true)
 (k22 : PySem.W.keepIn K (.ref f22) = true)
 (a23 : PySem.W.nsIn K mainGlobals (Str.ofString "_law_bad_words") = some (some (.ref f23)))
 (l23 : K.lookup f23 = some ⟨oc23, od23, .func (PySem.W.fnOf (Str.ofString "_law_bad_words") (Str.ofString "_law_bad_words") (defArgs s23) (defBody s23) (defScope s23) .none kV23 dc23 pm23 an23 cd23 ct23), sl23⟩)
 (c23 : PySem.W.codeIn K cd23 (Str.ofString "_law_bad_words") = true)
 (k23 : PySem.W.keepIn K (.ref f23) = true)
 (a24 : PySem.W.nsIn K mainGlobals (Str.ofString "_law_good_words") = some (some (.ref f24)))
 (l24 : K.lookup f24 = some ⟨oc24, od24, .func (PySem.W.fnOf (Str.ofString "_law_good_words") (Str.ofString "_law_good_words") (defArgs s24) (defBody s24) (defScope s24) .none kV24 dc24 pm24 an24 cd24 ct24), sl24⟩)
 (c24 : PySem.W.codeIn K cd24 (Str.ofString "_law_good_words") = true)
 (k24 : PySem.W.keepIn K (.ref f24) = true)
 (a25 : PySem.W.nsIn K mainGlobals (Str.ofString "law") = some (some (.ref f25)))
 (l25 : K.lookup f25 = some ⟨oc25, od25, .func (PySem.W.fnOf (Str.ofString "law") (Str.ofString "law") (defArgs s25) (defBody s25) (defScope s25) .none kV25 dc25 pm25 an25 (.ref ca25) ct25), sl25⟩)
 (c25 : PySem.W.codeIn K (.ref ca25) (Str.ofString "law") = true)
 (k25 : PySem.W.keepIn K (.ref f25) = true)
 (cl25 : K.lookup ca25 = some ⟨oz25, dz25, .fields vz25, sz25⟩)
 (vt25 : (vz25[11]? : Option Value) = some (.ref pa25))
 (tn25 : K.lookup pa25 = none)
 (rf25 : ((recsOf q).find? fun e => e.name == (Str.ofString "law")).isSome = true)
 (a26 : PySem.W.nsIn K mainGlobals (Str.ofString "values_read") = some (some (.ref f26)))
 (l26 : K.lookup f26 = some ⟨oc26, od26, .func (PySem.W.fnOf (Str.ofString "values_read") (Str.ofString "values_read") (defArgs s26) (defBody s26) (defScope s26) .none kV26 dc26 pm26 an26 cd26 ct26), sl26⟩)
 (c26 : PySem.W.codeIn K cd26 (Str.ofString "values_read") = true)
 (k26 : PySem.W.keepIn K (.ref f26) = true)
 (a27 : PySem.W.nsIn K mainGlobals (Str.ofString "stand_read") = some (some (.ref f27)))
 (l27 : K.lookup f27 = some ⟨oc27, od27, .func (PySem.W.fnOf (Str.ofString "stand_read") (Str.ofString "stand_read") (defArgs s27) (defBody s27) (defScope s27) .none kV27 dc27 pm27 an27 cd27 ct27), sl27⟩)
 (c27 : PySem.W.codeIn K cd27 (Str.ofString "stand_read") = true)
 (k27 : PySem.W.keepIn K (.ref f27) = true)
 (a28 : PySem.W.nsIn K mainGlobals (Str.ofString "_law_said") = some (some (.ref f28)))
 (l28 : K.lookup f28 = some ⟨oc28, od28, .func (PySem.W.fnOf (Str.ofString "_law_said") (Str.ofString "_law_said") (defArgs s28) (defBody s28) (defScope s28) .none kV28 dc28 pm28 an28 cd28 ct28), sl28⟩)
 (c28 : PySem.W.codeIn K cd28 (Str.ofString "_law_said") = true)
 (k28 : PySem.W.keepIn K (.ref f28) = true)
 (a29 : PySem.W.findIn K (.ref X7) (Str.ofString "__init__") = some (some (.ref f29)))
 (ti29 : PySem.W.typeIn K (.ref f29) = some (.type "function"))
 (l29 : K.lookup f29 = some ⟨oc29, od29, .func (PySem.W.fnOf (Str.ofString "__init__") (Str.ofString "NoText.__init__") (defArgs s29) (defBody s29) (defScope s29) .none kV29 dc29 pm29 an29 cd29 ct29), sl29⟩)
 (c29 : PySem.W.codeIn K cd29 (Str.ofString "NoText.__init__") = true)
 (k29 : PySem.W.keepIn K (.ref f29) = true)
 (xl7 : K.lookup X7 = some (excClassObj xnm7 xq7 X7 xN7 xbs7 xbm7 true xsn7 xsub7 xab7 xcol7 xdd7 xk07 xk17 xk27 xk37 xk57 "ValueError.__new__"))
 (xr7 : PySem.HandSPX.refsVE xbm7 = true)
 (xs7 : PySem.W.findIn K (.ref X7) (Str.ofString "__setattr__") = some (some (.builtin "object.__setattr__")))
 (xe7 : PySem.W.subIn K (.ref X7) (.type "BaseException") = some true)
 (xt7 : PySem.W.typeIn K (.ref X7) = some (.type "type"))
 (xk7 : PySem.W.keepIn K (.ref X7) = true)
 (xn7_at : PySem.W.findIn K (.ref X7) (Str.ofString "at") = some none)
 (xn7_choice : PySem.W.findIn K (.ref X7) (Str.ofString "choice") = some none)
 (xn7_k : PySem.W.findIn K (.ref X7) (Str.ofString "k") = some none)
 (xn7_line : PySem.W.findIn K (.ref X7) (Str.ofString "line") = some none)
 (xn7_why : PySem.W.findIn K (.ref X7) (Str.ofString "why") = some none)
 (xn7_word : PySem.W.findIn K (.ref X7) (Str.ofString "word") = some none)
 (xga7 : PySem.W.findIn K (.ref X7) "__getattribute__" = some (some (.builtin "BaseException.__getattribute__")))
 (xgg7 : PySem.W.findIn K (.ref X7) "__getattr__" = some none)
 (xhd7 : PySem.W.hasDictIn K X7 = true)
 (xha7 : PySem.W.findIn K (.ref X7) "__class__" = some (some (.builtin "object.__class__")))
 (xhn7 : PySem.W.specialIn K (.builtin "object.__class__") "__get__" = some (some (.builtin "getset_descriptor.__get__")))
 (xht7 : PySem.W.takesIn K (.builtin "object.__class__") = some true)
 (xhm7 : PySem.W.mroIn K X7 (.type "object") = some true)
 (xo7_0 : PySem.W.subIn K (.ref X7) (.ref X0) = some true)
 (nx7_0 : X7 ≠ X0)
 (xo7_1 : PySem.W.subIn K (.ref X7) (.ref X1) = some false)
 (nx7_1 : X7 ≠ X1)
 (xo7_2 : PySem.W.subIn K (.ref X7) (.ref X2) = some false)
 (nx7_2 : X7 ≠ X2)
 (xo7_3 : PySem.W.subIn K (.ref X7) (.ref X3) = some false)
 (nx7_3 : X7 ≠ X3)
 (xo7_4 : PySem.W.subIn K (.ref X7) (.ref X4) = some false)
 (nx7_4 : X7 ≠ X4)
 (xo7_5 : PySem.W.subIn K (.ref X7) (.ref X5) = some false)
 (nx7_5 : X7 ≠ X5)
 (xo7_6 : PySem.W.subIn K (.ref X7) (.ref X6) = some false)
 (nx7_6 : X7 ≠ X6)
 (xu7_ValueError : PySem.W.subIn K (.ref X7) (.type "ValueError") = some true)
 (yc0 : PySem.W.clsIn K X0 = some yd0)
 (yt0 : PySem.W.typeIn K (.ref X0) = some (.type "type"))
 (yc1 : PySem.W.clsIn K X1 = some yd1)
 (yt1 : PySem.W.typeIn K (.ref X1) = some (.type "type"))
 (yc2 : PySem.W.clsIn K X2 = some yd2)
 (yt2 : PySem.W.typeIn K (.ref X2) = some (.type "type"))
 (yc3 : PySem.W.clsIn K X3 = some yd3)
 (yt3 : PySem.W.typeIn K (.ref X3) = some (.type "type"))
 (yc4 : PySem.W.clsIn K X4 = some yd4)
 (yt4 : PySem.W.typeIn K (.ref X4) = some (.type "type"))
 (yc5 : PySem.W.clsIn K X5 = some yd5)
 (yt5 : PySem.W.typeIn K (.ref X5) = some (.type "type"))
 (yc6 : PySem.W.clsIn K X6 = some yd6)
 (yt6 : PySem.W.typeIn K (.ref X6) = some (.type "type"))
 (yc7 : PySem.W.clsIn K X7 = some yd7)
 (yt7 : PySem.W.typeIn K (.ref X7) = some (.type "type"))
 (yb : PySem.W.subIn K (.ref X0) (.type "BaseException") = some true)
 (z_ValueError : PySem.W.nsIn K mainGlobals (Str.ofString "ValueError") = some none)
 (z_all : PySem.W.nsIn K mainGlobals (Str.ofString "all") = some none)
 (z_int : PySem.W.nsIn K mainGlobals (Str.ofString "int") = some none)
 (z_isinstance : PySem.W.nsIn K mainGlobals (Str.ofString "isinstance") = some none)
 (z_len : PySem.W.nsIn K mainGlobals (Str.ofString "len") = some none)
 (z_list : PySem.W.nsIn K mainGlobals (Str.ofString "list") = some none)
 (z_range : PySem.W.nsIn K mainGlobals (Str.ofString "range") = some none)
 (z_repr : PySem.W.nsIn K mainGlobals (Str.ofString "repr") = some none)
 (z_str : PySem.W.nsIn K mainGlobals (Str.ofString "str") = some none)
 (z_tuple : PySem.W.nsIn K mainGlobals (Str.ofString "tuple") = some none)
 (cv_FIGURES : PySem.W.nsIn K mainGlobals (Str.ofString "FIGURES") = some (some (.str (Str.ofString "0123456789") tk_FIGURES)))
 (cv_DEEP : PySem.W.nsIn K mainGlobals (Str.ofString "DEEP") = some (some (.int 3 tk_DEEP)))
  :
 ∃ (t : Tbl) (cs : List (Str × Addr × Addr)) (fd : FuncData), (∀ p ∈ t.T, ∃ u ∈ cs, u.2.2 = p.1) ∧
  (∀ p ∈ cs, PySem.W.tabIn K p.1 = some p.2 ∧ ((recsOf q).find? fun e => e.name == p.1).isSome = true ∧ K.lookup p.2.2 = none) ∧ Binds K fd (dP 25) [] ∧
  ∀ base : Heap, K.In base → base.Ns mainGlobals mg → (∀ p ∈ cs, LamX.TabB base mg p.2.1 p.2.2) → FnG l.prog w K mg base (3 * 30) fa fd (dP 25) (@spM t K mg (dN 25) (lv 30 25)) := by
 have e := hfa.symm.trans (PySem.W.mg_of X G a25)
 cases e
 have F0 := fun_mk (st := s0) l0 c0 k0
 have b0 := F0.binds (ps := P0) fun _ _ _ _ _ _ us hl => match us, hl with | [_], _ => rfl
 have F1 := fun_mk (st := s1) l1 c1 k1
 have b1 := F1.binds (ps := P1) fun _ _ _ _ _ _ us hl => match us, hl with | [_], _ => rfl
 have F2 := fun_mk (st := s2) l2 c2 k2
 have b2 := F2.binds (ps := P2) fun _ _ _ _ _ _ us hl => match us, hl with | [_, _], _ => rfl
 have F3 := fun_mk (st := s3) l3 c3 k3
 have b3 := F3.binds (ps := P3) fun _ _ _ _ _ _ us hl => match us, hl with | [_, _], _ => rfl
 have F4 := fun_mk (st := s4) l4 c4 k4
 have b4 := F4.binds (ps := P4) fun _ _ _ _ _ _ us hl => match us, hl with | [_], _ => rfl
 have F5 := fun_mk (st := s5) l5 c5 k5
 have b5 := F5.binds (ps := P5) fun _ _ _ _ _ _ us hl => match us, hl with | [_, _], _ => rfl
 have F6 := fun_mk (st := s6) l6 c6 k6
 have b6 := F6.binds (ps := P6) fun _ _ _ _ _ _ us hl => match us, hl with | [_], _ => rfl
 have F7 := fun_mk (st := s7) l7 c7 k7
 have b7 := F7.binds (ps := P7) fun _ _ _ _ _ _ us hl => match us, hl with | [_], _ => rfl
 have F8 := fun_mk (st := s8) l8 c8 k8
 have b8 := F8.binds (ps := P8) fun _ _ _ _ _ _ us hl => match us, hl with | [_], _ => rfl
 have F9 := fun_mk (st := s9) l9 c9 k9
 have b9 := F9.binds (ps := P9) fun _ _ _ _ _ _ us hl => match us, hl with | [_], _ => rfl
 have F10 := fun_mk (st := s10) l10 c10 k10
 have b10 := F10.binds (ps := P10) fun _ _ _ _ _ _ us hl => match us, hl with | [_], _ => rfl
 have F11 := fun_mk (st := s11) l11 c11 k11
 have b11 := F11.binds (ps := P11) fun _ _ _ _ _ _ us hl => match us, hl with | [_], _ => rfl
 have F12 := fun_mk (st := s12) l12 c12 k12
 have b12 := F12.binds (ps := P12) fun _ _ _ _ _ _ us hl => match us, hl with | [_], _ => rfl
 have F13 := fun_mk (st := s13) l13 c13 k13
 have b13 := F13.binds (ps := P13) fun _ _ _ _ _ _ us hl => match us, hl with | [_], _ => rfl
 have F14 := fun_mk (st := s14) l14 c14 k14
 have b14 := F14.binds (ps := P14) fun _ _ _ _ _ _ us hl => match us, hl with | [_], _ => rfl
 have F15 := fun_mk (st := s15) l15 c15 k15
 have b15 := F15.binds (ps := P15) fun _ _ _ _ _ _ us hl => match us, hl with | [_], _ => rfl
 have F16 := fun_mk (st := s16) l16 c16 k16
 have b16 := F16.binds (ps := P16) fun _ _ _ _ _ _ us hl => match us, hl with | [_], _ => rfl
 have F17 := fun_mk (st := s17) l17 c17 k17
 have b17 := F17.binds (ps := P17) fun _ _ _ _ _ _ us hl => match us, hl with | [_], _ => rfl
 have F18 := fun_mk (st := s18) l18 c18 k18
 have b18 := F18.binds (ps := P18) fun _ _ _ _ _ _ us hl => match us, hl with | [_, _], _ => rfl
 have F19 := fun_mk (st := s19) l19 c19 k19
 have b19 := F19.binds (ps := P19) fun _ _ _ _ _ _ us hl => match us, hl with | [_, _], _ => rfl
 have F20 := fun_mk (st := s20) l20 c20 k20
 have b20 := F20.binds (ps := P20) fun _ _ _ _ _ _ us hl => match us, hl with | [_], _ => rfl
 have F21 := fun_mk (st := s21) l21 c21 k21
 have b21 := F21.binds (ps := P21) fun _ _ _ _ _ _ us hl => match us, hl with | [_], _ => rfl
 have F22 := fun_mk (st := s22) l22 c22 k22
 have b22 := F22.binds (ps := P22) fun _ _ _ _ _ _ us hl => match us, hl with | [_], _ => rfl
 have F23 := fun_mk (st := s23) l23 c23 k23
 have b23 := F23.binds (ps := P23) fun _ _ _ _ _ _ us hl => match us, hl with | [_], _ => rfl
 have F24 := fun_mk (st := s24) l24 c24 k24
 have b24 := F24.binds (ps := P24) fun _ _ _ _ _ _ us hl => match us, hl with | [_], _ => rfl
 have F25 := fun_mk (st := s25) l25 c25 k25
 have b25 := F25.binds (ps := P25) fun _ _ _ _ _ _ us hl => match us, hl with | [_], _ => rfl
 have F26 := fun_mk (st := s26) l26 c26 k26
 have b26 := F26.binds (ps := P26) fun _ _ _ _ _ _ us hl => match us, hl with | [_, _, _, _], _ => rfl
 have F27 := fun_mk (st := s27) l27 c27 k27
 have b27 := F27.binds (ps := P27) fun _ _ _ _ _ _ us hl => match us, hl with | [_], _ => rfl
 have F28 := fun_mk (st := s28) l28 c28 k28
 have b28 := F28.binds (ps := P28) fun _ _ _ _ _ _ us hl => match us, hl with | [_], _ => rfl
 have F29 := fun_mk (st := s29) l29 c29 k29
 have b29 := F29.binds (ps := P29) fun _ _ _ _ _ _ us hl => match us, hl with | [_, _, _], _ => rfl
 have gX0 := PySem.W.mg_of X G aX0
 have gX1 := PySem.W.mg_of X G aX1
 have gX2 := PySem.W.mg_of X G aX2
 have gX3 := PySem.W.mg_of X G aX3
 have gX4 := PySem.W.mg_of X G aX4
 have gX5 := PySem.W.mg_of X G aX5
 have gX6 := PySem.W.mg_of X G aX6
 have gX7 := PySem.W.mg_of X G aX7
 let ff : Nat → Addr := (fun i => match i with | 0 => f0 | 1 => f1 | 2 => f2 | 3 => f3 | 4 => f4 | 5 => f5 | 6 => f6 | 7 => f7 | 8 => f8 | 9 => f9 | 10 => f10 | 11 => f11 | 12 => f12 | 13 => f13 | 14 => f14 | 15 => f15 | 16 => f16 | 17 => f17 | 18 => f18 | 19 => f19 | 20 => f20 | 21 => f21 | 22 => f22 | 23 => f23 | 24 => f24 | 25 => fa | 26 => f26 | 27 => f27 | 28 => f28 | 29 => f29 | _ => f0)
 let fd : Nat → FuncData := (fun i => match i with | 0 => PySem.W.fnOf (Str.ofString "is_word") (Str.ofString "is_word") (defArgs s0) (defBody s0) (defScope s0) .none kV0 dc0 pm0 an0 cd0 ct0 | 1 => PySem.W.fnOf (Str.ofString "listed") (Str.ofString "listed") (defArgs s1) (defBody s1) (defScope s1) .none kV1 dc1 pm1 an1 cd1 ct1 | 2 => PySem.W.fnOf (Str.ofString "unlisted") (Str.ofString "unlisted") (defArgs s2) (defBody s2) (defScope s2) .none kV2 dc2 pm2 an2 cd2 ct2 | 3 => PySem.W.fnOf (Str.ofString "halves") (Str.ofString "halves") (defArgs s3) (defBody s3) (defScope s3) .none kV3 dc3 pm3 an3 cd3 ct3 | 4 => PySem.W.fnOf (Str.ofString "word_read") (Str.ofString "word_read") (defArgs s4) (defBody s4) (defScope s4) .none kV4 dc4 pm4 an4 cd4 ct4 | 5 => PySem.W.fnOf (Str.ofString "pair_read") (Str.ofString "pair_read") (defArgs s5) (defBody s5) (defScope s5) .none kV5 dc5 pm5 an5 cd5 ct5 | 6 => PySem.W.fnOf (Str.ofString "number_read") (Str.ofString "number_read") (defArgs s6) (defBody s6) (defScope s6) .none kV6 dc6 pm6 an6 cd6 ct6 | 7 => PySem.W.fnOf (Str.ofString "_are_figures") (Str.ofString "_are_figures") (defArgs s7) (defBody s7) (defScope s7) .none kV7 dc7 pm7 an7 cd7 ct7 | 8 => PySem.W.fnOf (Str.ofString "stand_text") (Str.ofString "stand_text") (defArgs s8) (defBody s8) (defScope s8) .none kV8 dc8 pm8 an8 cd8 ct8 | 9 => PySem.W.fnOf (Str.ofString "_stack_read") (Str.ofString "_stack_read") (defArgs s9) (defBody s9) (defScope s9) .none kV9 dc9 pm9 an9 cd9 ct9 | 10 => PySem.W.fnOf (Str.ofString "_numbers_read") (Str.ofString "_numbers_read") (defArgs s10) (defBody s10) (defScope s10) .none kV10 dc10 pm10 an10 cd10 ct10 | 11 => PySem.W.fnOf (Str.ofString "_wheres_read") (Str.ofString "_wheres_read") (defArgs s11) (defBody s11) (defScope s11) .none kV11 dc11 pm11 an11 cd11 ct11 | 12 => PySem.W.fnOf (Str.ofString "_where_read") (Str.ofString "_where_read") (defArgs s12) (defBody s12) (defScope s12) .none kV12 dc12 pm12 an12 cd12 ct12 | 13 => PySem.W.fnOf (Str.ofString "_seen_read") (Str.ofString "_seen_read") (defArgs s13) (defBody s13) (defScope s13) .none kV13 dc13 pm13 an13 cd13 ct13 | 14 => PySem.W.fnOf (Str.ofString "_seen_pair_read") (Str.ofString "_seen_pair_read") (defArgs s14) (defBody s14) (defScope s14) .none kV14 dc14 pm14 an14 cd14 ct14 | 15 => PySem.W.fnOf (Str.ofString "_made_read") (Str.ofString "_made_read") (defArgs s15) (defBody s15) (defScope s15) .none kV15 dc15 pm15 an15 cd15 ct15 | 16 => PySem.W.fnOf (Str.ofString "_choice_read") (Str.ofString "_choice_read") (defArgs s16) (defBody s16) (defScope s16) .none kV16 dc16 pm16 an16 cd16 ct16 | 17 => PySem.W.fnOf (Str.ofString "_law_feed") (Str.ofString "_law_feed") (defArgs s17) (defBody s17) (defScope s17) .none kV17 dc17 pm17 an17 cd17 ct17 | 18 => PySem.W.fnOf (Str.ofString "_law_draw") (Str.ofString "_law_draw") (defArgs s18) (defBody s18) (defScope s18) .none kV18 dc18 pm18 an18 cd18 ct18 | 19 => PySem.W.fnOf (Str.ofString "_law_any") (Str.ofString "_law_any") (defArgs s19) (defBody s19) (defScope s19) .none kV19 dc19 pm19 an19 cd19 ct19 | 20 => PySem.W.fnOf (Str.ofString "_law_joined") (Str.ofString "_law_joined") (defArgs s20) (defBody s20) (defScope s20) .none kV20 dc20 pm20 an20 cd20 ct20 | 21 => PySem.W.fnOf (Str.ofString "_law_words") (Str.ofString "_law_words") (defArgs s21) (defBody s21) (defScope s21) .none kV21 dc21 pm21 an21 cd21 ct21 | 22 => PySem.W.fnOf (Str.ofString "_law_any_post") (Str.ofString "_law_any_post") (defArgs s22) (defBody s22) (defScope s22) .none kV22 dc22 pm22 an22 cd22 ct22 | 23 => PySem.W.fnOf (Str.ofString "_law_bad_words") (Str.ofString "_law_bad_words") (defArgs s23) (defBody s23) (defScope s23) .none kV23 dc23 pm23 an23 cd23 ct23 | 24 => PySem.W.fnOf (Str.ofString "_law_good_words") (Str.ofString "_law_good_words") (defArgs s24) (defBody s24) (defScope s24) .none kV24 dc24 pm24 an24 cd24 ct24 | 25 => PySem.W.fnOf (Str.ofString "law") (Str.ofString "law") (defArgs s25) (defBody s25) (defScope s25) .none kV25 dc25 pm25 an25 (.ref ca25) ct25 | 26 => PySem.W.fnOf (Str.ofString "values_read") (Str.ofString "values_read") (defArgs s26) (defBody s26) (defScope s26) .none kV26 dc26 pm26 an26 cd26 ct26 | 27 => PySem.W.fnOf (Str.ofString "stand_read") (Str.ofString "stand_read") (defArgs s27) (defBody s27) (defScope s27) .none kV27 dc27 pm27 an27 cd27 ct27 | 28 => PySem.W.fnOf (Str.ofString "_law_said") (Str.ofString "_law_said") (defArgs s28) (defBody s28) (defScope s28) .none kV28 dc28 pm28 an28 cd28 ct28 | 29 => PySem.W.fnOf (Str.ofString "__init__") (Str.ofString "NoText.__init__") (defArgs s29) (defBody s29) (defScope s29) .none kV29 dc29 pm29 an29 cd29 ct29 | _ => PySem.W.fnOf (Str.ofString "is_word") (Str.ofString "is_word") (defArgs s0) (defBody s0) (defScope s0) .none kV0 dc0 pm0 an0 cd0 ct0)
 let xc : Nat → Addr := (fun i => match i with | 0 => X0 | 1 => X1 | 2 => X2 | 3 => X3 | 4 => X4 | 5 => X5 | 6 => X6 | 7 => X7 | _ => X0)
 let cc : Nat → Addr := (fun i => match i with | 25 => ca25 | _ => ca25)
 let pt : Nat → Addr := (fun i => match i with | 25 => pa25 | _ => pa25)
 have sb7 : SubT K mg suS stS (Str.ofString "NoText") X7 := by
  refine ⟨fun y b h f hf => ?_, fun T b h => ?_⟩
  ·unfold suS at h
   by_cases z0 : (Str.ofString "NoText") = (Str.ofString "NoText") ∧ y = (Str.ofString "TaleError")
   ·rw [if_pos z0] at h
    cases h
    obtain ⟨_, rfl⟩ := z0
    cases gX0.symm.trans hf
    exact kitOne_ref nx7_0 yc0 yt0 xo7_0
   rw [if_neg z0] at h
   by_cases z1 : (Str.ofString "NoText") = (Str.ofString "NoText") ∧ y = (Str.ofString "LackError")
   ·rw [if_pos z1] at h
    cases h
    obtain ⟨_, rfl⟩ := z1
    cases gX1.symm.trans hf
    exact kitOne_ref nx7_1 yc1 yt1 xo7_1
   rw [if_neg z1] at h
   by_cases z2 : (Str.ofString "NoText") = (Str.ofString "NoText") ∧ y = (Str.ofString "NoPaper")
   ·rw [if_pos z2] at h
    cases h
    obtain ⟨_, rfl⟩ := z2
    cases gX2.symm.trans hf
    exact kitOne_ref nx7_2 yc2 yt2 xo7_2
   rw [if_neg z2] at h
   by_cases z3 : (Str.ofString "NoText") = (Str.ofString "NoText") ∧ y = (Str.ofString "NoStory")
   ·rw [if_pos z3] at h
    cases h
    obtain ⟨_, rfl⟩ := z3
    cases gX3.symm.trans hf
    exact kitOne_ref nx7_3 yc3 yt3 xo7_3
   rw [if_neg z3] at h
   by_cases z4 : (Str.ofString "NoText") = (Str.ofString "NoText") ∧ y = (Str.ofString "NoChoice")
   ·rw [if_pos z4] at h
    cases h
    obtain ⟨_, rfl⟩ := z4
    cases gX4.symm.trans hf
    exact kitOne_ref nx7_4 yc4 yt4 xo7_4
   rw [if_neg z4] at h
   by_cases z5 : (Str.ofString "NoText") = (Str.ofString "NoText") ∧ y = (Str.ofString "NoRow")
   ·rw [if_pos z5] at h
    cases h
    obtain ⟨_, rfl⟩ := z5
    cases gX5.symm.trans hf
    exact kitOne_ref nx7_5 yc5 yt5 xo7_5
   rw [if_neg z5] at h
   by_cases z6 : (Str.ofString "NoText") = (Str.ofString "NoText") ∧ y = (Str.ofString "NoMore")
   ·rw [if_pos z6] at h
    cases h
    obtain ⟨_, rfl⟩ := z6
    cases gX6.symm.trans hf
    exact kitOne_ref nx7_6 yc6 yt6 xo7_6
   rw [if_neg z6] at h
   by_cases z7 : (Str.ofString "NoText") = (Str.ofString "NoText") ∧ y = (Str.ofString "NoText")
   ·rw [if_pos z7] at h
    cases h
    obtain ⟨_, rfl⟩ := z7
    cases gX7.symm.trans hf
    exact kitOne_same
   rw [if_neg z7] at h
   cases h
  ·unfold stS at h
   by_cases z8 : (Str.ofString "NoText") = (Str.ofString "NoText") ∧ T = "ValueError"
   ·rw [if_pos z8] at h
    cases h
    obtain ⟨_, rfl⟩ := z8
    exact kitOne_ty (by first | rfl | kernel_rfl | decide +kernel) xu7_ValueError
   rw [if_neg z8] at h
   cases h
 have nf7 : ∀ x ∈ flS, PySem.W.findIn K (.ref X7) x = some none := by
  intro x hx
  simp only [flS, List.mem_cons, List.not_mem_nil, or_false] at hx
  rcases hx with rfl | rfl | rfl | rfl | rfl | rfl
  ·exact xn7_at
  ·exact xn7_word
  ·exact xn7_why
  ·exact xn7_choice
  ·exact xn7_k
  ·exact xn7_line
 have T : Txt w K mg ff fd xc cc := { d := ?_, b_ValueError := PySem.W.mg_none_of X G z_ValueError, b_all := PySem.W.mg_none_of X G z_all, b_int := PySem.W.mg_none_of X G z_int, b_isinstance := PySem.W.mg_none_of X G z_isinstance, b_len := PySem.W.mg_none_of X G z_len, b_list := PySem.W.mg_none_of X G z_list, b_range := PySem.W.mg_none_of X G z_range, b_repr := PySem.W.mg_none_of X G z_repr, b_str := PySem.W.mg_none_of X G z_str, b_tuple := PySem.W.mg_none_of X G z_tuple, dx26 := ⟨F26, PySem.W.mg_of X G a26, fun _ => b26⟩, dx27 := ⟨F27, PySem.W.mg_of X G a27, fun _ => b27⟩, dx28 := ⟨F28, PySem.W.mg_of X G a28, fun _ => b28⟩, xg_TaleError := gX0, xg_LackError := gX1, xg_NoPaper := gX2, xg_NoStory := gX3, xg_NoChoice := gX4, xg_NoRow := gX5, xg_NoMore := gX6, xg_NoText := gX7, x2_NoText := ⟨gX7, ⟨⟨_, _, _, _, _, _, _, _, _, _, _, _, _, _, _, xl7, xr7⟩, xs7, xe7, xt7, xk7⟩, a29, ti29, xn7_line, xn7_word⟩, xi_NoText := ⟨F29, b29⟩, xk_NoText := ⟨gX7, ⟨xga7, xgg7, xe7, xhd7⟩, ⟨xga7, xgg7, xe7, xhd7, xha7, xhn7, xht7, xhm7⟩, sb7, nf7, exmOne_ref yb yc0 yt0 xo7_0⟩, c_FIGURES := ⟨_, PySem.W.mg_of X G cv_FIGURES, by first | rfl | exact ⟨_, rfl⟩⟩, c_DEEP := ⟨_, PySem.W.mg_of X G cv_DEEP, by first | rfl | exact ⟨_, rfl⟩⟩, fl25 := ⟨_, _, _, _, _, _, _, _, rfl, l25, c25⟩ }
 ·let tt : Tbl := ⟨[(pa25, (envOfC (Str.ofString "law") (defScope s25) 0 0 .none).qual ++ ("<lambda>" : Str))]⟩
  refine ⟨tt, [((Str.ofString "law"), ca25, pa25)], fd 25, ?_, ?_, b25, fun base _ _ hT => ?_⟩
  ·intro p hp
   change p ∈ [(pa25, (envOfC (Str.ofString "law") (defScope s25) 0 0 .none).qual ++ ("<lambda>" : Str))] at hp
   simp only [List.mem_cons, List.not_mem_nil, or_false] at hp
   rcases hp with rfl
   ·exact ⟨((Str.ofString "law"), ca25, pa25), by simp, rfl⟩
  ·intro p hp
   simp only [List.mem_cons, List.not_mem_nil, or_false] at hp
   rcases hp with rfl
   ·exact ⟨tabIn_of a25 l25 rfl cl25 vt25, rf25, tn25⟩
  ·have V : @Lams tt base mg cc pt := by
    refine ⟨hT ((Str.ofString "law"), ca25, pa25) (by simp), by simp [tt, Tbl.T, pt], ?_⟩
    ·intro p hp e
     change p ∈ [(pa25, (envOfC (Str.ofString "law") (defScope s25) 0 0 .none).qual ++ ("<lambda>" : Str))] at hp
     simp only [List.mem_cons, List.not_mem_nil, or_false] at hp
     rcases hp with rfl
     ·rfl
   exact (@all_ok l.prog w K mg base ff fd xc cc pt tt T V 30).1 25 (by decide)
 ·intro i hi
  match i, hi with
  | 0, _ => exact ⟨F0, PySem.W.mg_of X G a0, fun _ => b0⟩
  | 1, _ => exact ⟨F1, PySem.W.mg_of X G a1, fun _ => b1⟩
  | 2, _ => exact ⟨F2, PySem.W.mg_of X G a2, fun _ => b2⟩
  | 3, _ => exact ⟨F3, PySem.W.mg_of X G a3, fun _ => b3⟩
  | 4, _ => exact ⟨F4, PySem.W.mg_of X G a4, fun _ => b4⟩
  | 5, _ => exact ⟨F5, PySem.W.mg_of X G a5, fun _ => b5⟩
  | 6, _ => exact ⟨F6, PySem.W.mg_of X G a6, fun _ => b6⟩
  | 7, _ => exact ⟨F7, PySem.W.mg_of X G a7, fun _ => b7⟩
  | 8, _ => exact ⟨F8, PySem.W.mg_of X G a8, fun _ => b8⟩
  | 9, _ => exact ⟨F9, PySem.W.mg_of X G a9, fun _ => b9⟩
  | 10, _ => exact ⟨F10, PySem.W.mg_of X G a10, fun _ => b10⟩
  | 11, _ => exact ⟨F11, PySem.W.mg_of X G a11, fun _ => b11⟩
  | 12, _ => exact ⟨F12, PySem.W.mg_of X G a12, fun _ => b12⟩
  | 13, _ => exact ⟨F13, PySem.W.mg_of X G a13, fun _ => b13⟩
  | 14, _ => exact ⟨F14, PySem.W.mg_of X G a14, fun _ => b14⟩
  | 15, _ => exact ⟨F15, PySem.W.mg_of X G a15, fun _ => b15⟩
  | 16, _ => exact ⟨F16, PySem.W.mg_of X G a16, fun _ => b16⟩
  | 17, _ => exact ⟨F17, PySem.W.mg_of X G a17, fun _ => b17⟩
  | 18, _ => exact ⟨F18, PySem.W.mg_of X G a18, fun _ => b18⟩
  | 19, _ => exact ⟨F19, PySem.W.mg_of X G a19, fun _ => b19⟩
  | 20, _ => exact ⟨F20, PySem.W.mg_of X G a20, fun _ => b20⟩
  | 21, _ => exact ⟨F21, PySem.W.mg_of X G a21, fun _ => b21⟩
  | 22, _ => exact ⟨F22, PySem.W.mg_of X G a22, fun _ => b22⟩
  | 23, _ => exact ⟨F23, PySem.W.mg_of X G a23, fun _ => b23⟩
  | 24, _ => exact ⟨F24, PySem.W.mg_of X G a24, fun _ => b24⟩
  | 25, _ => exact ⟨F25, PySem.W.mg_of X G a25, fun _ => b25⟩
  | n + 26, h => exact absurd h (by omega)
end
end K33
open PySem PySem.W PyProof.Rows
set_option maxHeartbeats 0 in
theorem PySem.Challenge.cw_forktales_k33_stand_texts_told_and_refus_holds : PySem.Challenge.rw_forktales_k33_stand_texts_told_and_refus.Holds := by
 w_on; o_law; k_head; (case hw => w_witness2)
 k_fill
 refine PL.law_endT (l := PySem.Challenge.rw_forktales_k33_stand_texts_told_and_refus) (n := 63) (k := 3 * 30) (x := (Str.ofString "_law_script")) (m := K33.lv 30 25) rfl (by decide) rfl ⟨rfl, by decide, by decide⟩ (fun w h Y => by first | exact PySem.W.km_in_of Y | exact PySem.W.kIn_of Y) ?F K33.hm
 case F =>
  intro w mg fa h Y KX G hmg
  refine' K33.fin_mk KX G hmg ?aX0 ?aX1 ?aX2 ?aX3 ?aX4 ?aX5 ?aX6 ?aX7 ?a0 ?l0 ?c0 ?k0 ?a1 ?l1 ?c1 ?k1 ?a2 ?l2 ?c2 ?k2 ?a3 ?l3 ?c3 ?k3 ?a4 ?l4 ?c4 ?k4 ?a5 ?l5 ?c5 ?k5 ?a6 ?l6 ?c6 ?k6 ?a7 ?l7 ?c7 ?k7 ?a8 ?l8 ?c8 ?k8 ?a9 ?l9 ?c9 ?k9 ?a10 ?l10 ?c10 ?k10 ?a11 ?l11 ?c11 ?k11 ?a12 ?l12 ?c12 ?k12 ?a13 ?l13 ?c13 ?k13 ?a14 ?l14 ?c14 ?k14 ?a15 ?l15 ?c15 ?k15 ?a16 ?l16 ?c16 ?k16 ?a17 ?l17 ?c17 ?k17 ?a18 ?l18 ?c18 ?k18 ?a19 ?l19 ?c19 ?k19 ?a20 ?l20 ?c20 ?k20 ?a21 ?l21 ?c21 ?k21 ?a22 ?l22 ?c22 ?k22 ?a23 ?l23 ?c23 ?k23 ?a24 ?l24 ?c24 ?k24 ?a25 ?l25 ?c25 ?k25 ?cl25 ?vt25 ?tn25 ?rf25 ?a26 ?l26 ?c26 ?k26 ?a27 ?l27 ?c27 ?k27 ?a28 ?l28 ?c28 ?k28 ?a29 ?ti29 ?l29 ?c29 ?k29 ?xl7 ?xr7 ?xs7 ?xe7 ?xt7 ?xk7 ?xn7_at ?xn7_choice ?xn7_k ?xn7_line ?xn7_why ?xn7_word ?xga7 ?xgg7 ?xhd7 ?xha7 ?xhn7 ?xht7 ?xhm7 ?xo7_0 ?nx7_0 ?xo7_1 ?nx7_1 ?xo7_2 ?nx7_2 ?xo7_3 ?nx7_3 ?xo7_4 ?nx7_4 ?xo7_5 ?nx7_5 ?xo7_6 ?nx7_6 ?xu7_ValueError ?yc0 ?yt0 ?yc1 ?yt1 ?yc2 ?yt2 ?yc3 ?yt3 ?yc4 ?yt4 ?yc5 ?yt5 ?yc6 ?yt6 ?yc7 ?yt7 ?yb ?z_ValueError ?z_all ?z_int ?z_isinstance ?z_len ?z_list ?z_range ?z_repr ?z_str ?z_tuple ?cv_FIGURES ?cv_DEEP
  (case aX0 => k_is); (case aX1 => k_is); (case aX2 => k_is); (case aX3 => k_is); (case aX4 => k_is); (case aX5 => k_is); (case aX6 => k_is); (case aX7 => k_is); (case a0 => k_is); (case l0 => k_is); (case c0 => k_is); (case k0 => k_is); (case a1 => k_is); (case l1 => k_is); (case c1 => k_is); (case k1 => k_is); (case a2 => k_is); (case l2 => k_is); (case c2 => k_is); (case k2 => k_is); (case a3 => k_is); (case l3 => k_is); (case c3 => k_is); (case k3 => k_is); (case a4 => k_is); (case l4 => k_is); (case c4 => k_is); (case k4 => k_is); (case a5 => k_is); (case l5 => k_is); (case c5 => k_is); (case k5 => k_is); (case a6 => k_is); (case l6 => k_is); (case c6 => k_is); (case k6 => k_is); (case a7 => k_is); (case l7 => k_is); (case c7 => k_is); (case k7 => k_is); (case a8 => k_is); (case l8 => k_is); (case c8 => k_is); (case k8 => k_is); (case a9 => k_is); (case l9 => k_is); (case c9 => k_is); (case k9 => k_is); (case a10 => k_is); (case l10 => k_is); (case c10 => k_is); (case k10 => k_is); (case a11 => k_is); (case l11 => k_is); (case c11 => k_is); (case k11 => k_is); (case a12 => k_is); (case l12 => k_is); (case c12 => k_is); (case k12 => k_is); (case a13 => k_is); (case l13 => k_is); (case c13 => k_is); (case k13 => k_is); (case a14 => k_is); (case l14 => k_is); (case c14 => k_is); (case k14 => k_is); (case a15 => k_is); (case l15 => k_is); (case c15 => k_is); (case k15 => k_is); (case a16 => k_is); (case l16 => k_is); (case c16 => k_is); (case k16 => k_is); (case a17 => k_is); (case l17 => k_is); (case c17 => k_is); (case k17 => k_is); (case a18 => k_is); (case l18 => k_is); (case c18 => k_is); (case k18 => k_is); (case a19 => k_is); (case l19 => k_is); (case c19 => k_is); (case k19 => k_is); (case a20 => k_is); (case l20 => k_is); (case c20 => k_is); (case k20 => k_is); (case a21 => k_is); (case l21 => k_is); (case c21 => k_is); (case k21 => k_is); (case a22 => k_is); (case l22 => k_is); (case c22 => k_is); (case k22 => k_is); (case a23 => k_is); (case l23 => k_is); (case c23 => k_is); (case k23 => k_is); (case a24 => k_is); (case l24 => k_is); (case c24 => k_is); (case k24 => k_is); (case a25 => k_is); (case l25 => k_is); (case c25 => k_is); (case k25 => k_is); (case cl25 => k_is); (case vt25 => first | rfl | with_unfolding_all rfl); (case tn25 => first | kernel_rfl | rfl); (case rf25 => decide +kernel); (case a26 => k_is); (case l26 => k_is); (case c26 => k_is); (case k26 => k_is); (case a27 => k_is); (case l27 => k_is); (case c27 => k_is); (case k27 => k_is); (case a28 => k_is); (case l28 => k_is); (case c28 => k_is); (case k28 => k_is); (case a29 => k_is); (case ti29 => k_is); (case l29 => k_is); (case c29 => k_is); (case k29 => k_is); (case xl7 => k_is); (case xr7 => first | rfl | decide); (case xs7 => k_is); (case xe7 => k_is); (case xt7 => k_is); (case xk7 => k_is); (case xn7_at => k_is); (case xn7_choice => k_is); (case xn7_k => k_is); (case xn7_line => k_is); (case xn7_why => k_is); (case xn7_word => k_is); (case xga7 => k_is); (case xgg7 => k_is); (case xhd7 => k_is); (case xha7 => k_is); (case xhn7 => k_is); (case xht7 => k_is); (case xhm7 => k_is); (case xo7_0 => k_is); (case nx7_0 => decide); (case xo7_1 => k_is); (case nx7_1 => decide); (case xo7_2 => k_is); (case nx7_2 => decide); (case xo7_3 => k_is); (case nx7_3 => decide); (case xo7_4 => k_is); (case nx7_4 => decide); (case xo7_5 => k_is); (case nx7_5 => decide); (case xo7_6 => k_is); (case nx7_6 => decide); (case xu7_ValueError => k_is); (case yc0 => k_is); (case yt0 => k_is); (case yc1 => k_is); (case yt1 => k_is); (case yc2 => k_is); (case yt2 => k_is); (case yc3 => k_is); (case yt3 => k_is); (case yc4 => k_is); (case yt4 => k_is); (case yc5 => k_is); (case yt5 => k_is); (case yc6 => k_is); (case yt6 => k_is); (case yc7 => k_is); (case yt7 => k_is); (case yb => k_is); (case z_ValueError => k_is); (case z_all => k_is); (case z_int => k_is); (case z_isinstance => k_is); (case z_len => k_is); (case z_list => k_is); (case z_range => k_is); (case z_repr => k_is); (case z_str => k_is); (case z_tuple => k_is); (case cv_FIGURES => k_is); (case cv_DEEP => k_is)
end
