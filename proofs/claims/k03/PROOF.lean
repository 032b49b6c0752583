import PyProof.Rows.All
import Wide.All
import OpenK.AllK
import Wide.FinOn
import HandS.ForMost
import HandS.Lambda
import HandS.TupAny
import HandS.Deep
import HandS.Wide
import HandS.Flow
import HandS.Style
import KE.GoesZip
import KE.GoesEnum
import KE.GoesEnumKw
import HandS.Rev
import HandS.IsInst
import HandS.SetKeys
import PyProof.StrOps2
import HandS.Small
import HandS.More
import HandS.Text
import HandS.RaiseMore
import KE.DataMinMax
import HandS.StrMore
import PyProof.ReprRoads
import HandS.Ends
import HandS.Strs
import HandS.Dict
import PyProof.Rows.CallKw2
import KE.SortKeyHeap
import HandS.EndTab
import HandS.TupLe
import KE.KDictPairs
import HandS.Nested
import HandS.ExcValue
import KE.KDictZip
import PyProof.CollectWalk
import PyProof.TupleOfGen
import HandS.DictComp
import KE.KEqDict
import PySem.Challenge.RW_sealedkinds_k03_sealed_kinds_opened
set_option Elab.async false
set_option linter.all false
set_option maxRecDepth 100000
namespace Mi
open PySem L2

inductive T where
  | non
  | bl (b : Bool)
  | int (i : Int)
  | str (x : Str)
  | ty (n : String)
  | ref (a : Addr)
  | tup (ts : List T)
  /-- a tuple of which nothing but its items is known (an item of enumerate, zip; a dict's key) -/
  | pr (ts : List T)
  /-- a list that never changes: the script, a module's constant -/
  | cl (ts : List T)

/-- the text of a lambda that captures one name -/
structure LamT where
  qual : Str
  params : Arguments
  body : PySem.Expr
  scope : Scope
  /-- its parameters -/
  ps : List Str
  /-- what it captures -/
  fv : Str
def LamO (f : Addr) (L : LamT) (c c' : Addr) : HO := .ext fun h => ∃ pm ctv : Value, h.get? f = some (PySem.W.kla_obj "<lambda>" L.qual L.params L.body L.scope [(L.fv, c)] pm c' ctv)

inductive C where
  | lst (ts : List T)
  | dK (kvs : List (Key × T))
  | dT (kvs : List (List Key × T))
  /-- the table of the code objects that a def makes, all of them called q -/
  | tab (q : Str)
  /-- a dict that is walked: read alone -/
  | lk (kvs : List (Key × T))
  /-- an instance of the class at C -/
  | ins (C : Addr) (fs : List (Str × T))
  /-- a function made of a lambda, and what its captured name stands for while it may be called -/
  | fnc (L : LamT) (w : T)
  /-- the same, while its cell at c belongs to a running frame -/
  | fnp (L : LamT) (c : Addr)

abbrev Gp := Addr → Option C
abbrev Env := List (Option T)
def put (G : Gp) (a : Addr) (c : C) : Gp := fun b => if b = a then some c else G b
theorem put_same {G : Gp} {a : Addr} {c : C} : put G a c a = some c := by unfold put; rw [if_pos rfl]
theorem put_ne {G : Gp} {a b : Addr} {c : C} (h : b ≠ a) : put G a c b = G b := by unfold put; rw [if_neg h]
theorem put_put {G : Gp} {a : Addr} {c d : C} : put (put G a c) a d = put G a d := by
  funext b; unfold put; split <;> rfl
def Sub (G1 G : Gp) : Prop := ∀ a c, G1 a = some c → G a = some c
def SubE (r1 r : Env) : Prop := r1.length = r.length ∧ ∀ (i : Nat) t, r1[i]? = some (some t) → r[i]? = some (some t)
theorem Sub.refl (G : Gp) : Sub G G := fun _ _ h => h
theorem Sub.trans {A B D : Gp} (h : Sub A B) (k : Sub B D) : Sub A D := fun a c e => k a c (h a c e)
theorem SubE.refl (r : Env) : SubE r r := ⟨rfl, fun _ _ h => h⟩

/-! ### what stands for what -/
/-- a list that is read alone -/
def SqC (K : PySem.W.Frag) (H : Hp) (a : Addr) (xs : List V) : Prop :=
  (∃ o, H a = some (.frz o (.lst xs))) ∨
    ∃ (o : Obj) (its : Array Value) (n : Nat), K.lookup a = some o ∧ o.cls = .type "list" ∧ o.dict = none ∧ o.data = .seq its n ∧ its.size ≤ sizeLine ∧ Vals xs its.toList
theorem SqC.seq {K : PySem.W.Frag} {H : Hp} {a : Addr} {xs : List V} (h : SqC K H a xs) : SqL K H a xs := by
  rcases h with h | h
  · exact .inl (.inr h)
  · exact .inr h
mutual
def Rp (K : PySem.W.Frag) (H : Hp) (v : V) : T → Prop
  | .non => v = .non
  | .bl b => v = .bl b
  | .int i => v = .int i
  | .str x => v = .str x
  | .ty n => v = .ty n
  | .ref a => v = .ref a
  | .tup ts => ∃ p vs, v = .ref p ∧ (∃ o : Obj, o.dict = none ∧ H p = some (.frz o (.tup vs))) ∧ ts.length ≤ sizeLine ∧ Rps K H vs ts
  | .pr ts => ∃ p vs, v = .ref p ∧ H p = some (.tup vs) ∧ ts.length ≤ sizeLine ∧ Rps K H vs ts
  | .cl ts => ∃ p vs, v = .ref p ∧ SqC K H p vs ∧ ts.length ≤ sizeLine ∧ Rps K H vs ts
def Rps (K : PySem.W.Frag) (H : Hp) (vs : List V) : List T → Prop
  | [] => vs = []
  | t :: ts => ∃ v r, vs = v :: r ∧ Rp K H v t ∧ Rps K H r ts
end
def LeW (H H' : Hp) : Prop := (∀ b xs, H b = some (.tup xs) → H' b = some (.tup xs)) ∧ (∀ b o xs, H b = some (.frz o (.tup xs)) → H' b = some (.frz o (.tup xs))) ∧
  (∀ b o xs, H b = some (.frz o (.lst xs)) → H' b = some (.frz o (.lst xs)))
def Le (H H' : Hp) : Prop := LeW H H' ∧ ∀ b o kvs, H b = some (.frz o (.dK kvs)) → H' b = some (.frz o (.dK kvs))
theorem LeW.refl (H : Hp) : LeW H H := ⟨fun _ _ h => h, fun _ _ _ h => h, fun _ _ _ h => h⟩
theorem Le.refl (H : Hp) : Le H H := ⟨LeW.refl H, fun _ _ _ h => h⟩
theorem LeW.trans {A B D : Hp} (h : LeW A B) (k : LeW B D) : LeW A D := ⟨fun b xs e => k.1 b xs (h.1 b xs e), fun b o xs e => k.2.1 b o xs (h.2.1 b o xs e), fun b o xs e => k.2.2 b o xs (h.2.2 b o xs e)⟩
theorem Le.trans {A B D : Hp} (h : Le A B) (k : Le B D) : Le A D := ⟨h.1.trans k.1, fun b o xs e => k.2 b o xs (h.2 b o xs e)⟩
theorem LeW.sqc {K : PySem.W.Frag} {H H' : Hp} {a : Addr} {xs : List V} (e : LeW H H') (h : SqC K H a xs) : SqC K H' a xs := by
  rcases h with ⟨o, h⟩ | h
  · exact .inl ⟨o, e.2.2 _ _ _ h⟩
  · exact .inr h
theorem Le.sqc {K : PySem.W.Frag} {H H' : Hp} {a : Addr} {xs : List V} (e : Le H H') (h : SqC K H a xs) : SqC K H' a xs := e.1.sqc h
theorem Le.seq {K : PySem.W.Frag} {H H' : Hp} {a : Addr} {xs : List V} (e : Le H H') (h : SqT K H a xs) : SqT K H' a xs := by
  replace e := e.1
  rcases h with (h | ⟨o, h⟩) | h
  · exact .inl (.inl (e.1 _ _ h))
  · exact .inl (.inr ⟨o, e.2.1 _ _ _ h⟩)
  · exact .inr h
mutual
theorem Rp.leW {K : PySem.W.Frag} {H H' : Hp} (e : LeW H H') : ∀ {v : V} {t : T}, Rp K H v t → Rp K H' v t
  | v, .non, h => h
  | v, .bl _, h => h
  | v, .int _, h => h
  | v, .str _, h => h
  | v, .ty _, h => h
  | v, .ref _, h => h
  | v, .tup ts, h => by
    obtain ⟨p, vs, e1, ⟨o, ho, h1⟩, hz, h2⟩ := h
    exact ⟨p, vs, e1, ⟨o, ho, e.2.1 _ _ _ h1⟩, hz, Rps.leW e h2⟩
  | v, .pr ts, h => by
    obtain ⟨p, vs, e1, h1, hz, h2⟩ := h
    exact ⟨p, vs, e1, e.1 _ _ h1, hz, Rps.leW e h2⟩
  | v, .cl ts, h => by
    obtain ⟨p, vs, e1, h1, hz, h2⟩ := h
    exact ⟨p, vs, e1, e.sqc h1, hz, Rps.leW e h2⟩
theorem Rps.leW {K : PySem.W.Frag} {H H' : Hp} (e : LeW H H') : ∀ {vs : List V} {ts : List T}, Rps K H vs ts → Rps K H' vs ts
  | vs, [], h => h
  | vs, t :: ts, h => by
    obtain ⟨v, r, e1, h1, h2⟩ := h
    exact ⟨v, r, e1, Rp.leW e h1, Rps.leW e h2⟩
end
theorem Rp.le {K : PySem.W.Frag} {H H' : Hp} (e : Le H H') {v : V} {t : T} (h : Rp K H v t) : Rp K H' v t := Rp.leW e.1 h
theorem Rps.le {K : PySem.W.Frag} {H H' : Hp} (e : Le H H') {vs : List V} {ts : List T} (h : Rps K H vs ts) : Rps K H' vs ts := Rps.leW e.1 h
theorem Rp.tupSq {K : PySem.W.Frag} {H : Hp} {v : V} {ts : List T} (h : Rp K H v (.tup ts)) : ∃ p vs, v = .ref p ∧ SqT K H p vs ∧ ts.length ≤ sizeLine ∧ Rps K H vs ts := by
  obtain ⟨p, vs, e, ⟨o, _, h1⟩, hz, h2⟩ := h
  exact ⟨p, vs, e, .inl (.inr ⟨o, h1⟩), hz, h2⟩
theorem Rp.prSq {K : PySem.W.Frag} {H : Hp} {v : V} {ts : List T} (h : Rp K H v (.pr ts)) : ∃ p vs, v = .ref p ∧ SqT K H p vs ∧ ts.length ≤ sizeLine ∧ Rps K H vs ts := by
  obtain ⟨p, vs, e, h1, hz, h2⟩ := h
  exact ⟨p, vs, e, SqT.of h1, hz, h2⟩
section
variable {K : PySem.W.Frag} {H H' : Hp}
theorem Rps.length : ∀ {vs : List V} {ts : List T}, Rps K H vs ts → vs.length = ts.length
  | vs, [], h => by cases h; rfl
  | vs, t :: ts, h => by
    obtain ⟨v, r, e1, _, h2⟩ := h
    rw [e1, List.length_cons, List.length_cons, Rps.length h2]
theorem Rps.get : ∀ {vs : List V} {ts : List T} {i : Nat} {t : T}, Rps K H vs ts → ts[i]? = some t → ∃ v, vs[i]? = some v ∧ Rp K H v t
  | vs, [], i, t, _, e => by simp at e
  | vs, t :: ts, 0, u, h, e => by
    obtain ⟨v, r, e1, h1, h2⟩ := h
    simp at e; subst e; subst e1
    exact ⟨v, rfl, h1⟩
  | vs, t :: ts, i + 1, u, h, e => by
    obtain ⟨v, r, e1, h1, h2⟩ := h
    subst e1
    obtain ⟨w, a, b⟩ := Rps.get (i := i) h2 (by simpa using e)
    exact ⟨w, by simpa using a, b⟩
theorem Rps.append : ∀ {vs ws : List V} {ts us : List T}, Rps K H vs ts → Rps K H ws us → Rps K H (vs ++ ws) (ts ++ us)
  | vs, ws, [], us, h, k => by cases h; exact k
  | vs, ws, t :: ts, us, h, k => by
    obtain ⟨v, r, e1, h1, h2⟩ := h
    subst e1
    exact ⟨v, r ++ ws, rfl, h1, Rps.append h2 k⟩
theorem Rps.one {v : V} {t : T} (h : Rp K H v t) : Rps K H [v] [t] := ⟨v, [], rfl, h, rfl⟩
theorem Rps.two {v w : V} {t u : T} (h : Rp K H v t) (k : Rp K H w u) : Rps K H [v, w] [t, u] := ⟨v, [w], rfl, h, w, [], rfl, k, rfl⟩
theorem Rps.take : ∀ {vs : List V} {ts : List T} (n : Nat), Rps K H vs ts → Rps K H (vs.take n) (ts.take n)
  | vs, ts, 0, _ => by show _ = _; simp
  | vs, [], n + 1, h => by cases h; show _ = _; simp
  | vs, t :: ts, n + 1, h => by
    obtain ⟨v, r, e1, h1, h2⟩ := h
    subst e1
    exact ⟨v, r.take n, rfl, h1, Rps.take n h2⟩
theorem Rps.drop : ∀ {vs : List V} {ts : List T} (n : Nat), Rps K H vs ts → Rps K H (vs.drop n) (ts.drop n)
  | vs, ts, 0, h => h
  | vs, [], n + 1, h => by cases h; show _ = _; simp
  | vs, t :: ts, n + 1, h => by
    obtain ⟨v, r, e1, h1, h2⟩ := h
    subst e1
    exact Rps.drop n h2
theorem Rps.reverse : ∀ {vs : List V} {ts : List T}, Rps K H vs ts → Rps K H vs.reverse ts.reverse
  | vs, [], h => by cases h; show _ = _; simp
  | vs, t :: ts, h => by
    obtain ⟨v, r, e1, h1, h2⟩ := h
    subst e1
    rw [List.reverse_cons, List.reverse_cons]
    exact Rps.append (Rps.reverse h2) (Rps.one h1)
theorem Rps.set : ∀ {vs : List V} {ts : List T} {v : V} {t : T} (n : Nat), Rps K H vs ts → Rp K H v t → Rps K H (vs.set n v) (ts.set n t)
  | vs, [], v, t, n, h, k => by cases h; show _ = _; simp
  | vs, t :: ts, v, u, 0, h, k => by
    obtain ⟨w, r, e1, h1, h2⟩ := h
    subst e1
    exact ⟨v, r, rfl, k, h2⟩
  | vs, t :: ts, v, u, n + 1, h, k => by
    obtain ⟨w, r, e1, h1, h2⟩ := h
    subst e1
    exact ⟨w, r.set n v, rfl, h1, Rps.set n h2 k⟩
theorem Rps.nil_iff {vs : List V} {ts : List T} (h : Rps K H vs ts) : vs = [] ↔ ts = [] := by
  have e := h.length
  constructor
  · rintro rfl; cases ts with
    | nil => rfl
    | cons _ _ => simp at e
  · rintro rfl; cases vs with
    | nil => rfl
    | cons _ _ => simp at e

/-- the pairs of a dict -/
def Rkv {κ : Type} (K : PySem.W.Frag) (H : Hp) (vs : List (κ × V)) (ts : List (κ × T)) : Prop := vs.map (·.1) = ts.map (·.1) ∧ Rps K H (vs.map (·.2)) (ts.map (·.2))
theorem Rkv.le {κ : Type} {vs : List (κ × V)} {ts : List (κ × T)} (e : Le H H') (h : Rkv K H vs ts) : Rkv K H' vs ts := ⟨h.1, h.2.le e⟩

def RCell (K : PySem.W.Frag) (H : Hp) (a : Addr) : C → Prop
  | .lst ts => ∃ vs, H a = some (.lst vs) ∧ Rps K H vs ts
  | .dK kvs => ∃ vs, H a = some (.dK vs) ∧ Rkv K H vs kvs
  | .dT kvs => ∃ vs, H a = some (.dT vs) ∧ Rkv K H vs kvs
  | .tab q => LamX.TabS H a q
  | .lk kvs => ∃ od vs, H a = some (.frz od (.dK vs)) ∧ Rkv K H vs kvs
  | .ins C fs => ∃ dx vs, H a = some (.ins C dx vs) ∧ Rkv K H vs fs
  | .fnc L w => ∃ (c c' : Addr) (o : Obj) (u : Value) (v : V), H a = some (LamO a L c c') ∧ H c' = some (LamX.CodeO c' L.qual) ∧ H c = some (.frz o (.own a)) ∧ o.data = .cell (some u) ∧ RelV v u ∧ Rp K H v w
  | .fnp L c => ∃ c' : Addr, H a = some (LamO a L c c') ∧ H c' = some (LamX.CodeO c' L.qual)
def RG (K : PySem.W.Frag) (H : Hp) (G : Gp) : Prop := ∀ a c, G a = some c → RCell K H a c
/-- not a tuple: what may change -/
def NoTup : Option HO → Prop
  | some (.tup _) => False
  | some (.frz _ _) => False
  | some (.ext _) => False
  | _ => True
theorem Le.wr {a : Addr} {o : HO} (h : NoTup (H a)) : Le H (upd H a o) := by
  refine ⟨⟨fun b xs e => ?_, fun b u xs e => ?_, fun b u xs e => ?_⟩, fun b u xs e => ?_⟩
  rotate_right
  · rw [upd_ne]; exact e
    rintro rfl; rw [e] at h; exact h
  rotate_left
  · rw [upd_ne]; exact e
    rintro rfl; rw [e] at h; exact h
  · rw [upd_ne]; exact e
    rintro rfl; rw [e] at h; exact h
  · rw [upd_ne]; exact e
    rintro rfl; rw [e] at h; exact h
theorem Le.new {a : Addr} {o : HO} (h : H a = none) : Le H (upd H a o) := Le.wr (by rw [h]; trivial)
theorem seqL_upd {a b : Addr} {o : HO} {xs : List V} (h : SqL K H b xs) (hn : b ≠ a) : SqL K (upd H a o) b xs := by
  rcases h with (h | ⟨u, h⟩) | h
  · exact .inl (.inl (by rw [upd_ne hn]; exact h))
  · exact .inl (.inr ⟨u, by rw [upd_ne hn]; exact h⟩)
  · exact .inr h
theorem RCell.wr {a b : Addr} {o : HO} {c : C} (hn : NoTup (H a)) (ne : b ≠ a) (h : RCell K H b c) : RCell K (upd H a o) b c := by
  have l : Le H (upd H a o) := Le.wr hn
  cases c with
  | lst ts => obtain ⟨vs, e, r⟩ := h; exact ⟨vs, by rw [upd_ne ne]; exact e, r.le l⟩
  | dK kvs => obtain ⟨vs, e, r⟩ := h; exact ⟨vs, by rw [upd_ne ne]; exact e, r.le l⟩
  | dT kvs => obtain ⟨vs, e, r⟩ := h; exact ⟨vs, by rw [upd_ne ne]; exact e, r.le l⟩
  | tab q =>
    obtain ⟨ps, h1, h2, h3⟩ := h
    refine ⟨ps, by rw [upd_ne ne]; exact h1, h2, fun pos cv hc => ?_⟩
    obtain ⟨c, e1, e2⟩ := h3 pos cv hc
    exact ⟨c, e1, by rw [upd_ne (fun z => by rw [← z, e2] at hn; exact hn)]; exact e2⟩
  | lk kvs => obtain ⟨od, vs, e, r⟩ := h; exact ⟨od, vs, by rw [upd_ne ne]; exact e, r.le l⟩
  | ins C fs => obtain ⟨dx, vs, e, r⟩ := h; exact ⟨dx, vs, by rw [upd_ne ne]; exact e, r.le l⟩
  | fnc L w =>
    obtain ⟨c, c', o', u, v, h1, h2, h3, h4, h5, h6⟩ := h
    exact ⟨c, c', o', u, v, by rw [upd_ne ne]; exact h1, by rw [upd_ne (fun z => by rw [← z, h2] at hn; exact hn)]; exact h2, by rw [upd_ne (fun z => by rw [← z, h3] at hn; exact hn)]; exact h3, h4, h5, h6.le l⟩
  | fnp L c =>
    obtain ⟨c', h1, h2⟩ := h
    exact ⟨c', by rw [upd_ne ne]; exact h1, by rw [upd_ne (fun z => by rw [← z, h2] at hn; exact hn)]; exact h2⟩
/-- a cell of the mini heap is written -/
theorem RG.wr {G : Gp} {a : Addr} {o : HO} {c : C} (g : RG K H G) (hn : NoTup (H a)) (new : RCell K (upd H a o) a c) : RG K (upd H a o) (put G a c) := fun b d e => by
  by_cases hb : b = a
  · subst hb; rw [put_same] at e; cases e; exact new
  · rw [put_ne hb] at e; exact (g b d e).wr hn hb
/-- what isn't in the mini heap is written -/
theorem RG.out {G : Gp} {a : Addr} {o : HO} (g : RG K H G) (hn : NoTup (H a)) (h : G a = none) : RG K (upd H a o) G := fun b d e => by
  have hb : b ≠ a := by rintro rfl; rw [h] at e; cases e
  exact (g b d e).wr hn hb
def C.isLk : C → Bool
  | .lk _ => true
  | .fnc _ _ => true
  | .fnp _ _ => true
  | _ => false
theorem RCell.there {a : Addr} {c : C} (h : RCell K H a c) : ∃ o, H a = some o ∧ (c.isLk = false → NoTup (some o)) := by
  cases c with
  | lst ts => obtain ⟨vs, e, r⟩ := h; exact ⟨_, e, fun _ => trivial⟩
  | dK kvs => obtain ⟨vs, e, r⟩ := h; exact ⟨_, e, fun _ => trivial⟩
  | dT kvs => obtain ⟨vs, e, r⟩ := h; exact ⟨_, e, fun _ => trivial⟩
  | tab q => obtain ⟨ps, h1, _⟩ := h; exact ⟨_, h1, fun _ => trivial⟩
  | lk kvs => obtain ⟨od, vs, e, r⟩ := h; exact ⟨_, e, fun z => nomatch z⟩
  | ins C fs => obtain ⟨dx, vs, e, r⟩ := h; exact ⟨_, e, fun _ => trivial⟩
  | fnc L w => obtain ⟨c, c', o, u, v, e, _⟩ := h; exact ⟨_, e, fun z => nomatch z⟩
  | fnp L c => obtain ⟨c', e, _⟩ := h; exact ⟨_, e, fun z => nomatch z⟩
theorem RG.fresh {G : Gp} {p : Addr} (g : RG K H G) (h : H p = none) : G p = none := by
  cases e : G p with
  | none => rfl
  | some c =>
    obtain ⟨o, z, _⟩ := (g p c e).there
    rw [h] at z; cases z
theorem RG.notup {G : Gp} {p : Addr} {c : C} (g : RG K H G) (h : G p = some c) (hc : c.isLk = false := by rfl) : NoTup (H p) := by
  obtain ⟨o, z, n⟩ := (g p c h).there
  rw [z]; exact n hc
theorem RG.sub {G G1 : Gp} (g : RG K H G) (s : Sub G1 G) : RG K H G1 := fun a c e => g a c (s a c e)
def RS (K : PySem.W.Frag) (H : Hp) (σ : St) (r : Env) : Prop := r.length = σ.length ∧ ∀ (i : Nat) (t : T), r[i]? = some (some t) → ∃ v, σ[i]? = some (some v) ∧ Rp K H v t
theorem RS.le {σ : St} {r : Env} (e : Le H H') (h : RS K H σ r) : RS K H' σ r := ⟨h.1, fun i t q => by
  obtain ⟨v, a, b⟩ := h.2 i t q
  exact ⟨v, a, b.le e⟩⟩
theorem RS.set {σ : St} {r : Env} {v : V} {t : T} (i : Nat) (h : RS K H σ r) (k : Rp K H v t) : RS K H (σ.set i (some v)) (r.set i (some t)) := by
  refine ⟨by simpa using h.1, fun j u q => ?_⟩
  by_cases e : i = j
  · subst e
    have hi : i < r.length := by
      have := (List.getElem?_eq_some_iff.mp q).1
      simpa using this
    rw [List.getElem?_set_self hi] at q
    cases q
    exact ⟨v, List.getElem?_set_self (by rw [← h.1]; exact hi), k⟩
  · rw [List.getElem?_set_ne e] at q
    obtain ⟨w, a, b⟩ := h.2 j u q
    exact ⟨w, by rw [List.getElem?_set_ne e]; exact a, b⟩
theorem RS.sub {σ : St} {r r1 : Env} (h : RS K H σ r) (s : SubE r1 r) : RS K H σ r1 := ⟨s.1.trans h.1, fun i t q => h.2 i t (s.2 i t q)⟩
end

/-! ### readings over the mini heap -/
abbrev KT := T → Gp → Prop
abbrev ME := Env → Gp → KT → Prop
abbrev MA := Env → Gp → (List T → Gp → Prop) → Prop
abbrev MT := Env → Gp → (Bool → Gp → Prop) → Prop
structure MEnds where
  nx : Env → Gp → Prop
  rt : KT
  bk : Env → Gp → Prop := fun _ _ => False
  ct : Env → Gp → Prop := fun _ _ => False
abbrev MS := MEnds → Env → Gp → Prop

/-- what a wish over values grants of a wish over the mini heap -/
def Gives (K : PySem.W.Frag) (H : Hp) (R : KT) (Q : VK) : Prop := ∀ t G' H' v, R t G' → Le H H' → RG K H' G' → Rp K H' v t → Q v H'
def liE (K : PySem.W.Frag) (m : ME) : TE := fun σ H Q => ∃ r G R, RS K H σ r ∧ RG K H G ∧ m r G R ∧ Gives K H R Q
def GivesA (K : PySem.W.Frag) (H : Hp) (R : List T → Gp → Prop) (Q : List V → Hp → Prop) : Prop := ∀ t G' H' v, R t G' → Le H H' → RG K H' G' → Rps K H' v t → Q v H'
def liA (K : PySem.W.Frag) (m : MA) : TA := fun σ H Q => ∃ r G R, RS K H σ r ∧ RG K H G ∧ m r G R ∧ GivesA K H R Q
def GivesT (K : PySem.W.Frag) (H : Hp) (R : Bool → Gp → Prop) (Q : Bool → Hp → Prop) : Prop := ∀ b G' H', R b G' → Le H H' → RG K H' G' → Q b H'
def liT (K : PySem.W.Frag) (m : MT) : TT := fun σ H Q => ∃ r G R, RS K H σ r ∧ RG K H G ∧ m r G R ∧ GivesT K H R Q
def GivesN (K : PySem.W.Frag) (H : Hp) (N : Env → Gp → Prop) (Q : St → Hp → Prop) : Prop := ∀ r' G' σ' H', N r' G' → Le H H' → RS K H' σ' r' → RG K H' G' → Q σ' H'
def liS (K : PySem.W.Frag) (m : MS) : TS := fun D σ H => ∃ r G M, RS K H σ r ∧ RG K H G ∧ m M r G ∧ GivesN K H M.nx D.nx ∧ Gives K H M.rt D.rt ∧ GivesN K H M.bk D.bk ∧ GivesN K H M.ct D.ct
theorem Gives.le {K : PySem.W.Frag} {H H' : Hp} {R : KT} {Q : VK} (e : Le H H') (h : Gives K H R Q) : Gives K H' R Q := fun t G' H2 v a b c d => h t G' H2 v a (e.trans b) c d
theorem GivesA.le {K : PySem.W.Frag} {H H' : Hp} {R : List T → Gp → Prop} {Q : List V → Hp → Prop} (e : Le H H') (h : GivesA K H R Q) : GivesA K H' R Q := fun t G' H2 v a b c d => h t G' H2 v a (e.trans b) c d
theorem GivesT.le {K : PySem.W.Frag} {H H' : Hp} {R : Bool → Gp → Prop} {Q : Bool → Hp → Prop} (e : Le H H') (h : GivesT K H R Q) : GivesT K H' R Q := fun t G' H2 a b c => h t G' H2 a (e.trans b) c
theorem GivesN.le {K : PySem.W.Frag} {H H' : Hp} {N : Env → Gp → Prop} {Q : St → Hp → Prop} (e : Le H H') (h : GivesN K H N Q) : GivesN K H' N Q := fun r G' s H2 a b c d => h r G' s H2 a (e.trans b) c d

structure OE (X : Cx) (e : Expr) (m : ME) : Prop where
  ok : PE X e (liE X.K m)
structure OA (X : Cx) (e : List Expr) (m : MA) : Prop where
  ok : PA X e (liA X.K m)
structure OT (X : Cx) (e : Expr) (m : MT) : Prop where
  ok : PT X e (liT X.K m)
structure OW (X : Cx) (e : Expr) (m : MT) : Prop where
  ok : PW X e (liT X.K m)
structure OS (X : Cx) (st : Stmt) (m : MS) : Prop where
  ok : PS X st (liS X.K m)
structure OSs (X : Cx) (st : List Stmt) (m : MS) : Prop where
  ok : PSs X st (liS X.K m)
theorem _root_.L2.PE.imp {X : Cx} {e : Expr} {t t' : TE} (h : PE X e t) (f : ∀ σ H Q, t' σ H Q → t σ H Q) : PE X e t' := ⟨fun pins s σ H Q I q => h.run pins s σ H Q I (f σ H Q q)⟩
theorem _root_.L2.PA.imp {X : Cx} {e : List Expr} {t t' : TA} (h : PA X e t) (f : ∀ σ H Q, t' σ H Q → t σ H Q) : PA X e t' := ⟨fun pos pins s σ H Q I q => h.run pos pins s σ H Q I (f σ H Q q)⟩
theorem _root_.L2.PT.imp {X : Cx} {e : Expr} {t t' : TT} (h : PT X e t) (f : ∀ σ H Q, t' σ H Q → t σ H Q) : PT X e t' := ⟨fun pins s σ H Q I q => h.run pins s σ H Q I (f σ H Q q)⟩
theorem _root_.L2.PW.imp {X : Cx} {e : Expr} {t t' : TT} (h : PW X e t) (f : ∀ σ H Q, t' σ H Q → t σ H Q) : PW X e t' := ⟨fun w pins s σ H Q I q => h.run w pins s σ H Q I (f σ H Q q)⟩
theorem _root_.L2.PS.imp {X : Cx} {e : Stmt} {t t' : TS} (h : PS X e t) (f : ∀ D σ H, t' D σ H → t D σ H) : PS X e t' := ⟨fun pins s σ H D I q => h.run pins s σ H D I (f D σ H q)⟩
theorem _root_.L2.PSs.imp {X : Cx} {e : List Stmt} {t t' : TS} (h : PSs X e t) (f : ∀ D σ H, t' D σ H → t D σ H) : PSs X e t' := ⟨fun pins s σ H D I q => h.run pins s σ H D I (f D σ H q)⟩
theorem _root_.L2.OpR.imp {X : Cx} {f : Value → Value → Sem Value} {r r' : R2} (h : OpR X f r) (k : ∀ x y H Q, r' x y H Q → r x y H Q) : OpR X f r' := fun pins s σ H x y v u Q I a b q => h pins s σ H x y v u Q I a b (k x y H Q q)
theorem _root_.L2.IxR.imp {X : Cx} {r r' : R2} (h : IxR X r) (k : ∀ x y H Q, r' x y H Q → r x y H Q) : IxR X r' := fun a b pins s σ H x y v u Q I rx ry q => h a b pins s σ H x y v u Q I rx ry (k x y H Q q)
theorem _root_.L2.CallR.imp {X : Cx} {f : Value} {r r' : List V → Hp → VK → Prop} (h : CallR X f r) (k : ∀ xs H Q, r' xs H Q → r xs H Q) : CallR X f r' := fun pins s σ H xs us Q I a q => h pins s σ H xs us Q I a (k xs H Q q)
end Mi

set_option Elab.async false
set_option linter.all false
set_option maxRecDepth 100000
namespace Mi
open PySem L2
section
variable {X : Cx} {a b c e : Expr} {es : List Expr} {ma mb mc m : ME} {pos : Pos}

/-! ### names, constants -/
def mVar (i : Nat) : ME := fun r G R => ∃ t, r[i]? = some (some t) ∧ R t G
def mC (t : T) : ME := fun _ G R => R t G
def mNever : ME := fun _ _ _ => False
theorem o_var (i : Nat) {x : Str} {pos : Pos} (h : PE X (.Name x pos) (tVar i)) : OE X (.Name x pos) (mVar i) := ⟨h.imp fun σ H Q q => by
  obtain ⟨r, G, R, hs, hg, ⟨t, e, k⟩, f⟩ := q
  obtain ⟨v, a, b⟩ := hs.2 i t e
  exact ⟨v, a, f t G H v k (Le.refl H) hg b⟩⟩
def flatC : V → Option T
  | .non => some .non
  | .bl b => some (.bl b)
  | .int i => some (.int i)
  | .str x => some (.str x)
  | .ty n => some (.ty n)
  | .ref a => some (.ref a)
  | _ => none
theorem flatC_rp {K : PySem.W.Frag} {H : Hp} {v : V} {t : T} (h : flatC v = some t) : Rp K H v t := by
  cases v <;> first
    | (cases h; exact rfl)
    | cases h
theorem o_c {v : V} {t : T} (h : PE X e (tC v)) (hf : flatC v = some t := by rfl) : OE X e (mC t) := ⟨h.imp fun σ H Q q => by
  obtain ⟨r, G, R, hs, hg, k, f⟩ := q
  exact f t G H v k (Le.refl H) hg (flatC_rp hf)⟩
theorem o_never (h : PE X e (fun _ _ _ => False)) : OE X e mNever := ⟨h.imp fun σ H Q q => by
  obtain ⟨r, G, R, hs, hg, k, f⟩ := q
  exact k⟩

/-! ### operators by values -/
abbrev O2 := T → T → Gp → KT → Prop
def liO2 (K : PySem.W.Frag) (o : O2) : R2 := fun x y H Q => ∃ s t G R, Rp K H x s ∧ Rp K H y t ∧ RG K H G ∧ o s t G R ∧ Gives K H R Q
def mOp (o : O2) (ma mb : ME) : ME := fun r G R => ma r G fun s G1 => mb r G1 fun t G2 => o s t G2 R
theorem two_li {K : PySem.W.Frag} {o : O2} {ma mb : ME} {σ : St} {H : Hp} {Q : VK} (h : liE K (mOp o ma mb) σ H Q) : tOp (liO2 K o) (liE K ma) (liE K mb) σ H Q := by
  obtain ⟨r, G, R, hs, hg, k, f⟩ := h
  refine ⟨r, G, _, hs, hg, k, fun s G1 H1 x k1 l1 g1 r1 => ?_⟩
  refine ⟨r, G1, _, hs.le l1, g1, k1, fun t G2 H2 y k2 l2 g2 r2 => ?_⟩
  exact ⟨s, t, G2, R, r1.le l2, r2, g2, k2, f.le (l1.trans l2)⟩
theorem o_op {op : Operator} {o : O2} (ho : OpR X (binaryOp op) (liO2 X.K o)) (ha : OE X a ma) (hb : OE X b mb) : OE X (.BinOp a op b pos) (mOp o ma mb) :=
  ⟨(pe_op ho ha.ok hb.ok).imp fun _ _ _ q => two_li q⟩
theorem o_ix {o : O2} (ho : IxR X (liO2 X.K o)) (ha : OE X a ma) (hb : OE X b mb) (hs : PlainIx b) : OE X (.Subscript a b pos) (mOp o ma mb) :=
  ⟨(pe_ix ho ha.ok hb.ok hs).imp fun _ _ _ q => two_li q⟩
theorem o_cmp {op : CmpOp} {o : O2} (ho : OpR X (compareOp op) (liO2 X.K o)) (ha : OE X a ma) (hb : OE X b mb) (hm : behindInMarks op b = false := by first | exact nomark _ | rfl) : OE X (.Compare a [op] [b] pos) (mOp o ma mb) :=
  ⟨(pe_cmpR ho ha.ok hb.ok hm).imp fun _ _ _ q => two_li q⟩
/-- a value that is a bool, as a test -/
def mB (m : ME) : MT := fun r G R => m r G fun t G1 => ∃ k, t = .bl k ∧ R k G1
theorem test_li {K : PySem.W.Frag} {m : ME} {σ : St} {H : Hp} {Q : Bool → Hp → Prop} (h : liT K (mB m) σ H Q) : liE K m σ H (fun x H' => ∃ k, x = .bl k ∧ Q k H') := by
  obtain ⟨r, G, R, hs, hg, k, f⟩ := h
  refine ⟨r, G, _, hs, hg, k, fun t G1 H1 x k1 l1 g1 r1 => ?_⟩
  obtain ⟨c, rfl, k2⟩ := k1
  exact ⟨c, r1, f c G1 H1 k2 l1 g1⟩
theorem t_cmp {op : CmpOp} {o : O2} (ho : OpR X (compareOp op) (liO2 X.K o)) (ha : OE X a ma) (hb : OE X b mb) (hm : behindInMarks op b = false := by first | exact nomark _ | rfl) : OT X (.Compare a [op] [b] pos) (mB (mOp o ma mb)) :=
  ⟨(pt_cmpR ho ha.ok hb.ok hm).imp fun _ _ _ q => by
    obtain ⟨r, G, R, hs, hg, k, f⟩ := test_li q
    exact two_li ⟨r, G, R, hs, hg, k, f⟩⟩
theorem t_val (h : OE X e m) (he : ∀ whole, isTrue e X.env whole = (do let v ← whole; standAt e.pos; holding [v] (truthy v)) := by intro _; rfl) : OT X e (mB m) :=
  ⟨(pt_val h.ok he).imp fun _ _ _ q => by
    obtain ⟨r, G, R, hs, hg, k, f⟩ := test_li q
    exact ⟨r, G, R, hs, hg, k, f⟩⟩
/-- a value's truth -/
def truT (G : Gp) : T → Bool → Prop
  | .non, k => k = false
  | .bl b, k => k = b
  | .int i, k => k = (i != 0)
  | .str y, k => y.length ≤ sizeLine ∧ k = ((y.length : Int) != 0)
  | .tup ts, k => k = !ts.isEmpty
  | .cl ts, k => k = !ts.isEmpty
  | .ref a, k => (∃ ts, G a = some (.lst ts) ∧ k = !ts.isEmpty) ∨ ∃ kvs, G a = some (.dK kvs) ∧ k = !kvs.isEmpty
  | _, _ => False
def mTru (m : ME) : MT := fun r G R => m r G fun t G1 => ∃ k, truT G1 t k ∧ R k G1
theorem isEmpty_len {α β : Type} {xs : List α} {ys : List β} (h : xs.length = ys.length) : xs.isEmpty = ys.isEmpty := by
  cases xs <;> cases ys <;> first | rfl | (simp at h)
theorem tru_rp {K : PySem.W.Frag} {H : Hp} {G : Gp} {x : V} {t : T} {k : Bool} (hg : RG K H G) (r : Rp K H x t) (h : truT G t k) : TruV K x H k := by
  cases t with
  | non => cases r; exact h
  | bl b => cases r; exact h
  | int i => cases r; exact h
  | str y => cases r; exact h
  | ty n => exact h.elim
  | pr ts => exact h.elim
  | tup ts =>
    obtain ⟨p, vs, rfl, hq, hz, rv⟩ := r.tupSq
    exact .inr (.inl ⟨vs, hq, by rw [isEmpty_len rv.length]; exact h⟩)
  | cl ts =>
    obtain ⟨p, vs, rfl, hq, hz, rv⟩ := r
    exact .inl ⟨vs, hq.seq, by rw [isEmpty_len rv.length]; exact h⟩
  | ref p =>
    cases r
    rcases h with ⟨ts, h1, hk⟩ | ⟨kvs, h1, hk⟩
    · obtain ⟨vs, e, rv⟩ := hg _ _ h1
      exact .inl ⟨vs, SqL.of e, by rw [isEmpty_len rv.length]; exact hk⟩
    · obtain ⟨vs, e, rk, rv⟩ := hg _ _ h1
      refine .inr (.inr ⟨vs, e, ?_⟩)
      have hl := congrArg List.length rk
      simp only [List.length_map] at hl
      rw [isEmpty_len hl]
      exact hk
theorem t_tru (h : OE X e m) (he : ∀ whole, isTrue e X.env whole = (do let v ← whole; standAt e.pos; holding [v] (truthy v)) := by intro _; rfl) : OT X e (mTru m) :=
  ⟨(pt_truth h.ok he).imp fun _ H Q q => by
    obtain ⟨r, G, R, hs, hg, k, f⟩ := q
    refine ⟨r, G, _, hs, hg, k, fun t G1 H1 x k1 l1 g1 r1 => ?_⟩
    obtain ⟨c, k2, k3⟩ := k1
    exact ⟨c, tru_rp g1 r1 k2, f c G1 H1 k3 l1 g1⟩⟩

/-! ### and, or, not -/
def tmAnd (t u : MT) : MT := fun r G R => t r G fun c G1 => if c = true then u r G1 R else R false G1
def tmOr (t u : MT) : MT := fun r G R => t r G fun c G1 => if c = true then R true G1 else u r G1 R
def tmNot (t : MT) : MT := fun r G R => t r G fun c G1 => R (!c) G1
variable {tA tB : MT} {rest : List Expr}
theorem w_and1 (h : OT X a tA) : OW X (.BoolOp .And [a] pos) tA := ⟨pw_and1 h.ok⟩
theorem w_or1 (h : OT X a tA) : OW X (.BoolOp .Or [a] pos) tA := ⟨pw_or1 h.ok⟩
theorem w_and (ha : OT X a tA) (hb : OW X (.BoolOp .And (b :: rest) pos) tB) : OW X (.BoolOp .And (a :: b :: rest) pos) (tmAnd tA tB) :=
  ⟨(pw_and ha.ok hb.ok).imp fun σ H Q q => by
    obtain ⟨r, G, R, hs, hg, k, f⟩ := q
    refine ⟨r, G, _, hs, hg, k, fun c G1 H1 k1 l1 g1 => ?_⟩
    cases c with
    | true => exact iteT ⟨r, G1, R, hs.le l1, g1, by simpa using k1, f.le l1⟩
    | false => exact iteF (f false G1 H1 (by simpa using k1) l1 g1)⟩
theorem w_or (ha : OT X a tA) (hb : OW X (.BoolOp .Or (b :: rest) pos) tB) : OW X (.BoolOp .Or (a :: b :: rest) pos) (tmOr tA tB) :=
  ⟨(pw_or ha.ok hb.ok).imp fun σ H Q q => by
    obtain ⟨r, G, R, hs, hg, k, f⟩ := q
    refine ⟨r, G, _, hs, hg, k, fun c G1 H1 k1 l1 g1 => ?_⟩
    cases c with
    | true => exact iteT (f true G1 H1 (by simpa using k1) l1 g1)
    | false => exact iteF ⟨r, G1, R, hs.le l1, g1, by simpa using k1, f.le l1⟩⟩
theorem OW.t (h : OW X e tA) : OT X e tA := ⟨h.ok.pt⟩
theorem t_not (h : OT X a tA) : OT X (.UnaryOp .Not a pos) (tmNot tA) :=
  ⟨(pt_not h.ok).imp fun σ H Q q => by
    obtain ⟨r, G, R, hs, hg, k, f⟩ := q
    exact ⟨r, G, _, hs, hg, k, fun c G1 H1 k1 l1 g1 => f (!c) G1 H1 k1 l1 g1⟩⟩
def mIf (t : MT) (x y : ME) : ME := fun r G R => t r G fun c G1 => if c = true then x r G1 R else y r G1 R
theorem o_if (hc : OT X c tA) (ha : OE X a ma) (hb : OE X b mb) : OE X (.IfExp c a b pos) (mIf tA ma mb) :=
  ⟨(pe_ifExp hc.ok ha.ok hb.ok).imp fun σ H Q q => by
    obtain ⟨r, G, R, hs, hg, k, f⟩ := q
    refine ⟨r, G, _, hs, hg, k, fun c G1 H1 k1 l1 g1 => ?_⟩
    cases c with
    | true => exact iteT ⟨r, G1, R, hs.le l1, g1, by simpa using k1, f.le l1⟩
    | false => exact iteF ⟨r, G1, R, hs.le l1, g1, by simpa using k1, f.le l1⟩⟩
end
end Mi

set_option Elab.async false
set_option linter.all false
set_option maxRecDepth 100000
namespace Mi
open PySem L2
/-- a list by its value -/
def isL (G : Gp) (t : T) (ts : List T) : Prop := t = .cl ts ∨ ∃ a, t = .ref a ∧ G a = some (.lst ts)
theorem isL.seq {K : PySem.W.Frag} {H : Hp} {G : Gp} {t : T} {ts : List T} {v : V} (hg : RG K H G) (h : isL G t ts) (r : Rp K H v t) : ∃ a vs, v = .ref a ∧ SqL K H a vs ∧ Rps K H vs ts := by
  rcases h with rfl | ⟨a, rfl, h⟩
  · obtain ⟨p, vs, e, h1, hz, h2⟩ := r
    exact ⟨p, vs, e, h1.seq, h2⟩
  · obtain ⟨vs, e, q⟩ := hg _ _ h
    cases r
    exact ⟨a, vs, rfl, SqL.of e, q⟩

/-! ### data -/
mutual
inductive Dt (G : Gp) : T → PyData → Prop
  | non : Dt G .non .none
  | bl (b : Bool) : Dt G (.bl b) (.bool b)
  | int (i : Int) : Dt G (.int i) (.int i)
  | str (x : Str) : Dt G (.str x) (.str x)
  | tup {ts : List T} {ds : List PyData} : DtAll G ts ds → Dt G (.tup ts) (.tuple ds)
  | lst {t : T} {ts : List T} {ds : List PyData} : isL G t ts → DtAll G ts ds → Dt G t (.list ds)
inductive DtAll (G : Gp) : List T → List PyData → Prop
  | nil : DtAll G [] []
  | cons {t : T} {ts : List T} {d : PyData} {ds : List PyData} : Dt G t d → DtAll G ts ds → DtAll G (t :: ts) (d :: ds)
end
section
variable {K : PySem.W.Frag} {H : Hp} {G : Gp}
mutual
theorem Dt.dp (hg : RG K H G) : ∀ (d : PyData) (t : T) (v : V), Dt G t d → Rp K H v t → Dp K H v d
  | _, _, v, .non, r => by cases r; exact .non
  | _, _, v, .bl b, r => by cases r; exact .bl b
  | _, _, v, .int i, r => by cases r; exact .int i
  | _, _, v, .str x, r => by cases r; exact .str x
  | .tuple ds, _, v, .tup h, r => by
    obtain ⟨p, vs, rfl, hq, hz, rv⟩ := r.tupSq
    exact .tup hq (DtAll.dp hg ds _ vs h rv)
  | .list ds, _, v, .lst e h, r => by
    obtain ⟨a, vs, rfl, e, rv⟩ := e.seq hg r
    exact .lst e (DtAll.dp hg ds _ vs h rv)
theorem DtAll.dp (hg : RG K H G) : ∀ (ds : List PyData) (ts : List T) (vs : List V), DtAll G ts ds → Rps K H vs ts → DpAll K H vs ds
  | _, _, vs, .nil, r => by cases r; exact .nil
  | d :: ds, _, vs, .cons h hs, r => by
    obtain ⟨v, q, rfl, r1, r2⟩ := r
    exact .cons (Dt.dp hg d _ v h r1) (DtAll.dp hg ds _ q hs r2)
end
end

/-! ### operators -/
def oAdd : O2
  | .int i, .int j, G, R => R (.int (i + j)) G
  | .str x, .str y, G, R => x.length + y.length ≤ sizeLine ∧ R (.str (x ++ y)) G
  | .tup xs, .tup ys, G, R => xs.length + ys.length ≤ sizeLine ∧ R (.tup (xs ++ ys)) G
  | .ref a, .ref b, G, R => ∃ xs ys, G a = some (.lst xs) ∧ G b = some (.lst ys) ∧ xs.length + ys.length ≤ sizeLine ∧ ∀ p, G p = none → R (.ref p) (put G p (.lst (xs ++ ys)))
  | _, _, _, _ => False

section
variable {K : PySem.W.Frag} {H : Hp} {G : Gp} {R : KT} {Q : VK}
theorem Gives.val (f : Gives K H R Q) (hg : RG K H G) {t : T} {v : V} (k : R t G) (r : Rp K H v t) : Q v H := f t G H v k (Le.refl H) hg r
theorem nt_none {p : Addr} (h : H p = none) : NoTup (H p) := by rw [h]; trivial
theorem Gives.newT (f : Gives K H R Q) (hg : RG K H G) {ts : List T} {vs : List V} {p : Addr} {o : Obj} (ho : o.dict = none) (hp : H p = none) (k : R (.tup ts) G) (r : Rps K H vs ts) (hz : ts.length ≤ sizeLine) : Q (.ref p) (upd H p (.frz o (.tup vs))) :=
  f (.tup ts) G _ (.ref p) k (Le.new hp) (hg.out (nt_none hp) (hg.fresh hp)) ⟨p, vs, rfl, ⟨o, ho, upd_same⟩, hz, r.le (Le.new hp)⟩
theorem Gives.newP (f : Gives K H R Q) (hg : RG K H G) {ts : List T} {vs : List V} {p : Addr} (hp : H p = none) (k : R (.pr ts) G) (r : Rps K H vs ts) (hz : ts.length ≤ sizeLine) : Q (.ref p) (upd H p (.tup vs)) :=
  f (.pr ts) G _ (.ref p) k (Le.new hp) (hg.out (nt_none hp) (hg.fresh hp)) ⟨p, vs, rfl, upd_same, hz, r.le (Le.new hp)⟩
theorem Gives.newC (f : Gives K H R Q) (hg : RG K H G) {c : C} {o : HO} {p : Addr} (hp : H p = none) (k : R (.ref p) (put G p c)) (r : RCell K (upd H p o) p c) : Q (.ref p) (upd H p o) :=
  f (.ref p) (put G p c) _ (.ref p) k (Le.new hp) (hg.wr (nt_none hp) r) rfl
theorem Gives.newL (f : Gives K H R Q) (hg : RG K H G) {ts : List T} {vs : List V} {p : Addr} (hp : H p = none) (k : R (.ref p) (put G p (.lst ts))) (r : Rps K H vs ts) : Q (.ref p) (upd H p (.lst vs)) :=
  f.newC hg hp k ⟨vs, upd_same, r.le (Le.new hp)⟩
/-- a cell is written, and a flat value told -/
theorem Gives.wr (f : Gives K H R Q) (hg : RG K H G) {c c0 : C} {o : HO} {a : Addr} {t : T} {v : V} (ha : G a = some c0) (k : R t (put G a c)) (r : RCell K (upd H a o) a c) (rv : Rp K H v t) (hc : c0.isLk = false := by rfl) : Q v (upd H a o) :=
  f t (put G a c) _ v k (Le.wr (hg.notup ha hc)) (hg.wr (hg.notup ha hc) r) (rv.le (Le.wr (hg.notup ha hc)))
theorem Gives.wrL (f : Gives K H R Q) (hg : RG K H G) {c0 : C} {a : Addr} {ts : List T} {vs : List V} {t : T} {v : V} (ha : G a = some c0) (k : R t (put G a (.lst ts))) (r : Rps K H vs ts) (rv : Rp K H v t) (hc : c0.isLk = false := by rfl) : Q v (upd H a (.lst vs)) :=
  f.wr hg ha k ⟨vs, upd_same, r.le (Le.wr (hg.notup ha hc))⟩ rv hc
end
theorem lst_of {K : PySem.W.Frag} {H : Hp} {G : Gp} {a : Addr} {ts : List T} (hg : RG K H G) (h : G a = some (.lst ts)) : ∃ vs, H a = some (.lst vs) ∧ Rps K H vs ts := hg _ _ h
section
variable {X : Cx}
/-! ### tuples whose object is known -/
def rCatF (K : PySem.W.Frag) : R2 := fun x y H Q => ∃ a b xs ys, x = .ref a ∧ y = .ref b ∧ SqT K H a xs ∧ SqT K H b ys ∧ xs.length + ys.length ≤ sizeLine ∧
  (xs = [] → Q (.ref b) H) ∧ (xs ≠ [] → ys = [] → Q (.ref a) H) ∧ (xs ≠ [] → ys ≠ [] → ∀ p (o : Obj), o.dict = none → H p = none → Q (.ref p) (upd H p (.frz o (.tup (xs ++ ys)))))
theorem op_catF : OpR X (binaryOp .Add) (rCatF X.K) := by
  intro pins s σ H x y v u Q I rx ry h
  obtain ⟨a, b, xs, ys, rfl, rfl, ha, hb, hz, q0, q1, q2⟩ := h
  cases rx
  cases ry
  obtain ⟨its, r1, p1, _⟩ := I.tuple ha
  obtain ⟨its2, r2, p2, _⟩ := I.tuple hb
  by_cases hx : xs = []
  · subst hx
    cases r1
    exact cat_tup0 p1 p2 ⟨.ref b, H, I, rfl, q0 rfl⟩
  refine HT.cat_tup p1 p2 (fun z => hx (r1.nil_iff.mp z)) (fun z => ⟨.ref a, H, I, rfl, q1 hx (r2.nil_iff.mp z)⟩) (fun z => ?_) (by rw [← r1.length, ← r2.length]; exact hz)
  refine ⟨.ref s.heap.objs.size, _, I.laid (t' := s.toks) (o := .frz { cls := .type "tuple", data := .seq (its ++ its2).toArray } (.tup (xs ++ ys))) (fun b ob q => Heap.get?_push_of_some _ q) (Nat.le_refl _) ?_, rfl, q2 hx (fun w => z (r2.nil_iff.mpr w)) _ _ rfl (I.hok.fresh (Nat.le_refl _))⟩
  exact ⟨Heap.get?_push_size _ rfl, by rw [List.length_append]; exact hz, _, r1.append r2, PyProof.Rows.IsTup.new _ _⟩
theorem op_oAdd : OpR X (binaryOp .Add) (liO2 X.K oAdd) :=
  (((op_add (X := X)).or op_add_str).or (op_catF.or op_cat)).imp fun x y H Q h => by
    obtain ⟨s, t, G, R, rx, ry, hg, k, f⟩ := h
    cases s with
    | int i => cases t with
      | int j => cases rx; cases ry; exact .inl (.inl ⟨i, j, rfl, rfl, f.val hg k rfl⟩)
      | _ => exact k.elim
    | str i => cases t with
      | str j => cases rx; cases ry; exact .inl (.inr ⟨i, j, rfl, rfl, k.1, f.val hg k.2 rfl⟩)
      | _ => exact k.elim
    | tup xs => cases t with
      | tup ys =>
        have rx0 := rx
        have ry0 := ry
        obtain ⟨p, vs, rfl, h1, z1, r1⟩ := rx.tupSq
        obtain ⟨q, ws, rfl, h2, z2, r2⟩ := ry.tupSq
        refine .inr (.inl ⟨p, q, vs, ws, rfl, rfl, h1, h2, by rw [r1.length, r2.length]; exact k.1, fun e => ?_, fun _ e => ?_, fun _ _ p' o ho hp => ?_⟩)
        · have e1 := r1.nil_iff.mp e
          subst e1
          exact f.val hg k.2 ry0
        · have e1 := r2.nil_iff.mp e
          subst e1
          have k2 : R (.tup (xs ++ [])) G := k.2
          rw [List.append_nil] at k2
          exact f.val hg k2 rx0
        · exact f.newT hg ho hp k.2 (r1.append r2) (by rw [List.length_append]; exact k.1)
      | _ => exact k.elim
    | ref a => cases t with
      | ref b =>
        obtain ⟨xs, ys, h1, h2, hz, k⟩ := k
        cases rx; cases ry
        obtain ⟨vs, e1, r1⟩ := lst_of hg h1
        obtain ⟨ws, e2, r2⟩ := lst_of hg h2
        exact .inr (.inr ⟨a, b, vs, ws, rfl, rfl, e1, e2, by rw [r1.length, r2.length]; exact hz, fun p hp => f.newL hg hp (k p (hg.fresh hp)) (r1.append r2)⟩)
      | _ => exact k.elim
    | _ => exact k.elim
def oInt (C : Int → Int → Prop) (g : Int → Int → Int) : O2
  | .int i, .int j, G, R => C i j ∧ R (.int (g i j)) G
  | _, _, _, _ => False
theorem oInt_ok {f : Value → Value → Sem Value} {C : Int → Int → Prop} {g : Int → Int → Int} (h : OpR X f (rI C fun i j => .int (g i j))) : OpR X f (liO2 X.K (oInt C g)) :=
  h.imp fun x y H Q h => by
    obtain ⟨s, t, G, R, rx, ry, hg, k, f⟩ := h
    cases s with
    | int i => cases t with
      | int j => cases rx; cases ry; exact ⟨i, j, rfl, rfl, k.1, f.val hg k.2 rfl⟩
      | _ => exact k.elim
    | _ => exact k.elim
abbrev oSub : O2 := oInt (fun _ _ => True) (fun i j => i - j)
theorem op_oSub : OpR X (binaryOp .Sub) (liO2 X.K oSub) := oInt_ok (op_sub.imp fun x y H Q ⟨i, j, a, b, _, q⟩ => ⟨i, j, a, b, q⟩)
abbrev oFdiv : O2 := oInt CDivW (fun i j => i / j)
theorem op_oFdiv : OpR X (binaryOp .FloorDiv) (liO2 X.K oFdiv) := oInt_ok op_fdivW
abbrev oMod : O2 := oInt (fun _ j => 0 < j) (fun i j => i % j)
theorem op_oMod : OpR X (binaryOp .Mod) (liO2 X.K oMod) := oInt_ok op_mod
abbrev oPow : O2 := oInt CPow (fun i j => i ^ j.toNat)
theorem op_oPow : OpR X (binaryOp .Pow) (liO2 X.K oPow) := oInt_ok op_pow
def CMulA (i j : Int) : Prop := CMul i j ∨ CMulW i j
/-- * : ints; a list, a text, a tuple times an int -/
def oMul : O2
  | .int i, .int j, G, R => CMulA i j ∧ R (.int (i * j)) G
  | .ref a, .int k, G, R => ∃ xs, G a = some (.lst xs) ∧ -(2 ^ 63) ≤ k ∧ k < 2 ^ 63 ∧ xs.length * k.toNat ≤ sizeLine ∧ ∀ p, G p = none → R (.ref p) (put G p (.lst (List.replicate k.toNat xs).flatten))
  | _, _, _, _ => False
theorem Rps.rep {K : PySem.W.Frag} {H : Hp} {vs : List V} {ts : List T} (h : Rps K H vs ts) : ∀ n : Nat, Rps K H (List.replicate n vs).flatten (List.replicate n ts).flatten
  | 0 => rfl
  | n + 1 => by
    rw [List.replicate_succ, List.flatten_cons, List.replicate_succ, List.flatten_cons]
    exact h.append (Rps.rep h n)
theorem op_oMul : OpR X (binaryOp .Mult) (liO2 X.K oMul) :=
  ((op_mul (X := X)).or (op_mulW.or op_rep)).imp fun x y H Q h => by
    obtain ⟨s, t, G, R, rx, ry, hg, k, f⟩ := h
    cases s with
    | int i => cases t with
      | int j =>
        cases rx; cases ry
        rcases k.1 with h1 | h1
        · exact .inl ⟨i, j, rfl, rfl, h1, f.val hg k.2 rfl⟩
        · exact .inr (.inl ⟨i, j, rfl, rfl, h1, f.val hg k.2 rfl⟩)
      | _ => exact k.elim
    | ref a => cases t with
      | int j =>
        obtain ⟨xs, h1, h2, h3, hz, k⟩ := k
        cases rx; cases ry
        obtain ⟨vs, e1, r1⟩ := lst_of hg h1
        exact .inr (.inr ⟨a, j, vs, rfl, rfl, e1, h2, h3, by rw [r1.length]; exact hz, fun p hp => f.newL hg hp (k p (hg.fresh hp)) (r1.rep _)⟩)
      | _ => exact k.elim
    | _ => exact k.elim

/-! ### comparisons -/
def oCmpI (g : Int → Int → Bool) : O2
  | .int i, .int j, G, R => R (.bl (g i j)) G
  | _, _, _, _ => False
theorem oCmpI_ok {f : Value → Value → Sem Value} {g : Int → Int → Bool} (h : OpR X f (rI0 fun i j => .bl (g i j))) : OpR X f (liO2 X.K (oCmpI g)) :=
  h.imp fun x y H Q h => by
    obtain ⟨s, t, G, R, rx, ry, hg, k, f⟩ := h
    cases s with
    | int i => cases t with
      | int j => cases rx; cases ry; exact ⟨i, j, rfl, rfl, f.val hg k rfl⟩
      | _ => exact k.elim
    | _ => exact k.elim
abbrev oLt : O2 := oCmpI fun i j => decide (i < j)
abbrev oLe : O2 := oCmpI fun i j => decide (i ≤ j)
abbrev oGt : O2 := oCmpI fun i j => decide (j < i)
abbrev oGe : O2 := oCmpI fun i j => decide (j ≤ i)
theorem op_oLt : OpR X (compareOp .Lt) (liO2 X.K oLt) := oCmpI_ok op_lt
theorem op_oLe : OpR X (compareOp .LtE) (liO2 X.K oLe) := oCmpI_ok op_le
theorem op_oGt : OpR X (compareOp .Gt) (liO2 X.K oGt) := oCmpI_ok op_gt
theorem op_oGe : OpR X (compareOp .GtE) (liO2 X.K oGe) := oCmpI_ok op_ge
def oEq : O2 := fun s t G R => ∃ d e, Dt G s d ∧ Dt G t e ∧ SeqAt.shaped d = true ∧ SeqAt.shaped e = true ∧ R (.bl (PyData.eqv d e)) G
def oNe : O2 := fun s t G R => ∃ d e, Dt G s d ∧ Dt G t e ∧ SeqAt.shaped d = true ∧ SeqAt.shaped e = true ∧ R (.bl (!PyData.eqv d e)) G
theorem op_oEq (hu : X.A.units + 64 < cLine) : OpR X (compareOp .Eq) (liO2 X.K oEq) :=
  (op_eqD hu).imp fun x y H Q h => by
    obtain ⟨s, t, G, R, rx, ry, hg, ⟨d, e, h1, h2, h3, h4, k⟩, f⟩ := h
    exact ⟨d, e, h1.dp hg d s x rx, h2.dp hg e t y ry, h3, h4, f.val hg k rfl⟩
theorem op_oNe (hu : X.A.units + 64 < cLine) : OpR X (compareOp .NotEq) (liO2 X.K oNe) :=
  (op_neD hu).imp fun x y H Q h => by
    obtain ⟨s, t, G, R, rx, ry, hg, ⟨d, e, h1, h2, h3, h4, k⟩, f⟩ := h
    exact ⟨d, e, h1.dp hg d s x rx, h2.dp hg e t y ry, h3, h4, f.val hg k rfl⟩
def T.isN : T → Bool
  | .non => true
  | _ => false
theorem isN_rp {K : PySem.W.Frag} {H : Hp} {x : V} {t : T} (r : Rp K H x t) : decide (x = .non) = t.isN := by
  cases t with
  | tup ts => obtain ⟨p, vs, rfl, _⟩ := r; rfl
  | pr ts => obtain ⟨p, vs, rfl, _⟩ := r; rfl
  | cl ts => obtain ⟨p, vs, rfl, _⟩ := r; rfl
  | _ => cases r; first | rfl | simp [T.isN]
def oIsN : O2 := fun s t G R => t = .non ∧ R (.bl s.isN) G
def oNotN : O2 := fun s t G R => t = .non ∧ R (.bl (!s.isN)) G
theorem op_oIsN : OpR X (compareOp .Is) (liO2 X.K oIsN) :=
  op_isN.imp fun x y H Q h => by
    obtain ⟨s, t, G, R, rx, ry, hg, ⟨rfl, k⟩, f⟩ := h
    cases ry
    exact ⟨rfl, by rw [isN_rp rx]; exact f.val hg k rfl⟩
theorem op_oNotN : OpR X (compareOp .IsNot) (liO2 X.K oNotN) :=
  op_notN.imp fun x y H Q h => by
    obtain ⟨s, t, G, R, rx, ry, hg, ⟨rfl, k⟩, f⟩ := h
    cases ry
    exact ⟨rfl, by rw [isN_rp rx]; exact f.val hg k rfl⟩

/-! ### in -/
def T.flat : T → Bool
  | .non => true
  | .bl _ => true
  | .int _ => true
  | .str _ => true
  | _ => false
/-- == of flat values -/
def T.eqf : T → T → Bool
  | .non, .non => true
  | .bl a, .bl b => a == b
  | .bl a, .int b => (if a then 1 else 0) == b
  | .int a, .bl b => a == (if b then 1 else 0)
  | .int a, .int b => a == b
  | .str a, .str b => a == b
  | _, _ => false
theorem flat_rp {K : PySem.W.Frag} {H : Hp} {x : V} {t : T} (r : Rp K H x t) (h : t.flat = true) : flatV x = true := by
  cases t <;> first | (cases r; rfl) | cases h
theorem eqf_rp {K : PySem.W.Frag} {H : Hp} {x y : V} {s t : T} (rx : Rp K H x s) (ry : Rp K H y t) (h : s.flat = true) (h2 : t.flat = true) : eqV x y = s.eqf t := by
  cases s <;> first
    | (cases h; done)
    | (cases t <;> first
        | (cases h2; done)
        | (cases rx; cases ry; rfl))
theorem flats_rp {K : PySem.W.Frag} {H : Hp} : ∀ {xs : List V} {ts : List T}, Rps K H xs ts → ts.all T.flat = true → xs.all flatV = true
  | xs, [], r, _ => by cases r; rfl
  | xs, t :: ts, r, h => by
    obtain ⟨v, q, rfl, r1, r2⟩ := r
    rw [List.all_cons, Bool.and_eq_true] at h ⊢
    exact ⟨flat_rp r1 h.1, flats_rp r2 h.2⟩
theorem inV_rp {K : PySem.W.Frag} {H : Hp} {x : V} {s : T} (rx : Rp K H x s) (hs : s.flat = true) : ∀ {xs : List V} {ts : List T}, Rps K H xs ts → ts.all T.flat = true → inV x xs = ts.any fun y => y.eqf s
  | xs, [], r, _ => by cases r; rfl
  | xs, t :: ts, r, h => by
    obtain ⟨v, q, rfl, r1, r2⟩ := r
    rw [List.all_cons, Bool.and_eq_true] at h
    have e := inV_rp rx hs r2 h.2
    unfold inV at e ⊢
    rw [List.any_cons, List.any_cons, e, eqf_rp r1 rx h.1 hs]
/-- what stands in a list or a tuple -/
def isSq (G : Gp) (t : T) (ts : List T) : Prop := t = .tup ts ∨ isL G t ts
theorem isSq.seq {K : PySem.W.Frag} {H : Hp} {G : Gp} {t : T} {ts : List T} {v : V} (hg : RG K H G) (h : isSq G t ts) (r : Rp K H v t) : ∃ a vs, v = .ref a ∧ (SqL K H a vs ∨ SqT K H a vs) ∧ Rps K H vs ts := by
  rcases h with rfl | h
  · obtain ⟨p, vs, e, h1, hz, h2⟩ := r.tupSq
    exact ⟨p, vs, e, .inr h1, h2⟩
  · obtain ⟨a, vs, e, h1, h2⟩ := h.seq hg r
    exact ⟨a, vs, e, .inl h1, h2⟩
def oInF (neg : Bool) : O2 := fun s t G R => ∃ ts, isSq G t ts ∧ s.flat = true ∧ ts.all T.flat = true ∧ R (.bl (if neg then !ts.any fun y => y.eqf s else ts.any fun y => y.eqf s)) G
theorem oInF_ok {op : CmpOp} {neg : Bool} (h : OpR X (compareOp op) (rIn X.K neg)) : OpR X (compareOp op) (liO2 X.K (oInF neg)) :=
  h.imp fun x y H Q h => by
    obtain ⟨s, t, G, R, rx, ry, hg, ⟨ts, h1, h2, h3, k⟩, f⟩ := h
    obtain ⟨a, vs, rfl, hq, rv⟩ := h1.seq hg ry
    refine ⟨a, vs, rfl, hq, flat_rp rx h2, flats_rp rv h3, ?_⟩
    rw [inV_rp rx h2 rv h3]
    exact f.val hg k rfl
theorem op_oInF : OpR X (compareOp .In) (liO2 X.K (oInF false)) := oInF_ok op_in_seq
theorem op_oNotInF : OpR X (compareOp .NotIn) (liO2 X.K (oInF true)) := oInF_ok op_notIn_seq
/-- of data of any depth in a list -/
def oInD (neg : Bool) : O2 := fun s t G R => ∃ d ds, Dt G s d ∧ Dt G t (.list ds) ∧ SeqAt.shaped d = true ∧ SeqAt.shaped (.list ds) = true ∧ R (.bl (if neg then !ds.any fun z => PyData.eqv z d else ds.any fun z => PyData.eqv z d)) G
theorem op_oInD (hu : X.A.units + 65 < cLine) : OpR X (compareOp .In) (liO2 X.K (oInD false)) :=
  (op_inD hu).imp fun x y H Q h => by
    obtain ⟨s, t, G, R, rx, ry, hg, ⟨d, e, h1, h2, h3, h4, k⟩, f⟩ := h
    exact ⟨d, e, h1.dp hg d s x rx, h2.dp hg _ t y ry, h3, h4, f.val hg k rfl⟩
theorem op_oNotInD (hu : X.A.units + 65 < cLine) : OpR X (compareOp .NotIn) (liO2 X.K (oInD true)) :=
  (op_notInD hu).imp fun x y H Q h => by
    obtain ⟨s, t, G, R, rx, ry, hg, ⟨d, e, h1, h2, h3, h4, k⟩, f⟩ := h
    exact ⟨d, e, h1.dp hg d s x rx, h2.dp hg _ t y ry, h3, h4, f.val hg k rfl⟩

/-! ### subscripts -/
def oIx : O2 := fun s t G R => match t with
  | .int i => (∃ ts u, isSq G s ts ∧ atI ts i = some u ∧ R u G) ∨ ∃ z c, s = .str z ∧ z.length ≤ sizeLine ∧ atI z.cps.toList i = some c ∧ R (.str ⟨#[c]⟩) G
  | _ => False
theorem Rps.atI {K : PySem.W.Frag} {H : Hp} {vs : List V} {ts : List T} {i : Int} {u : T} (r : Rps K H vs ts) (h : atI ts i = some u) : ∃ v, L2.atI vs i = some v ∧ Rp K H v u := by
  unfold L2.atI at h ⊢
  rw [r.length]
  cases e : ixN ts.length i with
  | none => rw [e] at h; cases h
  | some j =>
    rw [e] at h
    obtain ⟨v, a, b⟩ := r.get (i := j) (t := u) h
    exact ⟨v, a, b⟩
theorem ix_oIx : IxR X (liO2 X.K oIx) :=
  ix_seq.imp fun x y H Q h => by
    obtain ⟨s, t, G, R, rx, ry, hg, k, f⟩ := h
    cases t with
    | int i =>
      cases ry
      rcases k with ⟨ts, u, h1, h2, k⟩ | ⟨z, c, rfl, hz, h2, k⟩
      · obtain ⟨a, vs, rfl, hq, rv⟩ := h1.seq hg rx
        obtain ⟨v, e, ru⟩ := rv.atI h2
        rcases hq with hq | hq
        · exact .inl ⟨a, vs, i, v, rfl, rfl, hq, e, f.val hg k ru⟩
        · exact .inr (.inl ⟨a, vs, i, v, rfl, rfl, hq, e, f.val hg k ru⟩)
      · cases rx
        exact .inr (.inr ⟨z, i, c, rfl, rfl, hz, h2, f.val hg k rfl⟩)
    | _ => exact k.elim
end
end Mi

set_option Elab.async false
set_option linter.all false
set_option maxRecDepth 100000
namespace Mi
open PySem L2
section
variable {X : Cx} {a b c e : Expr} {es : List Expr} {ma mb mc m : ME} {mas : MA} {pos : Pos} {st : Stmt} {rest body : List Stmt}

/-! ### argument lists, displays -/
def maNil : MA := fun _ G R => R [] G
def maCons (m : ME) (k : MA) : MA := fun r G R => m r G fun t G1 => k r G1 fun ts G2 => R (t :: ts) G2
theorem a_nil : OA X [] maNil := ⟨pa_nil.imp fun σ H Q q => by
  obtain ⟨r, G, R, hs, hg, k, f⟩ := q
  exact f [] G H [] k (Le.refl H) hg rfl⟩
theorem a_cons (h : OE X e m) (h2 : OA X es mas) (hs : starEach (e :: es) X.env = (false, eval e X.env) :: starEach es X.env := by rfl) : OA X (e :: es) (maCons m mas) :=
  ⟨(pa_cons h.ok h2.ok hs).imp fun σ H Q q => by
    obtain ⟨r, G, R, hs, hg, k, f⟩ := q
    refine ⟨r, G, _, hs, hg, k, fun t G1 H1 v k1 l1 g1 r1 => ?_⟩
    refine ⟨r, G1, _, hs.le l1, g1, k1, fun ts G2 H2 vs k2 l2 g2 r2 => ?_⟩
    exact f (t :: ts) G2 H2 (v :: vs) k2 (l1.trans l2) g2 ⟨v, vs, rfl, r1.le l2, r2⟩⟩
def mTup (k : MA) : ME := fun r G R => k r G fun ts G1 => ts.length ≤ sizeLine ∧ R (.tup ts) G1
def mLst (k : MA) : ME := fun r G R => k r G fun ts G1 => ts.length ≤ sizeLine ∧ ∀ p, G1 p = none → R (.ref p) (put G1 p (.lst ts))
def tTupF (t : TA) : TE := fun σ H Q => t σ H fun xs H' => xs.length ≤ sizeLine ∧ ∀ p (o : Obj), o.dict = none → H' p = none → Q (.ref p) (upd H' p (.frz o (.tup xs)))
theorem pe_tupF {x1} {t : TA} (h : PA X es t) : PE X (.Tuple es x1 pos) (tTupF t) := by
  refine ⟨fun pins s σ H Q I hq => ?_⟩
  refine wpAny_Tuple_spliced (thn (h.run pos pins s σ H _ I hq) fun us s1 ⟨xs, H1, I1, r, z, q⟩ => ⟨by rw [← r.length]; exact z, ?_⟩)
  have hf : H1 s1.heap.objs.size = none := I1.hok.fresh (Nat.le_refl _)
  refine ⟨.ref s1.heap.objs.size, upd H1 s1.heap.objs.size (.frz { cls := .type "tuple", data := .seq us.toArray } (.tup xs)), I1.laid (t' := s1.toks) (fun b u e => Heap.get?_push_of_some _ e) (Nat.le_refl _) ?_, rfl, q _ _ rfl hf⟩
  exact ⟨Heap.get?_push_size _ rfl, z, us, r, ⟨_, Heap.get?_push_size _ rfl, rfl, _, rfl⟩⟩
/-- a tuple as a dict's key -/
def mTupK (k : MA) : ME := fun r G R => k r G fun ts G1 => ts.length ≤ sizeLine ∧ R (.pr ts) G1
theorem o_tupK {x1} (h : OA X es mas) : OE X (.Tuple es x1 pos) (mTupK mas) := ⟨(pe_tup h.ok).imp fun σ H Q q => by
  obtain ⟨r, G, R, hs, hg, k, f⟩ := q
  refine ⟨r, G, _, hs, hg, k, fun ts G1 H1 vs k1 l1 g1 r1 => ?_⟩
  exact ⟨by rw [r1.length]; exact k1.1, fun p hp => (f.le l1).newP g1 hp k1.2 r1 k1.1⟩⟩
theorem o_tup {x1} (h : OA X es mas) : OE X (.Tuple es x1 pos) (mTup mas) := ⟨(pe_tupF h.ok).imp fun σ H Q q => by
  obtain ⟨r, G, R, hs, hg, k, f⟩ := q
  refine ⟨r, G, _, hs, hg, k, fun ts G1 H1 vs k1 l1 g1 r1 => ?_⟩
  exact ⟨by rw [r1.length]; exact k1.1, fun p o ho hp => (f.le l1).newT g1 ho hp k1.2 r1 k1.1⟩⟩
theorem o_lst (h : OA X es mas) : OE X (.List es pos) (mLst mas) := ⟨(pe_lst h.ok).imp fun σ H Q q => by
  obtain ⟨r, G, R, hs, hg, k, f⟩ := q
  refine ⟨r, G, _, hs, hg, k, fun ts G1 H1 vs k1 l1 g1 r1 => ?_⟩
  exact ⟨by rw [r1.length]; exact k1.1, fun p hp => (f.le l1).newL g1 hp (k1.2 p (g1.fresh hp)) r1⟩⟩

/-! ### calls -/
abbrev Sm := List T → Gp → KT → Prop
def liM (K : PySem.W.Frag) (sp : Sm) : Sp := fun vs H Q _ => ∃ ts G R, Rps K H vs ts ∧ RG K H G ∧ sp ts G R ∧ Gives K H R Q
def mCall (sp : Sm) (k : MA) : ME := fun r G R => k r G fun ts G1 => sp ts G1 R
theorem call_li {K : PySem.W.Frag} {sp : Sm} {mas : MA} {σ : St} {H : Hp} {Q : VK} {E : XK} (h : liE K (mCall sp mas) σ H Q) : tCall (liM K sp) [] E (liA K mas) σ H Q := by
  obtain ⟨r, G, R, hs, hg, k, f⟩ := h
  refine ⟨r, G, _, hs, hg, k, fun ts G1 H1 vs k1 l1 g1 r1 => ?_⟩
  exact ⟨ts, G1, R, by rw [List.append_nil]; exact r1, g1, k1, f.le l1⟩
section
variable {CX : CXT} {k : Nat} {f : Addr} {fd : FuncData} {ps : List Str} {sp : Sm} {E : XK} {x : Str} {p : Pos}
theorem o_call (F : FnOk X.prog X.w X.K X.mg X.base CX k f fd ps (liM X.K sp)) (hr : Room k X.A) (hg : Gl X x) (hm : X.mg x = some (.ref f)) (hk : PySem.W.keepIn X.K (.ref f) = true) (hb : Binds X.K fd ps []) (hx : Passes CX X E)
    (ha : OA X (e :: es) mas) (hdb : (x == ("__debug__" : Str)) = false := by decide) (he : starEach (e :: es) X.env = (false, eval e X.env) :: starEach es X.env := by rfl) (hpl : (backTo pos (starEach es X.env)).any (·.1) = false := by rfl) :
    OE X (.Call (.Name x p) (e :: es) [] pos) (mCall sp mas) := ⟨(pe_call (E := E) F hr hg hm hk hb .nil hx ha.ok hdb he hpl).imp fun _ _ _ q => call_li q⟩
theorem o_call0 (F : FnOk X.prog X.w X.K X.mg X.base CX k f fd ps (liM X.K sp)) (hr : Room k X.A) (hg : Gl X x) (hm : X.mg x = some (.ref f)) (hk : PySem.W.keepIn X.K (.ref f) = true) (hb : Binds X.K fd ps []) (hx : Passes CX X E)
    (hdb : (x == ("__debug__" : Str)) = false := by decide) : OE X (.Call (.Name x p) [] [] pos) (mCall sp maNil) := ⟨(pe_call0 (E := E) F hr hg hm hk hb .nil hx hdb).imp fun σ H Q q => by
  obtain ⟨r, G, R, hs, hg, k, f⟩ := q
  exact ⟨[], G, R, rfl, hg, k, f⟩⟩
end
/-- a built-in's call, by values -/
def liC (K : PySem.W.Frag) (o : Sm) : List V → Hp → VK → Prop := fun vs H Q => ∃ ts G R, Rps K H vs ts ∧ RG K H G ∧ o ts G R ∧ Gives K H R Q
theorem cb_li {K : PySem.W.Frag} {o : Sm} {mas : MA} {σ : St} {H : Hp} {Q : VK} (h : liE K (mCall o mas) σ H Q) : tCB (liC K o) (liA K mas) σ H Q := by
  obtain ⟨r, G, R, hs, hg, k, f⟩ := h
  refine ⟨r, G, _, hs, hg, k, fun ts G1 H1 vs k1 l1 g1 r1 => ?_⟩
  exact ⟨ts, G1, R, r1, g1, k1, f.le l1⟩
section
variable {id T' : String} {x : Str} {p : Pos} {o : Sm}
theorem o_callB (hc : CallR X (.builtin id) (liC X.K o)) (hg : Gl X x) (hm : X.mg x = none) (hv : bootBuiltins x = some (.builtin id)) (ha : OA X (e :: es) mas) (hn : x ≠ "__name__" := by decide) (hdb : (x == ("__debug__" : Str)) = false := by decide)
    (he : starEach (e :: es) X.env = (false, eval e X.env) :: starEach es X.env := by rfl) (hpl : (backTo pos (starEach es X.env)).any (·.1) = false := by rfl) : OE X (.Call (.Name x p) (e :: es) [] pos) (mCall o mas) :=
  ⟨(pe_callB hc hg hm hv ha.ok hn hdb he hpl).imp fun _ _ _ q => cb_li q⟩
theorem o_callTy (hc : CallR X (.type T') (liC X.K o)) (hg : Gl X x) (hm : X.mg x = none) (hv : bootBuiltins x = some (.type T')) (ha : OA X (e :: es) mas) (hn : x ≠ "__name__" := by decide) (hdb : (x == ("__debug__" : Str)) = false := by decide)
    (he : starEach (e :: es) X.env = (false, eval e X.env) :: starEach es X.env := by rfl) (hpl : (backTo pos (starEach es X.env)).any (·.1) = false := by rfl) : OE X (.Call (.Name x p) (e :: es) [] pos) (mCall o mas) :=
  ⟨(pe_callTy hc hg hm hv ha.ok hn hdb he hpl).imp fun _ _ _ q => cb_li q⟩
end

/-! ### slices -/
abbrev MO := Env → Gp → (Option Int → Gp → Prop) → Prop
def liO (K : PySem.W.Frag) (m : MO) : TO := fun σ H Q => ∃ r G R, RS K H σ r ∧ RG K H G ∧ m r G R ∧ ∀ o G' H', R o G' → Le H H' → RG K H' G' → Q o H'
structure OO (X : Cx) (e : Option Expr) (m : MO) : Prop where
  ok : PO X e (liO X.K m)
theorem _root_.L2.PO.imp {X : Cx} {e : Option Expr} {t t' : TO} (h : PO X e t) (f : ∀ σ H Q, t' σ H Q → t σ H Q) : PO X e t' := ⟨fun pins s σ H Q I q => h.run pins s σ H Q I (f σ H Q q)⟩
theorem _root_.L2.SlR.imp {X : Cx} {r r' : V → Option Int → Option Int → Hp → VK → Prop} (h : SlR X r) (k : ∀ x lo hi H Q, r' x lo hi H Q → r x lo hi H Q) : SlR X r' := fun pins s σ H x v vl vu lo hi sl Q I rx hs pl pu q => h pins s σ H x v vl vu lo hi sl Q I rx hs pl pu (k x lo hi H Q q)
def moN : MO := fun _ G R => R none G
def moS (m : ME) : MO := fun r G R => m r G fun t G1 => ∃ i, t = .int i ∧ R (some i) G1
theorem oo_none : OO X none moN := ⟨po_none.imp fun σ H Q q => by
  obtain ⟨r, G, R, hs, hg, k, f⟩ := q
  exact f none G H k (Le.refl H) hg⟩
theorem oo_some (h : OE X e m) : OO X (some e) (moS m) := ⟨(po_some h.ok).imp fun σ H Q q => by
  obtain ⟨r, G, R, hs, hg, k, f⟩ := q
  refine ⟨r, G, _, hs, hg, k, fun t G1 H1 v k1 l1 g1 r1 => ?_⟩
  obtain ⟨i, rfl, k2⟩ := k1
  exact ⟨i, r1, f _ G1 H1 k2 l1 g1⟩⟩
def cutT {α : Type} (xs : List α) (lo hi : Option Int) : List α := (xs.drop (HT.sIx xs.length 0 lo)).take (HT.sIx xs.length xs.length hi - HT.sIx xs.length 0 lo)
def oSl (t : T) (lo hi : Option Int) (G : Gp) (R : KT) : Prop :=
  (∃ ts, t = .tup ts ∧ R (.tup (cutT ts lo hi)) G) ∨ (∃ ts, isL G t ts ∧ ∀ p, G p = none → R (.ref p) (put G p (.lst (cutT ts lo hi)))) ∨ ∃ z, t = .str z ∧ z.length ≤ sizeLine ∧ R (.str (cutS z lo hi)) G
def mSl (m : ME) (l h : MO) : ME := fun r G R => m r G fun t G1 => l r G1 fun lo G2 => h r G2 fun hi G3 => oSl t lo hi G3 R
theorem cutT_length {α : Type} (xs : List α) (lo hi : Option Int) : (cutT xs lo hi).length ≤ xs.length := by
  unfold cutT
  rw [List.length_take, List.length_drop]
  omega
theorem Rps.cut {K : PySem.W.Frag} {H : Hp} {vs : List V} {ts : List T} (h : Rps K H vs ts) (lo hi : Option Int) : Rps K H (cutV vs lo hi) (cutT ts lo hi) := by
  unfold cutV cutT
  rw [h.length]
  exact (h.drop _).take _
def liSl (K : PySem.W.Frag) : V → Option Int → Option Int → Hp → VK → Prop := fun x lo hi H Q => ∃ t G R, Rp K H x t ∧ RG K H G ∧ oSl t lo hi G R ∧ Gives K H R Q
def rSlF (K : PySem.W.Frag) : V → Option Int → Option Int → Hp → VK → Prop := fun x lo hi H Q => ∃ a xs, x = .ref a ∧ SqT K H a xs ∧
  (HT.sIx xs.length 0 lo = 0 ∧ HT.sIx xs.length xs.length hi = xs.length → Q (.ref a) H) ∧ (¬ (HT.sIx xs.length 0 lo = 0 ∧ HT.sIx xs.length xs.length hi = xs.length) → ∀ p (o : Obj), o.dict = none → H p = none → Q (.ref p) (upd H p (.frz o (.tup (cutV xs lo hi)))))
theorem sl_tupF : SlR X (rSlF X.K) := by
  intro pins s σ H x v vl vu lo hi sl Q I rx hs pl pu h
  obtain ⟨a, xs, rfl, hx, q1, q2⟩ := h
  cases rx
  obtain ⟨its, r, ht, hz⟩ := I.tuple hx
  have hlen : its.toArray.size = xs.length := by rw [List.size_toArray]; exact r.length.symm
  refine ⟨"tuple", _, PyProof.Rows.slot_tuple_getitem.lookup, ht.typeIs, ?_⟩
  by_cases hw : HT.sIx xs.length 0 lo = 0 ∧ HT.sIx xs.length xs.length hi = xs.length
  · exact getItem_tuple_whole ht hs pl pu (by rw [hlen]; exact hw) ⟨.ref a, H, I, rfl, q1 hw⟩
  · refine HT.getItem_tuple_cut ht hs pl pu (by rw [hlen]; exact hw) ?_ (by rw [hlen]; exact hz)
    rw [hlen]
    refine ⟨.ref s.heap.objs.size, _, I.laid (t' := s.toks) (o := .frz { cls := .type "tuple", data := .seq ((its.drop (HT.sIx xs.length 0 lo)).take (HT.sIx xs.length xs.length hi - HT.sIx xs.length 0 lo)).toArray } (.tup (cutV xs lo hi))) (fun b ob q => Heap.get?_push_of_some _ q) (Nat.le_refl _) ?_, rfl, q2 hw _ _ rfl (I.hok.fresh (Nat.le_refl _))⟩
    exact ⟨Heap.get?_push_size _ rfl, Nat.le_trans (cutV_length xs lo hi) hz, _, (r.drop (HT.sIx xs.length 0 lo)).take (HT.sIx xs.length xs.length hi - HT.sIx xs.length 0 lo), PyProof.Rows.IsTup.new _ _⟩
theorem sl_oSl : SlR X (liSl X.K) := ((sl_tupF (X := X)).or (sl_list.or sl_str)).imp fun x lo hi H Q h => by
  obtain ⟨t, G, R, rx, hg, k, f⟩ := h
  rcases k with ⟨ts, rfl, k⟩ | ⟨ts, h1, k⟩ | ⟨z, rfl, hz, k⟩
  · have rx0 := rx
    obtain ⟨p, vs, rfl, h1, hz, r1⟩ := rx.tupSq
    refine .inl ⟨p, vs, rfl, h1, fun ⟨e1, e2⟩ => ?_, fun _ q o ho hq => ?_⟩
    · rw [r1.length] at e1 e2
      have e : cutT ts lo hi = ts := by unfold cutT; rw [e1, e2]; simp
      rw [e] at k
      exact f.val hg k rx0
    · exact f.newT hg ho hq k (r1.cut lo hi) (Nat.le_trans (cutT_length ts lo hi) hz)
  · obtain ⟨a, vs, rfl, hq, rv⟩ := h1.seq hg rx
    exact .inr (.inl ⟨a, vs, rfl, hq, fun p hp => f.newL hg hp (k p (hg.fresh hp)) (rv.cut lo hi)⟩)
  · cases rx
    exact .inr (.inr ⟨z, rfl, hz, f.val hg k rfl⟩)
theorem o_sl {lo hi : Option Expr} {ml mh : MO} {p2 : Pos} (he : OE X e m) (hl : OO X lo ml) (hh : OO X hi mh) : OE X (.Subscript e (.Slice lo hi none p2) pos) (mSl m ml mh) :=
  ⟨(pe_slice sl_oSl he.ok hl.ok hh.ok).imp fun σ H Q q => by
    obtain ⟨r, G, R, hs, hg, k, f⟩ := q
    refine ⟨r, G, _, hs, hg, k, fun t G1 H1 v k1 l1 g1 r1 => ?_⟩
    refine ⟨r, G1, _, hs.le l1, g1, k1, fun lo G2 H2 k2 l2 g2 => ?_⟩
    refine ⟨r, G2, _, hs.le (l1.trans l2), g2, k2, fun hi G3 H3 k3 l3 g3 => ?_⟩
    exact ⟨t, G3, R, r1.le (l2.trans l3), g3, k3, f.le (l1.trans (l2.trans l3))⟩⟩
/-- xs[::-1] -/
def mRev (m : ME) : ME := fun r G R => m r G fun t G1 => ∃ ts, isL G1 t ts ∧ ∀ p, G1 p = none → R (.ref p) (put G1 p (.lst ts.reverse))
theorem o_rev {k : Nat} {p1 p2 p3 : Pos} (he : OE X e m) : OE X (.Subscript e (.Slice none none (some (.UnaryOp .USub (.Constant (.int 1) k p1) p2)) p3) pos) (mRev m) :=
  ⟨(pe_revL he.ok).imp fun σ H Q q => by
    obtain ⟨r, G, R, hs, hg, k, f⟩ := q
    refine ⟨r, G, _, hs, hg, k, fun t G1 H1 v k1 l1 g1 r1 => ?_⟩
    obtain ⟨ts, h1, k1⟩ := k1
    obtain ⟨a, vs, rfl, hq, rv⟩ := h1.seq g1 r1
    exact ⟨a, vs, rfl, hq, fun p hp => (f.le l1).newL g1 hp (k1 p (g1.fresh hp)) rv.reverse⟩⟩

/-! ### methods of built-in types -/
abbrev OM := T → List T → Gp → KT → Prop
def liB (K : PySem.W.Frag) (o : OM) : V → List V → Hp → VK → Prop := fun x vs H Q => ∃ t ts G R, Rp K H x t ∧ Rps K H vs ts ∧ RG K H G ∧ o t ts G R ∧ Gives K H R Q
theorem _root_.L2.MtR.imp {X : Cx} {id : String} {r r' : V → List V → Hp → VK → Prop} (h : MtR X id r) (k : ∀ x xs H Q, r' x xs H Q → r x xs H Q) : MtR X id r' := fun pins s σ H x xs v us Q I rx rs q => h pins s σ H x xs v us Q I rx rs (k x xs H Q q)
/-- the receiver's type -/
def isTy (G : Gp) : String → T → Prop
  | s, .str _ => s = "str"
  | s, .cl _ => s = "list"
  | s, .ref a => (s = "list" ∧ ∃ ts, G a = some (.lst ts)) ∨ (s = "dict" ∧ ((∃ kvs, G a = some (.dK kvs)) ∨ ∃ kvs, G a = some (.dT kvs)))
  | _, _ => False
theorem isTy_rp {K : PySem.W.Frag} {H : Hp} {G : Gp} {s : String} {t : T} {x : V} (hg : RG K H G) (r : Rp K H x t) (h : isTy G s t) : tyV K s x H := by
  cases t with
  | str z => cases r; exact h
  | cl ts => obtain ⟨p, vs, rfl, h1, _⟩ := r; exact .inl ⟨h, vs, h1.seq⟩
  | ref a =>
    cases r
    rcases h with ⟨rfl, ts, h1⟩ | ⟨rfl, ⟨kvs, h1⟩ | ⟨kvs, h1⟩⟩
    · obtain ⟨vs, e, _⟩ := hg _ _ h1; exact .inl ⟨rfl, vs, SqL.of e⟩
    · obtain ⟨vs, e, _⟩ := hg _ _ h1; exact .inr (.inr (.inl ⟨rfl, .inl ⟨vs, e⟩⟩))
    · obtain ⟨vs, e, _⟩ := hg _ _ h1; exact .inr (.inr (.inl ⟨rfl, .inr ⟨vs, e⟩⟩))
  | _ => exact h.elim
def mBm0 (s : String) (o : OM) (m : ME) : ME := fun r G R => m r G fun t G1 => isTy G1 s t ∧ o t [] G1 R
def mBm (s : String) (o : OM) (m : ME) (k : MA) : ME := fun r G R => m r G fun t G1 => isTy G1 s t ∧ k r G1 fun ts G2 => o t ts G2 R
section
variable {s id : String} {name : Str} {o : OM} {apos cpos : Pos}
theorem o_bm0 (pa : PlainAttrs s) (slot : Slot s name id) (hty : typeOf (.builtin id) = pure (.type "method_descriptor")) (hm : MtR X id (liB X.K o)) (ho : OE X a ma)
    (hbase : attributeBase a name X.env (eval a X.env) = eval a X.env := by rfl) (hline : (apos.endLine == cpos.line) = true := by rfl) : OE X (.Call (.Attribute a name apos) [] [] cpos) (mBm0 s o ma) :=
  ⟨(pe_bm0 pa slot hty hm ho.ok hbase hline).imp fun σ H Q q => by
    obtain ⟨r, G, R, hs, hg, k, f⟩ := q
    refine ⟨r, G, _, hs, hg, k, fun t G1 H1 v k1 l1 g1 r1 => ?_⟩
    exact ⟨isTy_rp g1 r1 k1.1, t, [], G1, R, r1, rfl, g1, k1.2, f.le l1⟩⟩
theorem o_bm (pa : PlainAttrs s) (slot : Slot s name id) (hty : typeOf (.builtin id) = pure (.type "method_descriptor")) (hm : MtR X id (liB X.K o)) (ho : OE X a ma) (ha : OA X (e :: es) mas)
    (hbase : attributeBase a name X.env (eval a X.env) = eval a X.env := by rfl)
    (hfew : ((backTo cpos (starEach (e :: es) X.env)).all (fun x => !x.1) && (backToKw cpos (keywordEach [] X.env)).all (fun x => x.1.isSome)
      && decide ((e :: es).length + ([] : List Keyword).length + (if ([] : List Keyword).isEmpty then 0 else 1) < 30)) = true := by rfl)
    (hline : (apos.endLine == cpos.line) = true := by rfl) (hs : starEach (e :: es) X.env = (false, eval e X.env) :: starEach es X.env := by rfl) (hplain : (backTo cpos (starEach es X.env)).any (·.1) = false := by rfl) :
    OE X (.Call (.Attribute a name apos) (e :: es) [] cpos) (mBm s o ma mas) :=
  ⟨(pe_bm pa slot hty hm ho.ok ha.ok hbase hfew hline hs hplain).imp fun σ H Q q => by
    obtain ⟨r, G, R, hs, hg, k, f⟩ := q
    refine ⟨r, G, _, hs, hg, k, fun t G1 H1 v k1 l1 g1 r1 => ?_⟩
    refine ⟨isTy_rp g1 r1 k1.1, r, G1, _, hs.le l1, g1, k1.2, fun ts G2 H2 vs k2 l2 g2 r2 => ?_⟩
    exact ⟨t, ts, G2, R, r1.le l2, r2, g2, k2, f.le (l1.trans l2)⟩⟩
end
def omAppend : OM := fun t ts G R => ∃ a xs u, t = .ref a ∧ ts = [u] ∧ G a = some (.lst xs) ∧ xs.length < sizeLine ∧ R .non (put G a (.lst (xs ++ [u])))
theorem mt_oAppend : MtR X "list.append" (liB X.K omAppend) := MtR.imp (r := rAppend) mt_append fun x vs H Q h => by
  obtain ⟨t, ts, G, R, rx, rv, hg, ⟨a, xs, u, rfl, rfl, h1, hz, k⟩, f⟩ := h
  cases rx
  obtain ⟨v, r, rfl, r1, r2⟩ := rv
  cases r2
  obtain ⟨ws, e, rw⟩ := lst_of hg h1
  exact ⟨a, ws, v, rfl, rfl, e, by rw [rw.length]; exact hz, f.wrL hg h1 k (rw.append (Rps.one r1)) rfl⟩
def omExtend : OM := fun t ts G R => ∃ a b xs ys, t = .ref a ∧ ts = [.ref b] ∧ G a = some (.lst xs) ∧ G b = some (.lst ys) ∧ xs.length + ys.length ≤ sizeLine ∧ R .non (put G a (.lst (xs ++ ys)))
theorem mt_oExtend : MtR X "list.extend" (liB X.K omExtend) := MtR.imp (r := rExtend) mt_extend fun x vs H Q h => by
  obtain ⟨t, ts, G, R, rx, rv, hg, ⟨a, b, xs, ys, rfl, rfl, h1, h2, hz, k⟩, f⟩ := h
  cases rx
  obtain ⟨v, r, rfl, r1, r2⟩ := rv
  cases r2
  cases r1
  obtain ⟨ws, e, rw⟩ := lst_of hg h1
  obtain ⟨zs, e2, rz⟩ := lst_of hg h2
  exact ⟨a, b, ws, zs, rfl, rfl, e, e2, by rw [rw.length, rz.length]; exact hz, f.wrL hg h1 k (rw.append rz) rfl⟩
theorem Rps.last : ∀ {K : PySem.W.Frag} {H : Hp} {vs : List V} {ts : List T} {u : T}, Rps K H vs (ts ++ [u]) → ∃ ws v, vs = ws ++ [v] ∧ Rps K H ws ts ∧ Rp K H v u
  | K, H, vs, [], u, h => by
    obtain ⟨v, r, rfl, r1, r2⟩ := h
    cases r2
    exact ⟨[], v, rfl, rfl, r1⟩
  | K, H, vs, t :: ts, u, h => by
    obtain ⟨v, r, rfl, r1, r2⟩ := h
    obtain ⟨ws, w, rfl, r3, r4⟩ := Rps.last r2
    exact ⟨v :: ws, w, rfl, ⟨v, ws, rfl, r1, r3⟩, r4⟩
def omPop : OM := fun t ts G R => ∃ a xs u, t = .ref a ∧ ts = [] ∧ G a = some (.lst (xs ++ [u])) ∧ R u (put G a (.lst xs))
theorem mt_oPop : MtR X "list.pop" (liB X.K omPop) := MtR.imp (r := rPop) mt_pop fun x vs H Q h => by
  obtain ⟨t, ts, G, R, rx, rv, hg, ⟨a, xs, u, rfl, rfl, h1, k⟩, f⟩ := h
  cases rx
  cases rv
  obtain ⟨ws, e, rw⟩ := lst_of hg h1
  obtain ⟨zs, v, rfl, r1, r2⟩ := rw.last
  refine ⟨a, _, v, rfl, rfl, e, by simp, ?_⟩
  rw [List.dropLast_concat]
  exact f.wrL hg h1 k r1 r2
end
end Mi

set_option Elab.async false
set_option linter.all false
set_option maxRecDepth 100000
namespace Mi
open PySem L2
section
variable {X : Cx} {a b c e : Expr} {es : List Expr} {ma mb mc m : ME} {mas : MA} {pos : Pos} {st : Stmt} {rest body : List Stmt} {s1 s2 : MS} {tA : MT}

/-! ### blocks -/
def msNext : MS := fun M r G => M.nx r G
def msSeq (s t : MS) : MS := fun M r G => s { M with nx := t M } r G
theorem ss_nil : OSs X [] msNext := ⟨pss_nil.imp fun D σ H q => by
  obtain ⟨r, G, M, hs, hg, k, f, _⟩ := q
  exact f r G σ H k (Le.refl H) hs hg⟩
theorem ss_cons (h1 : OS X st s1) (h2 : OSs X rest s2) : OSs X (st :: rest) (msSeq s1 s2) := ⟨(pss_cons h1.ok h2.ok).imp fun D σ H q => by
  obtain ⟨r, G, M, hs, hg, k, f1, f2, f3, f4⟩ := q
  exact ⟨r, G, { M with nx := s2 M }, hs, hg, k, fun r' G' σ' H' k1 l1 rs g1 => ⟨r', G', M, rs, g1, k1, f1.le l1, f2.le l1, f3.le l1, f4.le l1⟩, f2, f3, f4⟩⟩
theorem ss_one (h1 : OS X st s1) : OSs X [st] s1 := ⟨pss_one h1.ok⟩
theorem s_pass : OS X (.Pass pos) msNext := ⟨ps_pass.imp fun D σ H q => by
  obtain ⟨r, G, M, hs, hg, k, f, _⟩ := q
  exact f r G σ H k (Le.refl H) hs hg⟩
def msCont : MS := fun M r G => M.ct r G
theorem s_cont : OS X (.Continue pos) msCont := ⟨ps_continue.imp fun D σ H q => by
  obtain ⟨r, G, M, hs, hg, k, _, _, _, f⟩ := q
  exact f r G σ H k (Le.refl H) hs hg⟩
def msBreak : MS := fun M r G => M.bk r G
theorem s_break : OS X (.Break pos) msBreak := ⟨ps_break.imp fun D σ H q => by
  obtain ⟨r, G, M, hs, hg, k, _, _, f, _⟩ := q
  exact f r G σ H k (Le.refl H) hs hg⟩
def msNever : MS := fun _ _ _ => False
theorem ss_never {sts : List Stmt} : OSs X sts msNever := ⟨pss_never.imp fun D σ H q => by
  obtain ⟨r, G, M, hs, hg, k, _⟩ := q
  exact k⟩
def msExpr (m : ME) : MS := fun M r G => m r G fun _ G1 => M.nx r G1
theorem s_expr (h : OE X e m) (hs : swapsWith e none pos.line X.env = pure false := by rfl) : OS X (.Expr e pos) (msExpr m) := ⟨(ps_expr h.ok hs).imp fun D σ H q => by
  obtain ⟨r, G, M, hs, hg, k, f, _⟩ := q
  exact ⟨r, G, _, hs, hg, k, fun t G1 H1 v k1 l1 g1 r1 => f r G1 σ H1 k1 l1 (hs.le l1) g1⟩⟩
def msRet (m : ME) : MS := fun M r G => m r G M.rt
theorem s_ret (h : OE X e m) : OS X (.Return (some e) pos) (msRet m) := ⟨(ps_ret h.ok).imp fun D σ H q => by
  obtain ⟨r, G, M, hs, hg, k, _, f, _⟩ := q
  exact ⟨r, G, _, hs, hg, k, f⟩⟩
def msIf (t : MT) (s u : MS) : MS := fun M r G => t r G fun c G1 => if c = true then s M r G1 else u M r G1
theorem s_if {x y : List Stmt} (hc : OT X c tA) (h1 : OSs X x s1) (h2 : OSs X y s2) : OS X (.If c x y pos) (msIf tA s1 s2) := ⟨(ps_if hc.ok h1.ok h2.ok).imp fun D σ H q => by
  obtain ⟨r, G, M, hs, hg, k, f1, f2, f3, f4⟩ := q
  refine ⟨r, G, _, hs, hg, k, fun b G1 H1 k1 l1 g1 => ?_⟩
  cases b with
  | true => exact iteT ⟨r, G1, M, hs.le l1, g1, by simpa using k1, f1.le l1, f2.le l1, f3.le l1, f4.le l1⟩
  | false => exact iteF ⟨r, G1, M, hs.le l1, g1, by simpa using k1, f1.le l1, f2.le l1, f3.le l1, f4.le l1⟩⟩

/-! ### targets -/
abbrev MG := T → Env → Gp → (Env → Gp → Prop) → Prop
abbrev MGs := List T → Env → Gp → (Env → Gp → Prop) → Prop
def liG (K : PySem.W.Frag) (m : MG) : TG := fun v σ H Q => ∃ t r G N, Rp K H v t ∧ RS K H σ r ∧ RG K H G ∧ m t r G N ∧ GivesN K H N Q
def liGs (K : PySem.W.Frag) (m : MGs) : TGs := fun v σ H Q => ∃ t r G N, Rps K H v t ∧ RS K H σ r ∧ RG K H G ∧ m t r G N ∧ GivesN K H N Q
structure OG (X : Cx) (e : Expr) (m : MG) : Prop where
  ok : PG X e (liG X.K m)
structure OGs (X : Cx) (e : List Expr) (m : MGs) : Prop where
  ok : PGs X e (liGs X.K m)
theorem _root_.L2.PG.imp {X : Cx} {e : Expr} {t t' : TG} (h : PG X e t) (f : ∀ v σ H Q, t' v σ H Q → t v σ H Q) : PG X e t' := ⟨fun pins s σ H v u Q I r q => h.run pins s σ H v u Q I r (f v σ H Q q)⟩
theorem _root_.L2.PGs.imp {X : Cx} {e : List Expr} {t t' : TGs} (h : PGs X e t) (f : ∀ v σ H Q, t' v σ H Q → t v σ H Q) : PGs X e t' := ⟨fun pins s σ H v u Q I r q => h.run pins s σ H v u Q I r (f v σ H Q q)⟩
def mgName (i : Nat) : MG := fun t r G N => N (r.set i (some t)) G
theorem g_name (i : Nat) {x : Str} (h : PG X (.Name x pos) (gName i)) : OG X (.Name x pos) (mgName i) := ⟨h.imp fun v σ H Q q => by
  obtain ⟨t, r, G, N, rv, hs, hg, k, f⟩ := q
  exact f _ G _ H k (Le.refl H) (hs.set i rv) hg⟩
def mgNil : MGs := fun ts r G N => ts = [] ∧ N r G
def mgCons (m : MG) (ms : MGs) : MGs := fun ts r G N => ∃ t us, ts = t :: us ∧ m t r G fun r1 G1 => ms us r1 G1 N
theorem gs_nil : OGs X [] mgNil := ⟨pgs_nil.imp fun v σ H Q q => by
  obtain ⟨t, r, G, N, rv, hs, hg, ⟨rfl, k⟩, f⟩ := q
  cases rv
  exact ⟨rfl, f r G σ H k (Le.refl H) hs hg⟩⟩
theorem gs_cons {m : MG} {ms : MGs} (h1 : OG X e m) (h2 : OGs X es ms) (hs : (assignEach (e :: es) X.env).map (·.2) = assign e X.env :: (assignEach es X.env).map (·.2) := by rfl) : OGs X (e :: es) (mgCons m ms) :=
  ⟨(pgs_cons h1.ok h2.ok hs).imp fun v σ H Q q => by
    obtain ⟨t, r, G, N, rv, hs, hg, ⟨t1, us, rfl, k⟩, f⟩ := q
    obtain ⟨v1, vr, rfl, r1, r2⟩ := rv
    refine ⟨v1, vr, rfl, t1, r, G, _, r1, hs, hg, k, fun r' G' σ' H' k1 l1 hs1 g1 => ?_⟩
    exact ⟨us, r', G', N, r2.le l1, hs1, g1, k1, f.le l1⟩⟩
/-- (a, b, ..) = a tuple of that length -/
def mgTup (n : Nat) (ms : MGs) : MG := fun t r G N => ∃ ts, (t = .tup ts ∨ t = .pr ts) ∧ ts.length = n ∧ ms ts r G N
theorem two_sq {K : PySem.W.Frag} {H : Hp} {v : V} {t : T} {ts : List T} (e : t = .tup ts ∨ t = .pr ts) (h : Rp K H v t) : ∃ p vs, v = .ref p ∧ SqT K H p vs ∧ ts.length ≤ sizeLine ∧ Rps K H vs ts := by
  rcases e with rfl | rfl
  · exact h.tupSq
  · exact h.prSq
theorem g_tup {k n : Nat} {ms : MGs} (hc : X.calm = true) (h : OGs X es ms) (hn : (assignEach es X.env).length = n := by rfl) (hst : (assignEach es X.env).findIdx? (·.1) = none := by rfl) : OG X (.Tuple es k pos) (mgTup n ms) :=
  ⟨(pg_tup hc h.ok hn hst).imp fun v σ H Q q => by
    obtain ⟨t, r, G, N, rv, hs, hg, ⟨ts, et, hl, k⟩, f⟩ := q
    obtain ⟨p, vs, rfl, hq, hz, rv⟩ := two_sq et rv
    exact ⟨p, vs, rfl, hq, by rw [rv.length]; exact hl, ts, r, G, N, rv, hs, hg, k, f⟩⟩
/-- o[i] = v, by values -/
abbrev OSt := T → T → T → Gp → (Gp → Prop) → Prop
def liSt (K : PySem.W.Frag) (o : OSt) : TSet := fun x y v H Q => ∃ s t u G R, Rp K H x s ∧ Rp K H y t ∧ Rp K H v u ∧ RG K H G ∧ o s t u G R ∧ ∀ G' H', R G' → Le H H' → RG K H' G' → Q H'
theorem _root_.L2.PSet.imp {X : Cx} {r r' : TSet} (h : PSet X r) (k : ∀ x y v H Q, r' x y v H Q → r x y v H Q) : PSet X r' := fun pins s σ H o i v ov iv u Q I a b c q => h pins s σ H o i v ov iv u Q I a b c (k o i v H Q q)
def mgSub (mo mi : ME) (o : OSt) : MG := fun u r G N => mo r G fun s G1 => mi r G1 fun t G2 => o s t u G2 fun G3 => N r G3
theorem g_sub {o i : Expr} {mo mi : ME} {t : OSt} (ho : OE X o mo) (hi : OE X i mi) (hs : PSet X (liSt X.K t))
    (ha : ∀ v, assign (.Subscript o i pos) X.env v = (do
      let ov ← holding [v] (eval o X.env)
      let iv ← holding [v, ov] (eval i X.env)
      standAt pos
      holding [v, ov, iv] (setItem ov iv v)
      release [v, ov, iv] []) := by intro _; rfl) : OG X (.Subscript o i pos) (mgSub mo mi t) :=
  ⟨(pg_sub ho.ok hi.ok hs ha).imp fun v σ H Q q => by
    obtain ⟨u, r, G, N, rv, hs, hg, k, f⟩ := q
    refine ⟨r, G, _, hs, hg, k, fun s G1 H1 x k1 l1 g1 r1 => ?_⟩
    refine ⟨r, G1, _, hs.le l1, g1, k1, fun t' G2 H2 y k2 l2 g2 r2 => ?_⟩
    exact ⟨s, t', u, G2, _, r1.le l2, r2, rv.le (l1.trans l2), g2, k2, fun G3 H3 k3 l3 g3 => f r G3 σ H3 k3 (l1.trans (l2.trans l3)) (hs.le (l1.trans (l2.trans l3))) g3⟩⟩
def osLst : OSt := fun s t u G R => ∃ a i xs j, s = .ref a ∧ t = .int i ∧ G a = some (.lst xs) ∧ ixN xs.length i = some j ∧ R (put G a (.lst (xs.set j u)))
theorem set_osLst : PSet X (liSt X.K osLst) := PSet.imp (r := rSetL) set_list fun x y v H Q h => by
  obtain ⟨s, t, u, G, R, rx, ry, rv, hg, ⟨a, i, xs, j, rfl, rfl, h1, hj, k⟩, f⟩ := h
  cases rx; cases ry
  obtain ⟨vs, e, r⟩ := lst_of hg h1
  have l := Le.wr (o := .lst (vs.set j v)) (hg.notup h1)
  exact ⟨a, vs, i, j, rfl, rfl, e, by rw [r.length]; exact hj, f _ _ k l (hg.wr (hg.notup h1) ⟨_, upd_same, (r.set j rv).le l⟩)⟩

/-! ### assignments -/
def msAsg (m : ME) (g : MG) : MS := fun M r G => m r G fun t G1 => g t r G1 M.nx
theorem asg_li {K : PySem.W.Frag} {m : ME} {g : MG} {D : Ends} {σ : St} {H : Hp} (h : liS K (msAsg m g) D σ H) : tAsg (liE K m) (liG K g) D σ H := by
  obtain ⟨r, G, M, hs, hg, k, f, _⟩ := h
  refine ⟨r, G, _, hs, hg, k, fun t G1 H1 v k1 l1 g1 r1 => ?_⟩
  exact ⟨t, r, G1, _, r1, hs.le l1, g1, k1, f.le l1⟩
theorem s_asg {tg : Expr} {g : MG} (he : OE X e m) (hg : OG X tg g) (hs : swapsWithSole [tg] e pos.line X.env = pure false := by rfl) (hw : swappedStores [tg] e X.env = pure none := by rfl)
    (h1 : (assignEach [tg] X.env).map (·.2) = [assign tg X.env] := by rfl) : OS X (.Assign [tg] e pos) (msAsg m g) := ⟨(ps_asg he.ok hg.ok hs hw h1).imp fun _ _ _ q => asg_li q⟩
theorem gname_li {K : PySem.W.Frag} {i : Nat} {v : V} {σ : St} {H : Hp} {Q : St → Hp → Prop} (h : liG K (mgName i) v σ H Q) : gName i v σ H Q := by
  obtain ⟨t, r, G, N, rv, hs, hg, k, f⟩ := h
  exact f _ G _ H k (Le.refl H) (hs.set i rv) hg
theorem s_set {i : Nat} {x : Str} {pos' : Pos} (hN : X.N.Nodup) (hi : X.N[i]? = some x) (hx : Loc X.env.scope x) (he : OE X e m) (hs : swapsWith e (some (.Name x pos')) pos.line X.env = pure false := by rfl)
    (hf : X.fn x = true ∨ X.env.scope.names.lookup x = some .local := by first | exact .inl rfl | exact .inr rfl | assumption) : OS X (.Assign [.Name x pos'] e pos) (msAsg m (mgName i)) :=
  ⟨(ps_set hN hi hx he.ok hs hf).imp fun D σ H q => by
    obtain ⟨r, G, M, hs, hg, k, f, _⟩ := q
    refine ⟨r, G, _, hs, hg, k, fun t G1 H1 v k1 l1 g1 r1 => ?_⟩
    exact f _ G1 _ H1 k1 l1 ((hs.le l1).set i r1) g1⟩
def msPar (i j : Nat) (k : MA) : MS := fun M r G => k r G fun ts G1 => ∃ s t, ts = [s, t] ∧ M.nx ((r.set i (some s)).set j (some t)) G1
theorem s_par {i j : Nat} {x y : Str} {px py pt : Pos} {kt k2 pt2} (hc : X.calm = true) (hN : X.N.Nodup) (hi : X.N[i]? = some x) (hj : X.N[j]? = some y) (hij : i ≠ j)
    (hx : X.env.scope.names.lookup x = some .local) (hy : X.env.scope.names.lookup y = some .local) (ha : OA X [a, b] mas)
    (hw : swappedStores [.Tuple [.Name x px, .Name y py] kt pt] (.Tuple [a, b] k2 pt2) X.env = pure (some [x, y]) := by rfl)
    (hs : swapsWithSole [.Tuple [.Name x px, .Name y py] kt pt] (.Tuple [a, b] k2 pt2) pos.line X.env = pure false := by rfl) :
    OS X (.Assign [.Tuple [.Name x px, .Name y py] kt pt] (.Tuple [a, b] k2 pt2) pos) (msPar i j mas) :=
  ⟨(ps_par hc hN hi hj hij hx hy ha.ok hw hs).imp fun D σ H q => by
    obtain ⟨r, G, M, hs, hg, k, f, _⟩ := q
    refine ⟨r, G, _, hs, hg, k, fun ts G1 H1 vs k1 l1 g1 r1 => ?_⟩
    obtain ⟨s, t, rfl, k2⟩ := k1
    obtain ⟨v, q1, rfl, a1, w, q2, rfl, a2, e2⟩ := r1
    cases e2
    exact ⟨v, w, rfl, f _ G1 _ H1 k2 l1 (((hs.le l1).set i a1).set j a2) g1⟩⟩

/-! ### loops -/
/-- on to a state of which some may be forgotten -/
def fwd (W : Env → Gp → Prop) : Env → Gp → Prop := fun r' G' => ∃ r G, SubE r r' ∧ Sub G G' ∧ W r G
theorem fwd.of {W : Env → Gp → Prop} {r : Env} {G : Gp} (h : W r G) : fwd W r G := ⟨r, G, SubE.refl r, Sub.refl G, h⟩
def msWhile (t : MT) (s : MS) : MS := fun M r G => ∃ W : Nat → Env → Gp → Prop, (∃ n, W n r G) ∧ ∀ n r G, W n r G → t r G fun c G1 =>
  if c = true then s { M with nx := fwd fun r' G' => ∃ n', n' < n ∧ W n' r' G', ct := fwd fun r' G' => ∃ n', n' < n ∧ W n' r' G', bk := M.nx } r G1 else M.nx r G1
theorem s_while (hp : PassesOwn (model X.prog X.w) X.A X.env X.xe) (hc : OT X c tA) (hb : OSs X body s1) : OS X (.While c body [] pos) (msWhile tA s1) :=
  ⟨(ps_while hp hc.ok hb.ok).imp fun D σ H q => by
    obtain ⟨r, G, M, hs, hg, ⟨W, ⟨n0, w0⟩, turn⟩, f1, f2, f3, f4⟩ := q
    refine ⟨fun n σ' H' => ∃ r' G', RS X.K H' σ' r' ∧ RG X.K H' G' ∧ Le H H' ∧ W n r' G', ⟨n0, r, G, hs, hg, Le.refl H, w0⟩, fun n σ1 H1 ⟨r1, G1, hs1, hg1, l1, w1⟩ => ?_⟩
    refine ⟨r1, G1, _, hs1, hg1, turn n r1 G1 w1, fun b G2 H2 k2 l2 g2 => ?_⟩
    have back : GivesN X.K H2 (fwd fun r' G' => ∃ n', n' < n ∧ W n' r' G') (fun σ' H' => ∃ n', n' < n ∧ ∃ r' G', RS X.K H' σ' r' ∧ RG X.K H' G' ∧ Le H H' ∧ W n' r' G') := fun r3 G3 σ3 H3 ⟨r4, G4, e1, e2, n', hn, w3⟩ l3 hs3 hg3 =>
      ⟨n', hn, r4, G4, hs3.sub e1, hg3.sub e2, l1.trans (l2.trans l3), w3⟩
    cases b with
    | true =>
      refine iteT ⟨_, fun σ' H' z => z, ?_⟩
      rw [if_pos rfl] at k2
      exact ⟨r1, G2, _, hs1.le l2, g2, k2, back, f2.le (l1.trans l2), f1.le (l1.trans l2), back⟩
    | false =>
      rw [if_neg Bool.false_ne_true] at k2
      exact iteF (f1 r1 G2 σ1 H2 k2 (l1.trans l2) (hs1.le l2) g2)⟩

/-! ### what is walked -/
structure MIt where
  its : List T
  held : List (Addr × List T)
def Held (G : Gp) (l : List (Addr × List T)) : Prop := ∀ p ∈ l, G p.1 = some (.lst p.2)
abbrev MI := Env → Gp → (MIt → Gp → Prop) → Prop
/-- the iterator gives these items while what is held stands -/
def Walks (K : PySem.W.Frag) (H0 : Hp) (J : It) (m : MIt) : Prop := ∀ H G, Le H0 H → RG K H G → Held G m.held →
  (∀ i t, m.its[i]? = some t → J.go i H ∧ ∀ x H', J.yld i H x H' → Le H H' ∧ RG K H' G ∧ Rp K H' x t) ∧ J.stop m.its.length H
def liI (K : PySem.W.Frag) (w : MI) : TI := fun σ H R => ∃ r G N, RS K H σ r ∧ RG K H G ∧ w r G N ∧ ∀ m G' H' J, N m G' → Le H H' → RG K H' G' → Walks K H' J m → R J H'
structure OI (X : Cx) (tg iter : Expr) (w : MI) : Prop where
  ok : PI X tg iter (liI X.K w)
theorem _root_.L2.PI.imp {X : Cx} {tg iter : Expr} {w w' : TI} (h : PI X tg iter w) (f : ∀ σ H R, w' σ H R → w σ H R) : PI X tg iter w' := ⟨fun pins s σ H R I q => h.run pins s σ H R I (f σ H R q)⟩
def msFor (w : MI) (g : MG) (s : MS) : MS := fun M r G => w r G fun m G1 => ∃ W : Nat → Env → Gp → Prop, W 0 r G1 ∧ (∀ i r G, W i r G → Held G m.held) ∧
  (∀ i t r G, m.its[i]? = some t → W i r G → g t r G (s { M with nx := fwd (W (i + 1)), ct := fwd (W (i + 1)), bk := M.nx })) ∧ ∀ r G, W m.its.length r G → M.nx r G
theorem s_for {iter tg : Expr} {w : MI} {g : MG} (hp : PassesOwn (model X.prog X.w) X.A X.env X.xe) (hc : X.calm = true) (hi : OI X tg iter w) (hg : OG X tg g) (hb : OSs X body s1)
    (hs : ∀ x, foldedSetIterable iter X.env x = pure x := by intro _; rfl) : OS X (.For tg iter body [] pos) (msFor w g s1) :=
  ⟨(ps_for hp hc hi.ok hg.ok hb.ok hs).imp fun D σ H q => by
    obtain ⟨r, G, M, hs, hg, k, f1, f2, f3, f4⟩ := q
    refine ⟨r, G, _, hs, hg, k, fun m G1 H1 J k1 l1 g1 hw => ?_⟩
    obtain ⟨W, w0, wh, turn, done⟩ := k1
    refine ⟨fun i n σ' H' => n = m.its.length - i ∧ i ≤ m.its.length ∧ ∃ r' G', RS X.K H' σ' r' ∧ RG X.K H' G' ∧ Le H1 H' ∧ W i r' G', ⟨m.its.length, by simp, Nat.zero_le _, r, G1, hs.le l1, g1, Le.refl H1, w0⟩, ?_⟩
    rintro i n σ2 H2 ⟨rfl, hi, r2, G2, hs2, g2, l2, w2⟩
    obtain ⟨hgo, hst⟩ := hw H2 G2 l2 g2 (wh i r2 G2 w2)
    by_cases hlt : i < m.its.length
    · obtain ⟨go, yl⟩ := hgo i m.its[i] (by simp [hlt])
      refine .inr ⟨go, _, fun σ' H' z => ⟨m.its.length - (i + 1), by omega, z⟩, fun x H3 y => ?_⟩
      obtain ⟨l3, g3, r3⟩ := yl x H3 y
      refine ⟨m.its[i], r2, G2, _, r3, hs2.le l3, g3, turn i _ r2 G2 (by simp [hlt]) w2, fun r4 G4 σ4 H4 k4 l4 hs4 g4 => ?_⟩
      have la : Le H1 H4 := l2.trans (l3.trans l4)
      have back : GivesN X.K H4 (fwd (W (i + 1))) (fun σ' H' => m.its.length - (i + 1) = m.its.length - (i + 1) ∧ i + 1 ≤ m.its.length ∧ ∃ r' G', RS X.K H' σ' r' ∧ RG X.K H' G' ∧ Le H1 H' ∧ W (i + 1) r' G') := fun r5 G5 σ5 H5 ⟨r6, G6, e1, e2, w6⟩ l5 hs5 g5 =>
        ⟨rfl, hlt, r6, G6, hs5.sub e1, g5.sub e2, la.trans l5, w6⟩
      exact ⟨r4, G4, _, hs4, g4, k4, back, f2.le (l1.trans la), f1.le (l1.trans la), back⟩
    · have e : i = m.its.length := by omega
      subst e
      exact .inl ⟨hst, f1 r2 G2 σ2 H2 (done r2 G2 w2) (l1.trans l2) hs2 g2⟩⟩
end
end Mi

set_option Elab.async false
set_option linter.all false
set_option maxRecDepth 100000
namespace Mi
open PySem L2
/-! ### a comprehension's own names -/
def wipeT (r : Env) : List Nat → Env
  | [] => r
  | v :: vs => (wipeT r vs).set v none
theorem wipeT_length (r : Env) : ∀ vs : List Nat, (wipeT r vs).length = r.length
  | [] => rfl
  | v :: vs => by unfold wipeT; rw [List.length_set, wipeT_length r vs]
theorem wipe_at (σ : St) : ∀ (vs : List Nat) (j : Nat), (wipe σ vs)[j]? = if j ∈ vs ∧ j < σ.length then some none else σ[j]?
  | [], j => by rw [if_neg (by simp)]; rfl
  | v :: vs, j => by
    show ((wipe σ vs).set v none)[j]? = _
    by_cases e : v = j
    · subst e
      by_cases h : v < σ.length
      · rw [List.getElem?_set_self (by rw [wipe_length]; exact h), if_pos ⟨by simp, h⟩]
      · rw [List.getElem?_eq_none (by simp [wipe_length]; omega), if_neg (fun z => h z.2), List.getElem?_eq_none (by omega)]
    · rw [List.getElem?_set_ne e, wipe_at σ vs j]
      have : (j ∈ v :: vs ∧ j < σ.length) ↔ (j ∈ vs ∧ j < σ.length) := by
        simp only [List.mem_cons]
        constructor
        · rintro ⟨z | z, h⟩
          · exact absurd z.symm e
          · exact ⟨z, h⟩
        · rintro ⟨z, h⟩; exact ⟨.inr z, h⟩
      simp only [this]
theorem wipeT_at (r : Env) : ∀ (vs : List Nat) (j : Nat), (wipeT r vs)[j]? = if j ∈ vs ∧ j < r.length then some none else r[j]?
  | [], j => by rw [if_neg (by simp)]; rfl
  | v :: vs, j => by
    show ((wipeT r vs).set v none)[j]? = _
    by_cases e : v = j
    · subst e
      by_cases h : v < r.length
      · rw [List.getElem?_set_self (by rw [wipeT_length]; exact h), if_pos ⟨by simp, h⟩]
      · rw [List.getElem?_eq_none (by simp [wipeT_length]; omega), if_neg (fun z => h z.2), List.getElem?_eq_none (by omega)]
    · rw [List.getElem?_set_ne e, wipeT_at r vs j]
      have : (j ∈ v :: vs ∧ j < r.length) ↔ (j ∈ vs ∧ j < r.length) := by
        simp only [List.mem_cons]
        constructor
        · rintro ⟨z | z, h⟩
          · exact absurd z.symm e
          · exact ⟨z, h⟩
        · rintro ⟨z, h⟩; exact ⟨.inr z, h⟩
      simp only [this]
theorem RS.wipe {K : PySem.W.Frag} {H : Hp} {σ : St} {r : Env} (h : RS K H σ r) (vs : List Nat) : RS K H (L2.wipe σ vs) (wipeT r vs) := by
  refine ⟨by rw [wipeT_length, wipe_length]; exact h.1, fun i t e => ?_⟩
  rw [wipeT_at] at e
  rw [wipe_at]
  by_cases c : i ∈ vs ∧ i < r.length
  · rw [if_pos c] at e; cases e
  · rw [if_neg c] at e
    rw [if_neg (by rw [← h.1]; exact c)]
    exact h.2 i t e
theorem wipe_set {σ : St} {vs : List Nat} {i : Nat} {x : Option V} (h : i ∈ vs) : wipe (σ.set i x) vs = wipe σ vs := by
  apply List.ext_getElem?
  intro j
  rw [wipe_at, wipe_at, List.length_set]
  by_cases c : j ∈ vs ∧ j < σ.length
  · rw [if_pos c, if_pos c]
  · rw [if_neg c, if_neg c]
    by_cases e : i = j
    · subst e
      have : ¬ i < σ.length := fun z => c ⟨h, z⟩
      rw [List.getElem?_eq_none (by simp; omega), List.getElem?_eq_none (by omega)]
    · rw [List.getElem?_set_ne e]

section
variable {X : Cx} {e : Expr} {es : List Expr} {pos : Pos}
/-- a target that stores at the places vs alone -/
def Gimp (K : PySem.W.Frag) (m : MG) (vs : List Nat) (g : TG) : Prop :=
  ∀ v σ H Q t r G N, Rp K H v t → RS K H σ r → RG K H G → m t r G N → (∀ r' G' σ' H', N r' G' → Le H H' → RS K H' σ' r' → RG K H' G' → wipe σ' vs = wipe σ vs → Q σ' H') → g v σ H Q
structure OGv (X : Cx) (e : Expr) (m : MG) (vs : List Nat) (g : TG) : Prop where
  ok : PG X e g
  imp : Gimp X.K m vs g
structure OGvs (X : Cx) (e : List Expr) (m : MGs) (vs : List Nat) (g : TGs) : Prop where
  ok : PGs X e g
  imp : ∀ v σ H Q t r G N, Rps X.K H v t → RS X.K H σ r → RG X.K H G → m t r G N → (∀ r' G' σ' H', N r' G' → Le H H' → RS X.K H' σ' r' → RG X.K H' G' → wipe σ' vs = wipe σ vs → Q σ' H') → g v σ H Q
theorem gv_name (i : Nat) {x : Str} {vs : List Nat} (h : PG X (.Name x pos) (gName i)) (hi : i ∈ vs) : OGv X (.Name x pos) (mgName i) vs (gName i) :=
  ⟨h, fun v σ H Q t r G N rv hs hg k f => f _ G _ H k (Le.refl H) (hs.set i rv) hg (wipe_set hi)⟩
theorem gvs_nil {vs : List Nat} : OGvs X [] mgNil vs gNil := ⟨pgs_nil, fun v σ H Q t r G N rv hs hg k f => by
  obtain ⟨rfl, k⟩ := k
  cases rv
  exact ⟨rfl, f r G σ H k (Le.refl H) hs hg rfl⟩⟩
theorem gvs_cons {m : MG} {ms : MGs} {vs : List Nat} {g : TG} {u : TGs} (h1 : OGv X e m vs g) (h2 : OGvs X es ms vs u) (hs : (assignEach (e :: es) X.env).map (·.2) = assign e X.env :: (assignEach es X.env).map (·.2) := by rfl) : OGvs X (e :: es) (mgCons m ms) vs (gCons g u) :=
  ⟨pgs_cons h1.ok h2.ok hs, fun v σ H Q t r G N rv hs hg k f => by
    obtain ⟨t1, us, rfl, k⟩ := k
    obtain ⟨v1, vr, rfl, r1, r2⟩ := rv
    refine ⟨v1, vr, rfl, h1.imp v1 σ H _ t1 r G _ r1 hs hg k fun r' G' σ' H' k1 l1 hs1 g1 w1 => ?_⟩
    exact h2.imp vr σ' H' _ us r' G' N (r2.le l1) hs1 g1 k1 fun r3 G3 σ3 H3 k3 l3 hs3 g3 w3 => f r3 G3 σ3 H3 k3 (l1.trans l3) hs3 g3 (w3.trans w1)⟩
theorem gv_tup {k n : Nat} {ms : MGs} {vs : List Nat} {u : TGs} (hc : X.calm = true) (h : OGvs X es ms vs u) (hn : (assignEach es X.env).length = n := by rfl) (hst : (assignEach es X.env).findIdx? (·.1) = none := by rfl) : OGv X (.Tuple es k pos) (mgTup n ms) vs (gTup X.K n u) :=
  ⟨pg_tup hc h.ok hn hst, fun v σ H Q t r G N rv hs hg k f => by
    obtain ⟨ts, et, hl, k⟩ := k
    obtain ⟨p, ws, rfl, hq, hz, rv⟩ := two_sq et rv
    exact ⟨p, ws, rfl, hq, by rw [rv.length]; exact hl, h.imp ws σ H Q ts r G N rv hs hg k f⟩⟩

/-! ### tests behind a for -/
structure OTs (X : Cx) (ifs : List Expr) (m : MT) : Prop where
  ok : PTs X ifs (liT X.K m)
def mtYes : MT := fun _ G R => R true G
theorem ots_nil : OTs X [] mtYes := by
  refine ⟨⟨fun pins s σ H Q I h => ?_⟩⟩
  obtain ⟨r, G, R, hs, hg, k, f⟩ := h
  exact pts_nil.run pins s σ H Q I (f true G H k (Le.refl H) hg)
theorem ots_one {c : Expr} {m : MT} (h : OT X c m) : OTs X [c] m := ⟨pts_one h.ok⟩

/-! ### [e for x in xs if t] -/
def fwdG (W : Gp → Prop) : Gp → Prop := fun G' => ∃ G, Sub G G' ∧ W G
theorem fwdG.of {W : Gp → Prop} {G : Gp} (h : W G) : fwdG W G := ⟨G, Sub.refl G, h⟩
def mLc (w : MI) (g : MG) (tt : MT) (te : ME) (vs : List Nat) : ME := fun r G R => w r G fun m G1 => ∀ D, G1 D = none → ∃ W : Nat → Gp → Prop, W 0 (put G1 D (.lst [])) ∧ (∀ i G, W i G → Held G m.held) ∧
  (∀ i t G, m.its[i]? = some t → W i G → g t (wipeT r vs) G fun r2 G2 => tt r2 G2 fun b G3 =>
    if b = true then te r2 G3 fun u G4 => ∃ acc, G4 D = some (.lst acc) ∧ acc.length < sizeLine ∧ fwdG (W (i + 1)) (put G4 D (.lst (acc ++ [u]))) else fwdG (W (i + 1)) G3) ∧ ∀ G, W m.its.length G → R (.ref D) G
theorem RCell.l {K : PySem.W.Frag} {H : Hp} {a : Addr} {vs : List V} {ts : List T} (h : H a = some (.lst vs)) (r : Rps K H vs ts) : RCell K H a (.lst ts) := ⟨vs, h, r⟩
theorem lc_li {wi : MI} {g : MG} {gt : TG} {tt : MT} {te : ME} {vs : List Nat} {K : PySem.W.Frag} (hg : Gimp K g vs gt) {σ : St} {H : Hp} {Q : VK} (h : liE K (mLc wi g tt te vs) σ H Q) : tLc (liI K wi) gt (liT K tt) (liE K te) vs σ H Q := by
  obtain ⟨r, G, R, hs, hg0, k, f⟩ := h
  refine ⟨r, G, _, hs, hg0, k, fun m G1 H1 J k1 l1 g1 hw => ?_⟩
  intro D hD
  obtain ⟨W, w0, wh, turn, done⟩ := k1 D (g1.fresh hD)
  have lD := Le.new (o := HO.lst []) hD
  refine ⟨fun i n H' => n = m.its.length - i ∧ i ≤ m.its.length ∧ ∃ G', RG K H' G' ∧ Le H1 H' ∧ W i G', ⟨m.its.length, by simp, Nat.zero_le _, _, g1.wr (nt_none hD) (RCell.l upd_same (ts := []) rfl), lD, w0⟩, ?_⟩
  rintro i n H2 ⟨rfl, hi, G2, g2, l2, w2⟩
  obtain ⟨hgo, hst⟩ := hw H2 G2 l2 g2 (wh i G2 w2)
  by_cases hlt : i < m.its.length
  · obtain ⟨go, yl⟩ := hgo i m.its[i] (by simp [hlt])
    refine .inr ⟨go, _, fun H' z => ⟨m.its.length - (i + 1), by omega, z⟩, fun x H3 y => ?_⟩
    obtain ⟨l3, g3, r3⟩ := yl x H3 y
    have la3 : Le H H3 := l1.trans (l2.trans l3)
    have back : ∀ H' G', Le H3 H' → RG K H' G' → fwdG (W (i + 1)) G' → m.its.length - (i + 1) = m.its.length - (i + 1) ∧ i + 1 ≤ m.its.length ∧ ∃ G', RG K H' G' ∧ Le H1 H' ∧ W (i + 1) G' := fun H' G' l' g' ⟨G6, e2, w6⟩ =>
      ⟨rfl, hlt, G6, g'.sub e2, l2.trans (l3.trans l'), w6⟩
    refine hg x _ H3 _ m.its[i] (wipeT r vs) G2 _ r3 ((hs.le la3).wipe vs) g3 (turn i _ G2 (by simp [hlt]) w2) fun r4 G4 σ4 H4 k4 l4 hs4 g4 e4 => ?_
    have ew : wipe (wipe σ vs) vs = wipe σ vs := by
      apply List.ext_getElem?
      intro j
      rw [wipe_at, wipe_at, wipe_length]
      by_cases c : j ∈ vs ∧ j < σ.length
      · rw [if_pos c, if_pos c]
      · rw [if_neg c]
    refine ⟨e4.trans ew, r4, G4, _, hs4, g4, k4, fun b G5 H5 k5 l5 g5 => ?_⟩
    cases b with
    | true =>
      rw [if_pos rfl] at k5
      refine iteT ⟨r4, G5, _, hs4.le l5, g5, k5, fun u G6 H6 v k6 l6 g6 r6 => ?_⟩
      obtain ⟨acc, ha, hz, k6⟩ := k6
      obtain ⟨ws, ew, rw⟩ := lst_of g6 ha
      have l7 := Le.wr (o := .lst (ws ++ [v])) (g6.notup ha)
      exact ⟨ws, ew, by rw [rw.length]; exact hz, back _ _ (l4.trans (l5.trans (l6.trans l7))) (g6.wr (g6.notup ha) (RCell.l upd_same ((rw.append (Rps.one r6)).le l7))) k6⟩
    | false =>
      rw [if_neg Bool.false_ne_true] at k5
      exact iteF (back _ _ (l4.trans l5) g5 k5)
  · have e : i = m.its.length := by omega
    subst e
    exact .inl ⟨hst, f (.ref D) G2 H2 (.ref D) (done G2 w2) (l1.trans l2) g2 rfl⟩
theorem o_lc {elt tg iter : Expr} {ifs : List Expr} {scope : Scope} {own : List (Str × Nat)} {wi : MI} {g : MG} {gt : TG} {tt : MT} {te : ME} (hc : X.calm = true) (hN : X.N.Nodup) (hi : OI X tg iter wi) (ok : BlkOk X.N X.env.scope scope own)
    (hg : ∀ (s : Shared) (H : Hp) (C : Addr) (cl : List (Str × Addr)) (fp : List Addr), OGv (X.blk s H scope (compEnvC scope cl C X.env) fp) tg g (own.map (·.2)) gt) (ht : ∀ (s : Shared) (H : Hp) (C : Addr) (cl : List (Str × Addr)) (fp : List Addr), OTs (X.blk s H scope (compEnvC scope cl C X.env) fp) ifs tt)
    (he : ∀ (s : Shared) (H : Hp) (C : Addr) (cl : List (Str × Addr)) (fp : List Addr), OE (X.blk s H scope (compEnvC scope cl C X.env) fp) elt te) (hs : ∀ x, foldedSetIterable iter X.env x = pure x := by intro _; rfl) :
    OE X (.ListComp elt [⟨tg, iter, ifs, 0⟩] scope pos) (mLc wi g tt te (own.map (·.2))) :=
  ⟨⟨fun pins s σ H Q I q => (pe_lc hc hN hi.ok ok (fun s H C cl fp => (hg s H C cl fp).ok) (fun s H C cl fp => (ht s H C cl fp).ok) (fun s H C cl fp => (he s H C cl fp).ok) hs).run pins s σ H Q I (lc_li (hg s H 0 [] []).imp q)⟩⟩
theorem s_setLc {i : Nat} {y : Str} {py : Pos} {elt tg iter : Expr} {ifs : List Expr} {scope : Scope} {own : List (Str × Nat)} {spos : Pos} {wi : MI} {g : MG} {gt : TG} {tt : MT} {te : ME} (hc : X.calm = true) (hN : X.N.Nodup) (hy : X.N[i]? = some y) (hyl : X.env.scope.names.lookup y = some .local)
    (hsw : swapsWith (.ListComp elt [⟨tg, iter, ifs, 0⟩] scope pos) (some (.Name y py)) spos.line X.env = pure true) (hi : OI X tg iter wi) (ok : BlkOk X.N X.env.scope scope own)
    (hg : ∀ (s : Shared) (H : Hp) (C : Addr) (cl : List (Str × Addr)) (fp : List Addr), OGv (X.blk s H scope (compEnvC scope cl C X.env) fp) tg g (own.map (·.2)) gt) (ht : ∀ (s : Shared) (H : Hp) (C : Addr) (cl : List (Str × Addr)) (fp : List Addr), OTs (X.blk s H scope (compEnvC scope cl C X.env) fp) ifs tt)
    (he : ∀ (s : Shared) (H : Hp) (C : Addr) (cl : List (Str × Addr)) (fp : List Addr), OE (X.blk s H scope (compEnvC scope cl C X.env) fp) elt te) (hs : ∀ x, foldedSetIterable iter X.env x = pure x := by intro _; rfl) :
    OS X (.Assign [.Name y py] (.ListComp elt [⟨tg, iter, ifs, 0⟩] scope pos) spos) (msAsg (mLc wi g tt te (own.map (·.2))) (mgName i)) :=
  ⟨⟨fun pins s σ H D I q => (ps_setLc hc hN hy hyl hsw hi.ok ok (fun s H C cl fp => (hg s H C cl fp).ok) (fun s H C cl fp => (ht s H C cl fp).ok) (fun s H C cl fp => (he s H C cl fp).ok) hs).run pins s σ H D I (by
    obtain ⟨r, G, M, hs, hg0, k, f, _⟩ := q
    refine lc_li (hg s H 0 [] []).imp ⟨r, G, _, hs, hg0, k, fun t G1 H1 v k1 l1 g1 r1 => ?_⟩
    exact f _ G1 _ H1 k1 l1 ((hs.le l1).set i r1) g1)⟩⟩
end
end Mi

set_option Elab.async false
set_option linter.all false
set_option maxRecDepth 100000
namespace Mi
open PySem L2
/-! ### what an iterator may be made of: a list, a tuple, a text -/
inductive Sk where
  | lst (a : Addr)
  | tup (a : Addr)
  | txt (z : Str) (t : Tok)
def signV (z : Str) : List V := z.cps.toList.map fun c => V.str ⟨#[c]⟩
def Sk.its (K : PySem.W.Frag) (H : Hp) : Sk → List V → Prop
  | .lst a, xs => SqL K H a xs
  | .tup a, xs => SqT K H a xs
  | .txt z _, xs => xs = signV z
def Sk.val : Sk → Value
  | .lst a => .ref a
  | .tup a => .ref a
  | .txt z t => .str z t
def Sk.obj : Sk → Obj
  | .lst a => { cls := .type "list_iterator", data := .fields #[.ref a, .int 0 0] }
  | .tup a => { cls := .type "tuple_iterator", data := .fields #[.ref a, .int 0 0] }
  | .txt z t => { cls := .type (strIterType z), data := .fields #[.str z t, .int 0 0] }
def Sk.at (h : Heap) (it : Addr) (i : Nat) : Sk → Prop
  | .lst a => h.IsListIter it a i
  | .tup a => h.IsTupleIter it a i
  | .txt z t => h.IsStrIter it (strIterType z) z t i
/-- the cells that it leans on -/
def Sk.fp : Sk → List Addr
  | .lst a => [a]
  | .tup a => [a]
  | .txt _ _ => []
theorem Sk.at_new {h : Heap} {it : Addr} (k : Sk) (e : h.get? it = some k.obj) : k.at h it 0 := by
  cases k <;> exact ⟨_, e, rfl, rfl⟩
theorem Sk.at_mono {h h' : Heap} {it : Addr} {i : Nat} {k : Sk} (x : k.at h it i) (e : ∀ o, h.get? it = some o → h'.get? it = some o) : k.at h' it i := by
  cases k <;> (obtain ⟨o, a, b, c⟩ := x; exact ⟨o, e o a, b, c⟩)
theorem Sk.at_obj {h : Heap} {it : Addr} {i : Nat} {k : Sk} (x : k.at h it i) : ∃ o, h.get? it = some o ∧ ∀ v, o.data ≠ .cell v := by
  cases k <;> (obtain ⟨o, a, b, c⟩ := x; exact ⟨o, a, fun v q => by rw [c] at q; cases q⟩)
section
variable {X : Cx} {pins : List (Addr × Obj)} {σ : St} {H : Hp} {s : Shared}
theorem Sk.its_inj {k : Sk} {xs ys : List V} (I : Inv X pins σ H s) (h : k.its X.K H xs) (h' : k.its X.K H ys) : xs = ys := by
  cases k with
  | lst a => exact I.list_inj h h'
  | tup a => exact I.tuple_inj h h'
  | txt z t => exact h.trans h'.symm
theorem Sk.lt {k : Sk} {xs : List V} (I : Inv X pins σ H s) (h : k.its X.K H xs) : ∀ b ∈ k.fp, b < s.heap.objs.size := by
  intro b hb
  cases k with
  | lst a =>
    have e : b = a := by simpa [Sk.fp] using hb
    subst e
    obtain ⟨its, _, p, _⟩ := I.list h
    exact p.lt
  | tup a =>
    have e : b = a := by simpa [Sk.fp] using hb
    subst e
    obtain ⟨its, _, p, _⟩ := I.tuple h
    exact p.lt
  | txt z t => simp [Sk.fp] at hb
theorem Sk.begins {k : Sk} {xs : List V} (I : Inv X pins σ H s) (h : k.its X.K H xs) : ∃ OK : Heap → Prop, Begins k.val k.obj OK ∧ OK s.heap := by
  cases k with
  | lst a =>
    obtain ⟨its, _, p, _⟩ := I.list h
    exact ⟨_, begins_list a its.toArray, p.isList⟩
  | tup a =>
    obtain ⟨its, _, p, _⟩ := I.tuple h
    exact ⟨_, begins_tuple a its.toArray, p⟩
  | txt z t => exact ⟨_, begins_text z t, trivial⟩
/-- the source's items drawn through the iterator at it -/
theorem Sk.draws {k : Sk} {xs : List V} {A : Around} {it : Addr} (hh : A.handled = none) (I : Inv X pins σ H s) (h : k.its X.K H xs) (hne : ∀ b ∈ k.fp, b ≠ it) :
    ∃ (n : Nat) (P : Nat → Value → Prop) (S : Nat → Heap → Prop), Draws X.prog X.w A it (it :: k.fp) n P S ∧ n = xs.length ∧ (∀ i, k.at s.heap it i → S i s.heap) ∧ (∀ i h', S i h' → k.at h' it i) ∧ ∀ i v, P i v → ∃ x, xs[i]? = some x ∧ RelV x v := by
  cases k with
  | lst a =>
    obtain ⟨its, rv, p, _⟩ := I.list h
    have hl := rv.length
    refine ⟨_, _, _, Draws.list hh it a (hne a (by simp [Sk.fp])) its.toArray, by simp [hl], fun i q => ⟨q, p.isList⟩, fun i h' q => q.1, fun i v q => ?_⟩
    have q' : its[i]? = some v := by simpa using q
    have hi : i < xs.length := by rw [hl]; exact (List.getElem?_eq_some_iff.mp q').1
    obtain ⟨u, hu, ru⟩ := rv.get (i := i) (List.getElem?_eq_getElem hi)
    rw [q'] at hu; cases hu
    exact ⟨_, List.getElem?_eq_getElem hi, ru⟩
  | tup a =>
    obtain ⟨its, rv, p, _⟩ := I.tuple h
    have hl := rv.length
    refine ⟨_, _, _, Draws.tuple hh it a (hne a (by simp [Sk.fp])) its.toArray, by simp [hl], fun i q => ⟨q, p⟩, fun i h' q => q.1, fun i v q => ?_⟩
    have q' : its[i]? = some v := by simpa using q
    have hi : i < xs.length := by rw [hl]; exact (List.getElem?_eq_some_iff.mp q').1
    obtain ⟨u, hu, ru⟩ := rv.get (i := i) (List.getElem?_eq_getElem hi)
    rw [q'] at hu; cases hu
    exact ⟨_, List.getElem?_eq_getElem hi, ru⟩
  | txt z t =>
    cases h
    refine ⟨_, _, _, Draws.text hh it z t, by simp [signV], fun i q => q, fun i h' q => q, fun i v ⟨c, u, q, e⟩ => ?_⟩
    subst e
    refine ⟨.str ⟨#[c]⟩, ?_, ⟨u, rfl⟩⟩
    unfold signV
    rw [List.getElem?_map, Array.getElem?_toList, q]
    rfl
end

/-! ### enumerate -/
def ItES (K : PySem.W.Frag) (k : Sk) (c : Int) : It :=
  ⟨fun i H => ∃ (xs : List V) (x : V), k.its K H xs ∧ xs[i]? = some x, fun i H v H' => ∃ T x, v = .ref T ∧ H T = none ∧ H' = upd H T (.tup [.int (c + (i : Nat)), x]) ∧ ∀ xs, k.its K H xs → xs[i]? = some x, fun i H => ∃ xs : List V, k.its K H xs ∧ xs.length = i⟩
theorem new_pair {P : Program} {w : World} {H : Hp} {h : Heap} {T : Addr} {x y : V} {u v : Value} (hT : h.IsTuple T #[u, v]) (rx : RelV x u) (ry : RelV y v) : ObjOk P w (upd H T (.tup [x, y])) h T (.tup [x, y]) :=
  ⟨by show 2 ≤ sizeLine; decide, [u, v], .cons rx (.cons ry .nil), hT⟩
theorem turn_enumS {P : Program} {w : World} {K : PySem.W.Frag} {elts : List Expr} {kk : Nat} {tpos : Pos} {e it : Addr} {k : Sk} {c : Int} (hei : e ≠ it) (hef : e ∉ k.fp) (hif : it ∉ k.fp) :
    Turn P w K (.Tuple elts kk tpos) (ItES K k c) [e, it] e (fun i h => (∃ old, IsEnum h e it (c + (i : Int)) old) ∧ k.at h it i) where
  mem := by simp
  obj := fun i h st b hb => by
    obtain ⟨⟨old, he⟩, ha⟩ := st
    rcases (show b = e ∨ b = it by simpa using hb) with rfl | rfl
    · exact ⟨_, he, fun v q => nomatch q⟩
    · exact Sk.at_obj ha
  keep := fun i h h' st f => ⟨⟨st.1.choose, f e (by simp) _ st.1.choose_spec⟩, Sk.at_mono st.2 fun o q => f it (by simp) o q⟩
  item := by
    intro X hP hw hK hc i pins s σ H E I hf st hg
    subst hP hw hK
    obtain ⟨he, ha⟩ := st
    obtain ⟨xs, x, hq, hx⟩ := hg
    obtain ⟨n, Pp, S, D, hn, h0, h1, hP⟩ := Sk.draws (A := X.A.in1) (it := it) (I.ok.hd hc) I hq (fun b hb z => hif (z ▸ hb))
    have W := WalksT.enumFrom c D e hei (by simp only [List.mem_cons, not_or]; exact ⟨hei, hef⟩) List.mem_cons_self
    have hi : i < n := by rw [hn]; exact (List.getElem?_eq_some_iff.mp hx).1
    refine W.item i s _ _ hi ⟨he, h0 i ha⟩ fun T vals h' tk hv hT hTu mid hk => ⟨.ref T, rfl, W.go elts kk tpos i T _ _ _ mid fun h2 st2 hk2 => ?_⟩
    obtain ⟨t, u, hu, rfl⟩ := hv
    obtain ⟨x', hx', ru⟩ := hP i u hu
    rw [hx] at hx'; cases hx'
    have hTw := W.apart i T h' mid
    have hTu2 : h2.IsTuple T #[.int (c + (i : Int)) t, u] := hTu.at fun o q => hk2 T o hTw q
    have I1 : Inv X pins σ (upd H T (.tup [.int (c + (i : Nat)), x])) { s with heap := h2, toks := tk } :=
      I.turnedNew (ch := [e, it]) (fun b o hb q => hk2 b o hb (hk b o hb q)) hf hT (new_pair hTu2 ⟨_, rfl⟩ ru)
    refine ⟨.ref T, _, I1, rfl, ⟨T, x, rfl, I.hok.fresh hT, rfl, fun ys hy => by rw [Sk.its_inj I hy hq]; exact hx⟩, ⟨st2.1, h1 _ _ st2.2⟩, fun b hb => ?_⟩
    have hbT : b ≠ T := by
      rintro rfl
      exact hTw hb
    rw [upd_ne hbT]
    exact (hf b hb).1
  done := by
    intro X hP hw hK hc i pins s σ H E I hf st hg
    subst hP hw hK
    obtain ⟨xs, hq, hx⟩ := hg
    obtain ⟨he, ha⟩ := st
    obtain ⟨n, Pp, S, D, hn, h0, h1, hP⟩ := Sk.draws (A := X.A.in1) (it := it) (I.ok.hd hc) I hq (fun b hb z => hif (z ▸ hb))
    obtain rfl : n = i := hn.trans hx
    have W := WalksT.enumFrom c D e hei (by simp only [List.mem_cons, not_or]; exact ⟨hei, hef⟩) List.mem_cons_self
    exact W.done s _ _ ⟨he, h0 n ha⟩ fun h' tk hk => ⟨rfl, I.turnedL (t' := tk) (ch := [e, it]) (fun b o hb q => hk b o hb q) hf⟩
  self := fun A i s Q E st h => by
    obtain ⟨⟨old, he⟩, _⟩ := st
    exact wpAny_pyIter_enum he h

/-! ### zip of two -/
def ItZS (K : PySem.W.Frag) (k1 k2 : Sk) : It :=
  ⟨fun i H => ∃ (xs ys : List V) (x y : V), k1.its K H xs ∧ k2.its K H ys ∧ xs[i]? = some x ∧ ys[i]? = some y,
    fun i H v H' => ∃ T x y, v = .ref T ∧ H T = none ∧ H' = upd H T (.tup [x, y]) ∧ (∀ xs, k1.its K H xs → xs[i]? = some x) ∧ ∀ ys, k2.its K H ys → ys[i]? = some y,
    fun i H => ∃ xs ys : List V, k1.its K H xs ∧ k2.its K H ys ∧ min xs.length ys.length = i⟩
theorem turn_zipS {P : Program} {w : World} {K : PySem.W.Frag} {elts : List Expr} {kk : Nat} {tpos : Pos} {z TI TO i1 i2 : Addr} {k1 k2 : Sk} (Z : ZipSep2 z TI TO i1 i2 (i1 :: k1.fp) (i2 :: k2.fp)) (n1 : i1 ∉ k1.fp) (n2 : i2 ∉ k2.fp) :
    Turn P w K (.Tuple elts kk tpos) (ItZS K k1 k2) [z, TI, TO, i1, i2] z (fun i h => IsZip h z TI TO .none ∧ IsTupOf2 h TI (.ref i1) (.ref i2) ∧ (∃ x y, IsTupOf2 h TO x y) ∧ k1.at h i1 i ∧ k2.at h i2 i) where
  mem := by simp
  obj := fun i h st b hb => by
    obtain ⟨hz, hTI, ⟨x, y, hTO⟩, a1, a2⟩ := st
    rcases (show b = z ∨ b = TI ∨ b = TO ∨ b = i1 ∨ b = i2 by simpa using hb) with rfl | rfl | rfl | rfl | rfl
    · exact ⟨_, hz, fun v q => nomatch q⟩
    · exact ⟨_, hTI, fun v q => nomatch q⟩
    · exact ⟨_, hTO, fun v q => nomatch q⟩
    · exact Sk.at_obj a1
    · exact Sk.at_obj a2
  keep := fun i h h' st f => by
    obtain ⟨hz, hTI, ⟨x, y, hTO⟩, a1, a2⟩ := st
    exact ⟨f z (by simp) _ hz, f TI (by simp) _ hTI, ⟨x, y, f TO (by simp) _ hTO⟩, Sk.at_mono a1 fun o q => f i1 (by simp) o q, Sk.at_mono a2 fun o q => f i2 (by simp) o q⟩
  item := by
    intro X hP hw hK hc i pins s σ H E I hf st hg
    subst hP hw hK
    obtain ⟨hz, hTI, hTO, a1, a2⟩ := st
    obtain ⟨xs, ys, x, y, hq1, hq2, hx, hy⟩ := hg
    obtain ⟨m1, P1, S1, D1, e1, u1, v1, w1⟩ := Sk.draws (A := X.A.in1) (it := i1) (I.ok.hd hc) I hq1 (fun b hb q => n1 (q ▸ hb))
    obtain ⟨m2, P2, S2, D2, e2, u2, v2, w2⟩ := Sk.draws (A := X.A.in1) (it := i2) (I.ok.hd hc) I hq2 (fun b hb q => n2 (q ▸ hb))
    have W := WalksT.zipD2 Z D1 D2
    have hi : i < min m1 m2 := by
      rw [e1, e2]
      have q1 := (List.getElem?_eq_some_iff.mp hx).1
      have q2 := (List.getElem?_eq_some_iff.mp hy).1
      omega
    refine W.item i s _ _ hi ⟨hz, hTI, hTO, u1 i a1, u2 i a2⟩ fun T vals h' tk hv hT hTu mid hk => ⟨.ref T, rfl, W.go elts kk tpos i T _ _ _ mid fun h2 st2 hk2 => ?_⟩
    obtain ⟨p, q, hp, hq, rfl⟩ := hv
    obtain ⟨x', hx', rp⟩ := w1 i p hp
    rw [hx] at hx'; cases hx'
    obtain ⟨y', hy', rq⟩ := w2 i q hq
    rw [hy] at hy'; cases hy'
    have hTw := W.apart i T h' mid
    have hTu2 : h2.IsTuple T #[p, q] := hTu.at fun o q => hk2 T o hTw q
    have sub : ∀ b, b ∉ [z, TI, TO, i1, i2] → b ∉ [z, TO, i1, i2] := fun b hb q => hb (by
      simp only [List.mem_cons, List.not_mem_nil, or_false] at q ⊢
      rcases q with q | q | q | q
      · exact .inl q
      · exact .inr (.inr (.inl q))
      · exact .inr (.inr (.inr (.inl q)))
      · exact .inr (.inr (.inr (.inr q))))
    have I1 : Inv X pins σ (upd H T (.tup [x, y])) { s with heap := h2, toks := tk } :=
      I.turnedNew (ch := [z, TI, TO, i1, i2]) (fun b o hb q => hk2 b o (sub b hb) (hk b o (sub b hb) q)) hf hT (new_pair hTu2 rp rq)
    refine ⟨.ref T, _, I1, rfl, ⟨T, x, y, rfl, I.hok.fresh hT, rfl, fun l hl => by rw [Sk.its_inj I hl hq1]; exact hx, fun l hl => by rw [Sk.its_inj I hl hq2]; exact hy⟩, ⟨st2.1, st2.2.1, st2.2.2.1, v1 _ _ st2.2.2.2.1, v2 _ _ st2.2.2.2.2⟩, fun b hb => ?_⟩
    have hbl : b < s.heap.objs.size := by
      obtain ⟨x0, y0, hTO⟩ := hTO
      rcases (show b = z ∨ b = TI ∨ b = TO ∨ b = i1 ∨ b = i2 by simpa using hb) with rfl | rfl | rfl | rfl | rfl
      · exact Heap.lt_size hz
      · exact Heap.lt_size hTI
      · exact Heap.lt_size hTO
      · obtain ⟨o, ho, _⟩ := Sk.at_obj a1; exact Heap.lt_size ho
      · obtain ⟨o, ho, _⟩ := Sk.at_obj a2; exact Heap.lt_size ho
    rw [upd_ne (Nat.ne_of_lt (Nat.lt_of_lt_of_le hbl hT))]
    exact (hf b hb).1
  done := by
    intro X hP hw hK hc i pins s σ H E I hf st hg
    subst hP hw hK
    obtain ⟨hz, hTI, hTO, a1, a2⟩ := st
    obtain ⟨xs, ys, hq1, hq2, hl⟩ := hg
    obtain ⟨m1, P1, S1, D1, e1, u1, v1, w1⟩ := Sk.draws (A := X.A.in1) (it := i1) (I.ok.hd hc) I hq1 (fun b hb q => n1 (q ▸ hb))
    obtain ⟨m2, P2, S2, D2, e2, u2, v2, w2⟩ := Sk.draws (A := X.A.in1) (it := i2) (I.ok.hd hc) I hq2 (fun b hb q => n2 (q ▸ hb))
    have W := WalksT.zipD2 Z D1 D2
    obtain rfl : min m1 m2 = i := by rw [e1, e2]; exact hl
    refine W.done s _ _ ⟨hz, hTI, hTO, u1 _ a1, u2 _ a2⟩ fun h' tk hk => ⟨rfl, I.turnedL (t' := tk) (ch := [z, TI, TO, i1, i2]) (fun b o hb q => hk b o (fun r => hb ?_) q) hf⟩
    simp only [List.mem_cons, List.not_mem_nil, or_false] at r ⊢
    rcases r with r | r | r | r
    · exact .inl r
    · exact .inr (.inr (.inl r))
    · exact .inr (.inr (.inr (.inl r)))
    · exact .inr (.inr (.inr (.inr r)))
  self := fun A i s Q E st h => wpAny_pyIter_zip st.1 h
end Mi

set_option Elab.async false
set_option linter.all false
set_option maxRecDepth 100000
namespace Mi
open PySem L2
/-! ### enumerate(v) begins, v by how its iterator begins -/
abbrev enObj (it : Addr) : Obj := { cls := .type "enumerate", data := .fields #[.none, .bool false, .ref it, rawInt 0, .none, .none] }
theorem meets_en1 {v : Value} {ob : Obj} {OK : Heap → Prop} (B : Begins v ob OK) :
    Meets (Builtin.«enumerate.__new__» ⟨[.type "enumerate", v], []⟩) (fun _ R s0 => OK s0.heap ∧ R (.ok (.ret (.ref (s0.heap.push ob).objs.size))) { s0 with heap := (s0.heap.push ob).push (enObj s0.heap.objs.size) }) :=
  .of_wp fun pr wd ar RR st hyp => by
    obtain ⟨h0, g0, d0, t0, o0⟩ := st; obtain ⟨ok, hyp⟩ := hyp
    have hsub := sub_enumerate
    have go : ∀ {A' : Around} {EE QQ : Value → Shared → Prop}, QQ (.ref h0.objs.size) ⟨h0.push ob, g0, d0, t0, o0⟩ → wpAny (model pr wd) A' (pyIter v) QQ EE ⟨h0, g0, d0, t0, o0⟩ :=
      fun z => B.iter pr wd _ _ ⟨h0, g0, d0, t0, o0⟩ _ ok z
    wp_walk using go
    refine wpAny_stack_any fun _ => wpAny_pure ?_
    split
    · rename_i cc _ _ _ _ _
      cases (cc == Value.type "enumerate")
      · wp_walk using go
        exact ⟨_, rfl, hyp⟩
      · wp_walk using go
        exact ⟨_, rfl, hyp⟩
    · wp_walk using go
      exact ⟨_, rfl, hyp⟩
theorem call_en1 {pr : Program} {wd : World} {A : Around} {E : Value → Shared → Prop} {s : Shared} {v : Value} {ob : Obj} {OK : Heap → Prop} {Q : Value → Shared → Prop} (B : Begins v ob OK) (ok : OK s.heap)
    (k : ∀ h1, IsEnum h1 (s.heap.objs.size + 1) s.heap.objs.size 0 .none → h1.get? s.heap.objs.size = some ob → (∀ b o, s.heap.get? b = some o → h1.get? b = some o) → Q (.ref (s.heap.objs.size + 1)) { s with heap := h1 }) :
    wpAny (model pr wd) A (call (.type "enumerate") [v]) Q E s := by
  refine callType_new F.called_enumerate (by decide) (F.typeCall_enumerate_1 _) (F.newCall_enumerate_1 _) (fun z => F.args_object_init_2 z _) F.entry_enumerate_new (meets_en1 B) ⟨ok, ?_⟩
  have sz : (s.heap.push ob).objs.size = s.heap.objs.size + 1 := Heap.size_push ..
  have e1 : ((s.heap.push ob).push (enObj s.heap.objs.size)).get? (s.heap.push ob).objs.size = some (enObj s.heap.objs.size) := Heap.get?_push_size _ rfl
  show _ ∧ _
  rw [sz] at e1 ⊢
  exact ⟨⟨_, e1, rfl⟩, k _ e1 (Heap.get?_push_of_some _ (Heap.get?_push_size _ B.free)) fun b o z => Heap.get?_push_of_some _ (Heap.get?_push_of_some _ z)⟩

/-! ### sources by values -/
def signT (z : Str) : List T := z.cps.toList.map fun c => T.str ⟨#[c]⟩
def srcT (G : Gp) (t : T) (ts : List T) : Prop := t = .tup ts ∨ isL G t ts ∨ ∃ z, t = .str z ∧ ts = signT z
def heldT : T → List T → List (Addr × List T)
  | .ref a, ts => [(a, ts)]
  | _, _ => []
theorem sign_rp {K : PySem.W.Frag} {H : Hp} (z : Str) : Rps K H (signV z) (signT z) := by
  unfold signV signT
  generalize z.cps.toList = l
  induction l with
  | nil => rfl
  | cons c r ih => exact ⟨_, _, rfl, rfl, ih⟩
/-- the source of a value, as long as what is held stands -/
theorem srcT.sk {K : PySem.W.Frag} {H : Hp} {G : Gp} {t : T} {ts : List T} {x : V} {u : Value} (hg : RG K H G) (h : srcT G t ts) (rx : Rp K H x t) (ru : RelV x u) :
    ∃ k : Sk, k.val = u ∧ ∀ H' G', Le H H' → RG K H' G' → Held G' (heldT t ts) → ∃ vs, k.its K H' vs ∧ Rps K H' vs ts := by
  rcases h with rfl | (rfl | ⟨a, rfl, h⟩) | ⟨z, rfl, rfl⟩
  · obtain ⟨p, vs, rfl, hq, hz, rv⟩ := rx.tupSq
    cases ru
    exact ⟨.tup p, rfl, fun H' G' l _ _ => ⟨vs, l.seq hq, rv.le l⟩⟩
  · obtain ⟨p, vs, rfl, hq, hz, rv⟩ := rx
    cases ru
    exact ⟨.lst p, rfl, fun H' G' l _ _ => ⟨vs, (l.sqc hq).seq, rv.le l⟩⟩
  · cases rx
    cases ru
    refine ⟨.lst a, rfl, fun H' G' l g hh => ?_⟩
    have e := hh (a, ts) (by simp [heldT])
    obtain ⟨vs, e, rv⟩ := lst_of g e
    exact ⟨vs, SqL.of e, rv⟩
  · cases rx
    obtain ⟨tk, rfl⟩ := ru
    exact ⟨.txt z tk, rfl, fun H' G' l _ _ => ⟨signV z, rfl, sign_rp z⟩⟩
theorem srcT.held {G : Gp} {t : T} {ts : List T} (h : srcT G t ts) : Held G (heldT t ts) := by
  rcases h with rfl | (rfl | ⟨a, rfl, h⟩) | ⟨z, rfl, rfl⟩
  · intro p hp; cases hp
  · intro p hp; cases hp
  · intro p hp
    have e : p = (a, ts) := by simpa [heldT] using hp
    subst e; exact h
  · intro p hp; cases hp
/-- the iterator of one source -/
def ItS (K : PySem.W.Frag) : Sk → It
  | .lst a => Itl K a
  | .tup a => Itt K a
  | .txt z _ => Its z
section
variable {X : Cx} {e e2 : Expr} {m m2 : ME} {pos : Pos} {tg : Expr}
def miSeq (m : ME) : MI := fun r G N => m r G fun t G1 => ∃ ts, srcT G1 t ts ∧ N ⟨ts, heldT t ts⟩ G1
theorem walks_one {K : PySem.W.Frag} {H : Hp} {k : Sk} {held : List (Addr × List T)} {ts : List T} (h : ∀ H' G', Le H H' → RG K H' G' → Held G' held → ∃ vs, k.its K H' vs ∧ Rps K H' vs ts) : Walks K H (ItS K k) ⟨ts, held⟩ := by
  intro H' G' l g hh
  obtain ⟨vs, hq, rv⟩ := h H' G' l g hh
  have hl := rv.length
  refine ⟨fun i t ht => ?_, ?_⟩
  · obtain ⟨v, hv, r⟩ := rv.get ht
    cases k with
    | lst a =>
      refine ⟨⟨vs, v, hq, hv⟩, fun x H2 ⟨e1, y⟩ => ?_⟩
      subst e1
      have := y vs hq
      rw [hv] at this; cases this
      exact ⟨Le.refl _, g, r⟩
    | tup a =>
      refine ⟨⟨vs, v, hq, hv⟩, fun x H2 ⟨e1, y⟩ => ?_⟩
      subst e1
      have := y vs hq
      rw [hv] at this; cases this
      exact ⟨Le.refl _, g, r⟩
    | txt z tk =>
      cases hq
      have hi : i < z.cps.size := by
        have := (List.getElem?_eq_some_iff.mp hv).1
        simpa [signV] using this
      refine ⟨hi, fun x H2 ⟨e1, c, hc, ex⟩ => ?_⟩
      subst e1 ex
      unfold signV at hv
      rw [List.getElem?_map, Array.getElem?_toList, hc] at hv
      cases hv
      exact ⟨Le.refl _, g, r⟩
  · cases k with
    | lst a => exact ⟨vs, hq, by rw [hl]; exact Nat.le_refl _⟩
    | tup a => exact ⟨vs, hq, by rw [hl]; exact Nat.le_refl _⟩
    | txt z tk =>
      cases hq
      show z.cps.size ≤ ts.length
      rw [← hl]
      simp [signV]
theorem turn_S {P : Program} {w : World} {K : PySem.W.Frag} {tg : Expr} (k : Sk) (it : Addr) : Turn P w K tg (ItS K k) [it] it (fun i h => k.at h it i) := by
  cases k with
  | lst a => exact turn_list a it
  | tup a => exact turn_tuple a it
  | txt z tk =>
    refine turn_str it z tk (strIterType z) ?_
    unfold strIterType
    cases z.cps.all (· < 128)
    · exact .inr rfl
    · exact .inl rfl
theorem i_seq (he : OE X e m) : OI X tg e (miSeq m) := by
  refine ⟨⟨fun pins s σ H R I q => ?_⟩⟩
  obtain ⟨r, G, N, hs, hg, k, f⟩ := q
  refine thn (he.ok.run pins s σ H (fun x H1 => ∃ t G1 ts, Rp X.K H1 x t ∧ RG X.K H1 G1 ∧ Le H H1 ∧ srcT G1 t ts ∧ N ⟨ts, heldT t ts⟩ G1) I ⟨r, G, _, hs, hg, k, fun t G1 H1 x k1 l1 g1 r1 => ?_⟩) fun v s1 ⟨x, H1, I1, rv, t, G1, ts, rx, g1, l1, hsrc, hN⟩ => ?_
  · obtain ⟨ts, h1, h2⟩ := k1
    exact ⟨t, G1, ts, r1, g1, l1, h1, h2⟩
  obtain ⟨sk, rfl, stay⟩ := hsrc.sk g1 rx rv
  obtain ⟨vs, hq, _⟩ := stay H1 G1 (Le.refl _) g1 hsrc.held
  obtain ⟨OK, B, ok⟩ := Sk.begins I1 hq
  refine B.iter _ _ _ _ _ _ ok ?_
  exact pi_one (tk := s1.toks) I1 _ (turn_S sk _) (sk.at_new (Heap.get?_push_size _ B.free)) (f _ G1 H1 _ hN l1 g1 (walks_one stay))

/-- for k, x in enumerate(e) -/
def enumT (c : Int) (ts : List T) : List T := ts.mapIdx fun i t => .pr [.int (c + i), t]
def miEnum (m : ME) : MI := fun r G N => m r G fun t G1 => ∃ ts, srcT G1 t ts ∧ N ⟨enumT 0 ts, heldT t ts⟩ G1
theorem walks_enum {K : PySem.W.Frag} {H : Hp} {k : Sk} {held : List (Addr × List T)} {ts : List T} {c : Int} (h : ∀ H' G', Le H H' → RG K H' G' → Held G' held → ∃ vs, k.its K H' vs ∧ Rps K H' vs ts) : Walks K H (ItES K k c) ⟨enumT c ts, held⟩ := by
  intro H' G' l g hh
  obtain ⟨vs, hq, rv⟩ := h H' G' l g hh
  have hl := rv.length
  refine ⟨fun i t ht => ?_, ⟨vs, hq, by rw [hl]; simp [enumT]⟩⟩
  unfold enumT at ht
  rw [List.getElem?_mapIdx] at ht
  cases e0 : ts[i]? with
  | none => rw [e0] at ht; cases ht
  | some t0 =>
    rw [e0] at ht; cases ht
    obtain ⟨v, hv, r⟩ := rv.get e0
    refine ⟨⟨vs, v, hq, hv⟩, fun x H2 ⟨Tt, y, ex, hT, eH, hy⟩ => ?_⟩
    subst ex eH
    have := hy vs hq
    rw [hv] at this; cases this
    have ln := Le.new (o := HO.tup [.int (c + (i : Nat)), v]) hT
    exact ⟨ln, g.out (nt_none hT) (g.fresh hT), Tt, _, rfl, upd_same, by show 2 ≤ sizeLine; decide, Rps.two rfl (r.le ln)⟩
theorem i_enum {p tpos : Pos} {elts : List Expr} {kk : Nat} (hgl : Gl X "enumerate") (hm : X.mg "enumerate" = none) (he : OE X e m) (hst : starEach [e] X.env = (false, eval e X.env) :: starEach [] X.env := by rfl) :
    OI X (.Tuple elts kk tpos) (.Call (.Name "enumerate" p) [e] [] pos) (miEnum m) := by
  refine ⟨⟨fun pins s σ H R I q => ?_⟩⟩
  obtain ⟨r, G, N, hs, hg, k, f⟩ := q
  refine PyProof.Rows.Call_ (ld_blt I hgl hm PyProof.Rows.boot_enumerate (PyProof.Rows.callWith_type1 (PyProof.Rows.args_cons (thn (he.ok.run pins s σ H (fun x H1 => ∃ t G1 ts, Rp X.K H1 x t ∧ RG X.K H1 G1 ∧ Le H H1 ∧ srcT G1 t ts ∧ N ⟨enumT 0 ts, heldT t ts⟩ G1) I ⟨r, G, _, hs, hg, k, fun t G1 H1 x k1 l1 g1 r1 => ?_⟩) fun v s1 ⟨x, H1, I1, rv, t, G1, ts, rx, g1, l1, hsrc, hN⟩ => PyProof.Rows.args_nil ?_) hst) hst rfl))
  · obtain ⟨ts, h1, h2⟩ := k1
    exact ⟨t, G1, ts, r1, g1, l1, h1, h2⟩
  obtain ⟨sk, rfl, stay⟩ := hsrc.sk g1 rx rv
  obtain ⟨vs, hq, _⟩ := stay H1 G1 (Le.refl _) g1 hsrc.held
  obtain ⟨OK, B, ok⟩ := Sk.begins I1 hq
  have lt := Sk.lt I1 hq
  refine call_en1 B ok fun h1 he1 hit hk => wpAny_pyIter_enum he1 ?_
  have I2 : Inv X pins σ H1 { s1 with heap := h1 } := I1.kept (t' := s1.toks) hk
  refine ⟨s1.heap.objs.size + 1, [s1.heap.objs.size + 1, s1.heap.objs.size], _, ItES X.K sk 0, H1, rfl, I2, turn_enumS (k := sk) (c := 0) (Nat.succ_ne_self _) (fun z => absurd (lt _ z) (Nat.not_lt.mpr (Nat.le_succ _))) (fun z => absurd (lt _ z) (Nat.lt_irrefl _)), ⟨⟨_, he1⟩, sk.at_new hit⟩, fun b hb => ?_, f _ G1 H1 _ hN l1 g1 (walks_enum stay)⟩
  have hle : s1.heap.objs.size ≤ b := by
    rcases (show b = s1.heap.objs.size + 1 ∨ b = s1.heap.objs.size by simpa using hb) with q | q
    · rw [q]; exact Nat.le_succ _
    · rw [q]; exact Nat.le_refl _
  exact I1.fpOk hle (I1.hok.fresh hle)

/-- for x, y in zip(e, e2) -/
def miZip (m m2 : ME) : MI := fun r G N => m r G fun t G1 => m2 r G1 fun u G2 => ∃ ts us, srcT G2 t ts ∧ srcT G2 u us ∧ N ⟨List.zipWith (fun a b => T.pr [a, b]) ts us, heldT t ts ++ heldT u us⟩ G2
theorem Held.left {G : Gp} {a b : List (Addr × List T)} (h : Held G (a ++ b)) : Held G a := fun p hp => h p (List.mem_append_left _ hp)
theorem Held.right {G : Gp} {a b : List (Addr × List T)} (h : Held G (a ++ b)) : Held G b := fun p hp => h p (List.mem_append_right _ hp)
theorem walks_zip {K : PySem.W.Frag} {H : Hp} {k k2 : Sk} {held held2 : List (Addr × List T)} {ts us : List T} (h : ∀ H' G', Le H H' → RG K H' G' → Held G' held → ∃ vs, k.its K H' vs ∧ Rps K H' vs ts)
    (h2 : ∀ H' G', Le H H' → RG K H' G' → Held G' held2 → ∃ vs, k2.its K H' vs ∧ Rps K H' vs us) : Walks K H (ItZS K k k2) ⟨List.zipWith (fun a b => T.pr [a, b]) ts us, held ++ held2⟩ := by
  intro H' G' l g hh
  obtain ⟨vs, hq, rv⟩ := h H' G' l g hh.left
  obtain ⟨ws, hq2, rw⟩ := h2 H' G' l g hh.right
  refine ⟨fun i t ht => ?_, ⟨vs, ws, hq, hq2, by rw [rv.length, rw.length]; simp⟩⟩
  rw [List.getElem?_zipWith] at ht
  cases e0 : ts[i]? with
  | none => rw [e0] at ht; cases ht
  | some t0 =>
    cases e1 : us[i]? with
    | none => rw [e0, e1] at ht; cases ht
    | some u0 =>
      rw [e0, e1] at ht; cases ht
      obtain ⟨v, hv, r⟩ := rv.get e0
      obtain ⟨w, hw, r2⟩ := rw.get e1
      refine ⟨⟨vs, ws, v, w, hq, hq2, hv, hw⟩, fun x H2 ⟨Tt, y, y2, ex, hT, eH, hy, hy2⟩ => ?_⟩
      subst ex eH
      have a1 := hy vs hq
      rw [hv] at a1; cases a1
      have a2 := hy2 ws hq2
      rw [hw] at a2; cases a2
      have ln := Le.new (o := HO.tup [v, w]) hT
      exact ⟨ln, g.out (nt_none hT) (g.fresh hT), Tt, _, rfl, upd_same, by show 2 ≤ sizeLine; decide, Rps.two (r.le ln) (r2.le ln)⟩
theorem i_zip {p tpos : Pos} {elts : List Expr} {kk : Nat} (hgl : Gl X "zip") (hm : X.mg "zip" = none) (he : OE X e m) (he2 : OE X e2 m2)
    (hst : starEach [e, e2] X.env = (false, eval e X.env) :: starEach [e2] X.env := by rfl) (hst2 : starEach [e2] X.env = (false, eval e2 X.env) :: starEach [] X.env := by rfl) (hpl : (backTo pos (starEach [e2] X.env)).any (·.1) = false := by rfl) :
    OI X (.Tuple elts kk tpos) (.Call (.Name "zip" p) [e, e2] [] pos) (miZip m m2) := by
  refine ⟨⟨fun pins s σ H R I q => ?_⟩⟩
  obtain ⟨r, G, N, hs, hg, k, f⟩ := q
  refine PyProof.Rows.Call_ (ld_blt I hgl hm PyProof.Rows.boot_zip (PyProof.Rows.callWith_type1 (PyProof.Rows.args_cons (thn (he.ok.run pins s σ H (fun x H1 => ∃ t G1, Rp X.K H1 x t ∧ RG X.K H1 G1 ∧ Le H H1 ∧ m2 r G1 fun u G2 => ∃ ts us, srcT G2 t ts ∧ srcT G2 u us ∧ N ⟨List.zipWith (fun a b => T.pr [a, b]) ts us, heldT t ts ++ heldT u us⟩ G2) I ⟨r, G, _, hs, hg, k, fun t G1 H1 x k1 l1 g1 r1 => ⟨t, G1, r1, g1, l1, k1⟩⟩) fun v s1 ⟨x, H1, I1, rv, t, G1, rx, g1, l1, k1⟩ => ?_) hst) hst hpl))
  refine PyProof.Rows.args_cons (thn (he2.ok.run pins s1 σ H1 (fun y H2 => ∃ u G2 ts us, Rp X.K H2 y u ∧ RG X.K H2 G2 ∧ Le H1 H2 ∧ srcT G2 t ts ∧ srcT G2 u us ∧ N ⟨List.zipWith (fun a b => T.pr [a, b]) ts us, heldT t ts ++ heldT u us⟩ G2) I1 ⟨r, G1, _, hs.le l1, g1, k1, fun u G2 H2 y k2 l2 g2 r2 => ?_⟩) fun v2 s2 ⟨y, H2, I2, rv2, u, G2, ts, us, ry, g2, l2, hsrc, hsrc2, hN⟩ => PyProof.Rows.args_nil ?_) hst2
  · obtain ⟨ts, us, h1, h2, h3⟩ := k2
    exact ⟨u, G2, ts, us, r2, g2, l2, h1, h2, h3⟩
  obtain ⟨sk, rfl, stay⟩ := hsrc.sk g2 (rx.le l2) rv
  obtain ⟨sk2, rfl, stay2⟩ := hsrc2.sk g2 ry rv2
  obtain ⟨vs, hq, _⟩ := stay H2 G2 (Le.refl _) g2 hsrc.held
  obtain ⟨ws, hq2, _⟩ := stay2 H2 G2 (Le.refl _) g2 hsrc2.held
  obtain ⟨OK, B, ok⟩ := Sk.begins I2 hq
  obtain ⟨OK2, B2, ok2⟩ := Sk.begins I2 hq2
  have lt := Sk.lt I2 hq
  have lt2 := Sk.lt I2 hq2
  refine zip_begins2 B B2 ok ok2 fun h1 hz hTI hTO hi1 hi2 _ hk => wpAny_pyIter_zip hz ?_
  have I3 : Inv X pins σ H2 { s2 with heap := h1 } := I2.kept (t' := s2.toks) hk
  refine ⟨s2.heap.objs.size + 4, [s2.heap.objs.size + 4, s2.heap.objs.size + 2, s2.heap.objs.size + 3, s2.heap.objs.size, s2.heap.objs.size + 1], _, ItZS X.K sk sk2, H2, rfl, I3, turn_zipS (zip_sep2 lt lt2) (fun z => absurd (lt _ z) (Nat.lt_irrefl _)) (fun z => absurd (lt2 _ z) (Nat.not_lt.mpr (Nat.le_succ _))),
    ⟨hz, hTI, ⟨_, _, hTO⟩, sk.at_new hi1, sk2.at_new hi2⟩, fun b hb => ?_, f _ G2 H2 _ hN (l1.trans l2) g2 (walks_zip stay stay2)⟩
  have hle : s2.heap.objs.size ≤ b := by
    rcases (show b = s2.heap.objs.size + 4 ∨ b = s2.heap.objs.size + 2 ∨ b = s2.heap.objs.size + 3 ∨ b = s2.heap.objs.size ∨ b = s2.heap.objs.size + 1 by simpa using hb) with q | q | q | q | q
    · rw [q]; exact Nat.le_add_right _ _
    · rw [q]; exact Nat.le_add_right _ _
    · rw [q]; exact Nat.le_add_right _ _
    · rw [q]; exact Nat.le_refl _
    · rw [q]; exact Nat.le_add_right _ _
  exact I2.fpOk hle (I2.hok.fresh hle)
end
end Mi

set_option Elab.async false
set_option linter.all false
set_option maxRecDepth 100000
namespace Mi
open PySem L2
section
variable {X : Cx}
/-! ### built-ins by values -/
theorem Rps.get1 {K : PySem.W.Frag} {H : Hp} {vs : List V} {t : T} (h : Rps K H vs [t]) : ∃ v, vs = [v] ∧ Rp K H v t := by
  obtain ⟨v, r, rfl, r1, r2⟩ := h
  cases r2
  exact ⟨v, rfl, r1⟩
theorem Rps.get2 {K : PySem.W.Frag} {H : Hp} {vs : List V} {t u : T} (h : Rps K H vs [t, u]) : ∃ v w, vs = [v, w] ∧ Rp K H v t ∧ Rp K H w u := by
  obtain ⟨v, r, rfl, r1, w, q, rfl, r2, r3⟩ := h
  cases r3
  exact ⟨v, w, rfl, r1, r2⟩
/-- len -/
def omLen : Sm := fun ts G R => ∃ t, ts = [t] ∧ ((∃ us, isSq G t us ∧ R (.int us.length) G) ∨ (∃ z, t = .str z ∧ z.length ≤ sizeLine ∧ R (.int z.length) G) ∨ ∃ a kvs, t = .ref a ∧ G a = some (.dK kvs) ∧ R (.int kvs.length) G)
theorem c_len : CallR X (.builtin "len") (liC X.K omLen) := ((call_len_seq (X := X)).or (call_len_str.or call_lenD)).imp fun xs H Q h => by
  obtain ⟨ts, G, R, rv, hg, ⟨t, rfl, k⟩, f⟩ := h
  obtain ⟨v, rfl, r⟩ := rv.get1
  rcases k with ⟨us, h1, k⟩ | ⟨z, rfl, hz, k⟩ | ⟨a, kvs, rfl, h1, k⟩
  · obtain ⟨p, vs, rfl, hq, ru⟩ := h1.seq hg r
    exact .inl ⟨p, vs, rfl, hq, f.val hg k (by show _ = _; rw [ru.length])⟩
  · cases r
    exact .inr (.inl ⟨z, rfl, hz, f.val hg k rfl⟩)
  · cases r
    obtain ⟨vs, e, rk, _⟩ := hg _ _ h1
    have hl := congrArg List.length rk
    simp only [List.length_map] at hl
    exact .inr (.inr ⟨a, vs, rfl, e, f.val hg k (by show _ = _; rw [hl])⟩)
def omAbs : Sm := fun ts G R => ∃ i, ts = [.int i] ∧ R (.int (if i < 0 then -i else i)) G
theorem c_abs : CallR X (.builtin "abs") (liC X.K omAbs) := call_abs.imp fun xs H Q h => by
  obtain ⟨ts, G, R, rv, hg, ⟨i, rfl, k⟩, f⟩ := h
  obtain ⟨v, rfl, r⟩ := rv.get1
  cases r
  exact ⟨i, rfl, f.val hg k rfl⟩
def omMax2 : Sm := fun ts G R => ∃ i j, ts = [.int i, .int j] ∧ R (.int (if j > i then j else i)) G
theorem c_max2 (hc : X.calm = true) : CallR X (.builtin "max") (liC X.K omMax2) := (call_max2 hc).imp fun xs H Q h => by
  obtain ⟨ts, G, R, rv, hg, ⟨i, j, rfl, k⟩, f⟩ := h
  obtain ⟨v, w, rfl, r, r2⟩ := rv.get2
  cases r; cases r2
  exact ⟨i, j, rfl, f.val hg k rfl⟩
def omMin2 : Sm := fun ts G R => ∃ i j, ts = [.int i, .int j] ∧ R (.int (if j < i then j else i)) G
theorem c_min2 (hc : X.calm = true) : CallR X (.builtin "min") (liC X.K omMin2) := (call_min2 hc).imp fun xs H Q h => by
  obtain ⟨ts, G, R, rv, hg, ⟨i, j, rfl, k⟩, f⟩ := h
  obtain ⟨v, w, rfl, r, r2⟩ := rv.get2
  cases r; cases r2
  exact ⟨i, j, rfl, f.val hg k rfl⟩
def omInt : Sm := fun ts G R => (∃ i, ts = [.int i] ∧ R (.int i) G) ∨ ∃ k, ts = [.bl k] ∧ R (.int (if k then 1 else 0)) G
theorem c_int : CallR X (.type "int") (liC X.K omInt) := call_int1.imp fun xs H Q h => by
  obtain ⟨ts, G, R, rv, hg, k, f⟩ := h
  rcases k with ⟨i, rfl, k⟩ | ⟨b, rfl, k⟩
  · obtain ⟨v, rfl, r⟩ := rv.get1
    cases r
    exact .inl ⟨i, rfl, f.val hg k rfl⟩
  · obtain ⟨v, rfl, r⟩ := rv.get1
    cases r
    exact .inr ⟨b, rfl, f.val hg k rfl⟩
def omDivmod : Sm := fun ts G R => ∃ i j, ts = [.int i, .int j] ∧ CDiv i j ∧ R (.tup [.int (i / j), .int (i % j)]) G
theorem call_divmodF : CallR X (.builtin "divmod") (fun xs H Q => ∃ i j, xs = [.int i, .int j] ∧ CDiv i j ∧ ∀ p (o : Obj), o.dict = none → H p = none → Q (.ref p) (upd H p (.frz o (.tup [.int (i / j), .int (i % j)])))) := by
  intro pins s σ H xs us Q I r h
  obtain ⟨i, j, rfl, ⟨h1, h2⟩, q⟩ := h
  obtain ⟨u, w', rfl, ⟨t, rfl⟩, ⟨t', rfl⟩⟩ := vals2 r
  refine PyProof.Rows.divmod_int (by omega) ?_ (.inl (PyProof.noPylong_small (by omega)))
  rw [Int.fdiv_eq_ediv_of_nonneg i (by omega), Int.fmod_eq_emod_of_nonneg i (by omega)]
  have hn : H s.heap.objs.size = none := I.hok.fresh (Nat.le_refl _)
  refine ⟨.ref s.heap.objs.size, _, ?_, rfl, q _ { cls := .type "tuple", data := .seq #[.int (i / j) s.toks, .int (i % j) (s.toks + 1)] } rfl hn⟩
  refine I.laid (fun b o e => Heap.get?_push_of_some _ e) (Nat.le_refl _) ⟨Heap.get?_push_size s.heap rfl, by simp only [List.length_cons, List.length_nil]; rw [sizeLine_eq]; decide, [.int (i / j) s.toks, .int (i % j) (s.toks + 1)], .cons ⟨_, rfl⟩ (.cons ⟨_, rfl⟩ .nil), ?_⟩
  exact ⟨_, Heap.get?_push_size s.heap rfl, rfl, 0, rfl⟩
theorem c_divmod : CallR X (.builtin "divmod") (liC X.K omDivmod) := call_divmodF.imp fun xs H Q h => by
  obtain ⟨ts, G, R, rv, hg, ⟨i, j, rfl, hc, k⟩, f⟩ := h
  obtain ⟨v, w, rfl, r, r2⟩ := rv.get2
  cases r; cases r2
  exact ⟨i, j, rfl, hc, fun p o ho hp => f.newT hg ho hp k (Rps.two rfl rfl) (by show 2 ≤ sizeLine; decide)⟩
/-- all, any of a list of bools -/
def omAll : Sm := fun ts G R => ∃ (t : T) (bs : List Bool), ts = [t] ∧ isL G t (bs.map T.bl) ∧ R (.bl (bs.all id)) G
def omAny : Sm := fun ts G R => ∃ (t : T) (bs : List Bool), ts = [t] ∧ isL G t (bs.map T.bl) ∧ R (.bl (bs.any id)) G
theorem bls_rp {K : PySem.W.Frag} {H : Hp} : ∀ {bs : List Bool} {vs : List V}, Rps K H vs (bs.map T.bl) → vs = bs.map V.bl
  | [], vs, h => h
  | b :: bs, vs, h => by
    obtain ⟨v, r, rfl, r1, r2⟩ := h
    cases r1
    rw [bls_rp r2]; rfl
theorem ints_rp {K : PySem.W.Frag} {H : Hp} : ∀ {bs : List Int} {vs : List V}, Rps K H vs (bs.map T.int) → vs = bs.map V.int
  | [], vs, h => h
  | b :: bs, vs, h => by
    obtain ⟨v, r, rfl, r1, r2⟩ := h
    cases r1
    rw [ints_rp r2]; rfl
theorem strs_rp {K : PySem.W.Frag} {H : Hp} : ∀ {bs : List Str} {vs : List V}, Rps K H vs (bs.map T.str) → vs = bs.map V.str
  | [], vs, h => h
  | b :: bs, vs, h => by
    obtain ⟨v, r, rfl, r1, r2⟩ := h
    cases r1
    rw [strs_rp r2]; rfl
theorem rp_strs {K : PySem.W.Frag} {H : Hp} : ∀ {bs : List Str}, Rps K H (bs.map V.str) (bs.map T.str)
  | [] => rfl
  | b :: bs => ⟨_, _, rfl, rfl, rp_strs⟩
theorem rp_ints {K : PySem.W.Frag} {H : Hp} : ∀ {bs : List Int}, Rps K H (bs.map V.int) (bs.map T.int)
  | [] => rfl
  | b :: bs => ⟨_, _, rfl, rfl, rp_ints⟩
theorem c_all (hc : X.calm = true) : CallR X (.builtin "all") (liC X.K omAll) := (cr_all hc).imp fun xs H Q h => by
  obtain ⟨ts, G, R, rv, hg, ⟨t, bs, rfl, h1, k⟩, f⟩ := h
  obtain ⟨v, rfl, r⟩ := rv.get1
  obtain ⟨a, vs, rfl, hq, ru⟩ := h1.seq hg r
  rw [bls_rp ru] at hq
  exact ⟨a, bs, rfl, hq, f.val hg k rfl⟩
theorem c_any (hc : X.calm = true) : CallR X (.builtin "any") (liC X.K omAny) := (cr_any hc).imp fun xs H Q h => by
  obtain ⟨ts, G, R, rv, hg, ⟨t, bs, rfl, h1, k⟩, f⟩ := h
  obtain ⟨v, rfl, r⟩ := rv.get1
  obtain ⟨a, vs, rfl, hq, ru⟩ := h1.seq hg r
  rw [bls_rp ru] at hq
  exact ⟨a, bs, rfl, hq, f.val hg k rfl⟩
def omSum : Sm := fun ts G R => ∃ (t : T) (ns : List Int), ts = [t] ∧ isL G t (ns.map T.int) ∧ R (.int ns.sum) G
theorem c_sum (hc : X.calm = true) : CallR X (.builtin "sum") (liC X.K omSum) := (cr_sum hc).imp fun xs H Q h => by
  obtain ⟨ts, G, R, rv, hg, ⟨t, bs, rfl, h1, k⟩, f⟩ := h
  obtain ⟨v, rfl, r⟩ := rv.get1
  obtain ⟨a, vs, rfl, hq, ru⟩ := h1.seq hg r
  rw [ints_rp ru] at hq
  exact ⟨a, bs, rfl, hq, f.val hg k rfl⟩
/-- sorted, of texts -/
def omSortS : Sm := fun ts G R => ∃ (t : T) (xs : List Str), ts = [t] ∧ isL G t (xs.map T.str) ∧ xs.length < 64 ∧ ∀ (ys : List Str) p, ys.Perm xs → PyProof.Rows.sortedS ys = true → G p = none → R (.ref p) (put G p (.lst (ys.map T.str)))
theorem c_sortS : CallR X (.builtin "sorted") (liC X.K omSortS) := cr_sortedS.imp fun xs H Q h => by
  obtain ⟨ts, G, R, rv, hg, ⟨t, bs, rfl, h1, hz, k⟩, f⟩ := h
  obtain ⟨v, rfl, r⟩ := rv.get1
  obtain ⟨a, vs, rfl, hq, ru⟩ := h1.seq hg r
  rw [strs_rp ru] at hq
  exact ⟨a, bs, rfl, hq, hz, fun ys p e1 e2 hp => f.newL hg hp (k ys p e1 e2 (hg.fresh hp)) rp_strs⟩
/-- sorted, of ints -/
def omSortI : Sm := fun ts G R => ∃ (t : T) (xs : List Int), ts = [t] ∧ isL G t (xs.map T.int) ∧ xs.length < 64 ∧ ∀ (ys : List Int) p, ys.Perm xs → ys.Pairwise (· ≤ ·) → G p = none → R (.ref p) (put G p (.lst (ys.map T.int)))
theorem c_sortI : CallR X (.builtin "sorted") (liC X.K omSortI) := cr_sorted.imp fun xs H Q h => by
  obtain ⟨ts, G, R, rv, hg, ⟨t, bs, rfl, h1, hz, k⟩, f⟩ := h
  obtain ⟨v, rfl, r⟩ := rv.get1
  obtain ⟨a, vs, rfl, hq, ru⟩ := h1.seq hg r
  rw [ints_rp ru] at hq
  exact ⟨a, bs, rfl, hq, hz, fun ys p e1 e2 hp => f.newL hg hp (k ys p e1 e2 (hg.fresh hp)) rp_ints⟩
/-- list(..), tuple(..) of a list or a tuple -/
def omList : Sm := fun ts G R => ∃ t us, ts = [t] ∧ isSq G t us ∧ ∀ p, G p = none → R (.ref p) (put G p (.lst us))
theorem c_list : CallR X (.type "list") (liC X.K omList) := call_list_of.imp fun xs H Q h => by
  obtain ⟨ts, G, R, rv, hg, ⟨t, us, rfl, h1, k⟩, f⟩ := h
  obtain ⟨v, rfl, r⟩ := rv.get1
  obtain ⟨p, vs, rfl, hq, ru⟩ := h1.seq hg r
  exact ⟨p, vs, rfl, hq, fun l hl => f.newL hg hl (k l (hg.fresh hl)) ru⟩
def omTuple : Sm := fun ts G R => ∃ t us, ts = [t] ∧ isSq G t us ∧ us.length ≤ sizeLine ∧ R (.tup us) G
theorem call_tuple_ofF : CallR X (.type "tuple") (fun xs H Q => ∃ p ys, xs = [.ref p] ∧ ((SqL X.K H p ys ∧ ∀ l (o : Obj), o.dict = none → H l = none → Q (.ref l) (upd H l (.frz o (.tup ys)))) ∨ (SqT X.K H p ys ∧ Q (.ref p) H))) := by
  intro pins s σ H xs us Q I r h
  obtain ⟨p, ys, rfl, h⟩ := h
  obtain ⟨u, rfl, rx⟩ := vals1 r
  cases rx
  rcases h with ⟨hq, q⟩ | ⟨hq, q⟩
  · obtain ⟨its, r', pl, hz⟩ := I.list hq
    have hlen := r'.length
    refine call_tuple_list pl.isList (fun h' kp => ?_) (by simp only [List.size_toArray] <;> omega)
    have I1 : Inv X pins σ H { s with heap := h' } := I.kept (t' := s.toks) kp
    have I2 : Inv X pins σ (upd H h'.objs.size (.frz { cls := .type "tuple", data := .seq its.toArray } (.tup ys))) { s with heap := h'.push { cls := .type "tuple", data := .seq its.toArray } } :=
      I1.laid (t' := s.toks) (fun b o e => Heap.get?_push_of_some _ e) (Nat.le_refl _) (show ObjOk X.prog X.w _ _ _ (.frz _ (.tup ys)) from ⟨Heap.get?_push_size _ rfl, hz, its, r', PyProof.Rows.IsTup.new _ _⟩)
    exact ⟨.ref h'.objs.size, _, I2, rfl, q _ _ rfl (I1.hok.fresh (Nat.le_refl _))⟩
  · obtain ⟨its, r', pl, hz⟩ := I.tuple hq
    exact call_tuple_same pl ⟨.ref p, H, I, rfl, q⟩
theorem c_tuple : CallR X (.type "tuple") (liC X.K omTuple) := call_tuple_ofF.imp fun xs H Q h => by
  obtain ⟨ts, G, R, rv, hg, ⟨t, us, rfl, h1, hz, k⟩, f⟩ := h
  obtain ⟨v, rfl, r⟩ := rv.get1
  rcases h1 with rfl | h1
  · have r0 := r
    obtain ⟨p, vs, rfl, hq, _, ru⟩ := r.tupSq
    exact ⟨p, vs, rfl, .inr ⟨hq, f.val hg k r0⟩⟩
  · obtain ⟨p, vs, rfl, hq, ru⟩ := h1.seq hg r
    exact ⟨p, vs, rfl, .inl ⟨hq, fun l o ho hl => f.newT hg ho hl k ru hz⟩⟩

/-! ### isinstance -/
def tyN (G : Gp) : T → Option String
  | .non => some "NoneType"
  | .bl _ => some "bool"
  | .int _ => some "int"
  | .str _ => some "str"
  | .tup _ => some "tuple"
  | .pr _ => none
  | .cl _ => some "list"
  | .ref a => match G a with
    | some (.lst _) => some "list"
    | some (.dK _) => some "dict"
    | some (.dT _) => some "dict"
    | some (.tab _) => none
    | some (.lk _) => some "dict"
    | some (.ins _ _) => none
    | some (.fnc _ _) => none
    | some (.fnp _ _) => none
    | none => none
  | .ty _ => none
def isKind (a b : String) : Bool := a == b || (a == "bool" && b == "int")
def knownTy (b : String) : Prop := b ∈ ["int", "bool", "str", "list", "tuple", "dict"]
theorem kit_known {a b : String} {G : Gp} {t : T} (h : tyN G t = some a) (hb : knownTy b) : kitB a b = some (isKind a b) := by
  have ha : a ∈ ["NoneType", "bool", "int", "str", "tuple", "list", "dict"] := by
    cases t with
    | ref p =>
      unfold tyN at h
      cases e : G p with
      | none => simp [e] at h
      | some c => cases c <;> first | (simp [e] at h; done) | (simp [e] at h; subst h; simp)
    | ty n => simp [tyN] at h
    | pr ts => simp [tyN] at h
    | _ => (simp [tyN] at h; subst h; simp)
  have all : (["NoneType", "bool", "int", "str", "tuple", "list", "dict"].all fun x => ["int", "bool", "str", "list", "tuple", "dict"].all fun y => decide (kitB x y = some (isKind x y))) = true := by decide +kernel
  have h1 := List.all_eq_true.mp all a ha
  have h2 := List.all_eq_true.mp h1 b hb
  exact of_decide_eq_true h2
theorem tyX_rp {K : PySem.W.Frag} {H : Hp} {G : Gp} {x : V} {t : T} {a : String} (hg : RG K H G) (r : Rp K H x t) (h : tyN G t = some a) : TyX K H x (.type a) := by
  cases t with
  | non => cases r; cases h; exact .base .non
  | bl b => cases r; cases h; exact .base (.bl b)
  | int i => cases r; cases h; exact .base (.int i)
  | str z => cases r; cases h; exact .base (.str z)
  | tup ts =>
    cases h
    obtain ⟨p, vs, rfl, ⟨o, _, hq⟩, _⟩ := r
    exact .fTuple hq
  | pr ts => cases h
  | cl ts =>
    cases h
    obtain ⟨p, vs, rfl, hq, _⟩ := r
    rcases hq with ⟨o, hq⟩ | ⟨o, its, n, e, c, _⟩
    · exact .base (.frz hq)
    · exact .kList e c
  | ty n => cases h
  | ref p =>
    cases r
    unfold tyN at h
    cases e : G p with
    | none => simp [e] at h
    | some c =>
      cases c with
      | lst ts => simp [e] at h; subst h; obtain ⟨vs, q, _⟩ := hg _ _ e; exact .base (.lst q)
      | dK kvs => simp [e] at h; subst h; obtain ⟨vs, q, _⟩ := hg _ _ e; exact .base (.dK q)
      | dT kvs => simp [e] at h; subst h; obtain ⟨vs, q, _⟩ := hg _ _ e; exact .base (.dT q)
      | tab _ => simp [e] at h
      | ins _ _ => simp [e] at h
      | fnc _ _ => simp [e] at h
      | fnp _ _ => simp [e] at h
      | lk kvs => simp [e] at h; subst h; obtain ⟨od, vs, q, _⟩ := hg _ _ e; exact .fDict q
/-- one type, or a written tuple of them -/
def tysOf : T → Option (List String)
  | .ty n => some [n]
  | .tup ts => ts.mapM fun t => match t with
    | .ty n => some n
    | _ => none
  | _ => none
def omIsi : Sm := fun ts G R => ∃ t c a, ts = [t, .ty c] ∧ knownTy c ∧ tyN G t = some a ∧ R (.bl (isKind a c)) G
theorem c_isi : CallR X (.builtin "isinstance") (liC X.K omIsi) := call_isi.imp fun xs H Q h => by
  obtain ⟨ts, G, R, rv, hg, ⟨t, c, a, rfl, hc, ha, k⟩, f⟩ := h
  obtain ⟨v, w, rfl, r, r2⟩ := rv.get2
  cases r2
  exact ⟨v, .ty c, .type a, .type c, isKind a c, rfl, .ty c, tyX_rp hg r ha, kit_ty (kit_known ha hc), f.val hg k rfl⟩
theorem kit_two {K : PySem.W.Frag} {a b c : String} {G : Gp} {t : T} (h : tyN G t = some a) (hb : knownTy b) (hc : knownTy c) : PySem.W.kitAny K (.type a) [.type b, .type c] = some (isKind a b || isKind a c) := by
  have h1 : PySem.W.kitOne K (.type a) (.type b) = some (isKind a b) := kit_ty (kit_known h hb)
  have h2 : PySem.W.kitOne K (.type a) (.type c) = some (isKind a c) := kit_ty (kit_known h hc)
  unfold PySem.W.kitAny
  rw [h1]
  cases isKind a b with
  | true => rfl
  | false =>
    show PySem.W.kitAny K (.type a) [.type c] = _
    unfold PySem.W.kitAny
    rw [h2]
    cases isKind a c <;> rfl
/-- isinstance(e, (T1, T2)), the tuple written there -/
def mIsi2 (m : ME) (b c : String) : ME := fun r G R => m r G fun t G1 => ∃ a, knownTy b ∧ knownTy c ∧ tyN G1 t = some a ∧ R (.bl (isKind a b || isKind a c)) G1
theorem o_isi2 {e e1 e2 : Expr} {m : ME} {b c : String} {k : Nat} {p pos tpos : Pos} (he : OE X e m) (h1 : PE X e1 (tC (.ty b))) (h2 : PE X e2 (tC (.ty c))) (hg : Gl X "isinstance") (hm : X.mg "isinstance" = none)
    (hs1 : starEach [e, .Tuple [e1, e2] k tpos] X.env = (false, eval e X.env) :: starEach [.Tuple [e1, e2] k tpos] X.env := by rfl) (hs2 : starEach [.Tuple [e1, e2] k tpos] X.env = (false, eval (.Tuple [e1, e2] k tpos) X.env) :: starEach [] X.env := by rfl)
    (hs3 : starEach [e1, e2] X.env = (false, eval e1 X.env) :: starEach [e2] X.env := by rfl) (hs4 : starEach [e2] X.env = (false, eval e2 X.env) :: starEach [] X.env := by rfl)
    (hpl : (backTo pos (starEach [.Tuple [e1, e2] k tpos] X.env)).any (·.1) = false := by rfl) : OE X (.Call (.Name "isinstance" p) [e, .Tuple [e1, e2] k tpos] [] pos) (mIsi2 m b c) :=
  ⟨(pe_callB call_isiT hg hm PyProof.Rows.boot_isinstance (pa_cons he.ok (pa_cons (pe_tup (pa_cons h1 (pa_cons h2 pa_nil hs4) hs3)) pa_nil hs2) hs1) (by decide) (by decide) hs1 hpl).imp fun σ H Q q => by
    obtain ⟨r, G, R, hs, hg0, k, f⟩ := q
    refine ⟨r, G, _, hs, hg0, k, fun t G1 H1 x k1 l1 g1 r1 => ?_⟩
    obtain ⟨a, hb, hc, ha, k2⟩ := k1
    refine ⟨by show 2 ≤ sizeLine; decide, fun p0 hp => ?_⟩
    have ln := Le.new (o := HO.tup [.ty b, .ty c]) hp
    have g2 := g1.out (o := HO.tup [.ty b, .ty c]) (nt_none hp) (g1.fresh hp)
    exact ⟨x, p0, [.ty b, .ty c], .type a, [.type b, .type c], _, rfl, upd_same, .cons (.ty b) (.cons (.ty c) .nil), tyX_rp g2 (r1.le ln) ha, kit_two ha hb hc, f _ G1 _ _ k2 (l1.trans ln) g2 rfl⟩⟩

/-! ### a text times an int -/
def repS (x : Str) (n : Nat) : Str := ⟨(List.replicate n x.cps.toList).flatten.toArray⟩
theorem repS_fold (x : Str) : ∀ n : Nat, (⟨(List.replicate n x.cps).foldl (· ++ ·) #[]⟩ : Str) = repS x n := fun n => by
  have key : ∀ (n : Nat) (acc : Array Nat), (List.replicate n x.cps).foldl (· ++ ·) acc = acc ++ (List.replicate n x.cps.toList).flatten.toArray := by
    intro n
    induction n with
    | zero => intro acc; simp
    | succ n ih =>
      intro acc
      rw [List.replicate_succ, List.foldl_cons, ih, List.replicate_succ, List.flatten_cons]
      apply Array.ext'
      simp
  unfold repS
  rw [key]
  simp
theorem repS_length (x : Str) (n : Nat) : (repS x n).length = n * x.length := by
  unfold repS Str.length
  simp [List.length_flatten]
def oMulS : O2 := fun s t G R => ∃ x k, s = .str x ∧ t = .int k ∧ k < 2 ^ 63 ∧ -(2 ^ 63) ≤ k ∧ x.length * k.toNat ≤ sizeLine ∧ R (.str (repS x k.toNat)) G
theorem op_oMulS : OpR X (binaryOp .Mult) (liO2 X.K oMulS) := by
  intro pins s σ H x y v u Q I rx ry h
  obtain ⟨st, tt, G, R, r1, r2, hg, ⟨z, k, rfl, rfl, h1, h0, hz, hk⟩, f⟩ := h
  cases r1; cases r2
  obtain ⟨t, rfl⟩ := rx
  obtain ⟨t', rfl⟩ := ry
  have q := f.val hg hk (v := .str (repS z k.toNat)) rfl
  have e1 : decide (k < -(2 ^ 63 : Int)) = false := decide_eq_false (by omega)
  have e2 : decide (k ≥ 2 ^ 63) = false := decide_eq_false (by omega)
  refine PySem.P.mul_str (by rw [e1, e2]; rfl) (fun a b => ?_) (fun a b => decide_eq_false (by omega)) ?_
  · have hzz : (z.length : Int) * k ≤ 2 ^ 24 := by
      have : ((z.length * k.toNat : Nat) : Int) ≤ ((2 ^ 24 : Nat) : Int) := by exact_mod_cast hz
      rw [Int.natCast_mul, Int.toNat_of_nonneg (by omega)] at this
      exact this
    have hk1 : (1 : Int) ≤ k := by omega
    intro hc
    have : (2 ^ 63 - 1 : Int) / k < z.length := by omega
    have h3 := Int.lt_mul_of_ediv_lt (by omega : 0 < k) this
    omega
  · by_cases hn : k < 1
    · rw [if_pos hn]
      have : k.toNat = 0 := by omega
      rw [this] at q
      exact ⟨by decide, ⟨.str (repS z 0), H, I.tok _, ⟨_, rfl⟩, q⟩⟩
    · rw [if_neg hn]
      by_cases hb : (k == 1 || z.length == 0) = true
      · rw [if_pos hb]
        have e : repS z k.toNat = z := by
          rcases Bool.or_eq_true_iff.mp hb with b | b
          · have : k = 1 := by simpa using b
            subst this
            unfold repS
            simp
          · have hl : z.length = 0 := by simpa using b
            have hz0 : z.cps = #[] := Array.eq_empty_of_size_eq_zero hl
            unfold repS
            cases z with
            | mk c => simp only at hz0; subst hz0; simp
        rw [e] at q
        exact ⟨.str z, H, I, ⟨_, rfl⟩, q⟩
      · rw [if_neg hb, repS_fold]
        refine ⟨?_, ⟨.str (repS z k.toNat), H, I.tok _, ⟨_, rfl⟩, q⟩⟩
        rw [repS_length, Nat.mul_comm]
        exact hz
end
end Mi

set_option Elab.async false
set_option linter.all false
set_option maxRecDepth 100000
namespace Mi
open PySem L2
/-! ### what a dict holds -/
section
variable {κ : Type} [DecidableEq κ]
def lookT (kvs : List (κ × T)) (k : κ) : Option T := (kvs.find? fun kv => decide (kv.1 = k)).map (·.2)
def putT (kvs : List (κ × T)) (k : κ) (t : T) : List (κ × T) :=
  if (kvs.any fun kv => decide (kv.1 = k)) = true then kvs.map (fun kv => if kv.1 = k then (kv.1, t) else kv) else kvs ++ [(k, t)]
def RpO (K : PySem.W.Frag) (H : Hp) : Option V → Option T → Prop
  | some v, some t => Rp K H v t
  | none, none => True
  | _, _ => False
variable {K : PySem.W.Frag} {H : Hp}
theorem Rkv.nil_r {vs : List (κ × V)} (h : Rkv K H vs []) : vs = [] := by
  have := h.1
  simpa using this
theorem Rkv.cons_r {vs : List (κ × V)} {k : κ} {t : T} {ts : List (κ × T)} (h : Rkv K H vs ((k, t) :: ts)) : ∃ v r, vs = (k, v) :: r ∧ Rp K H v t ∧ Rkv K H r ts := by
  obtain ⟨h1, h2⟩ := h
  cases vs with
  | nil => simp at h1
  | cons p r =>
    obtain ⟨k', v⟩ := p
    simp only [List.map_cons, List.cons.injEq] at h1
    obtain ⟨rfl, h1⟩ := h1
    obtain ⟨v', q, e, r1, r2⟩ := h2
    simp only [List.map_cons, List.cons.injEq] at e
    obtain ⟨rfl, rfl⟩ := e
    exact ⟨v, r, rfl, r1, h1, r2⟩
theorem Rkv.cons {vs : List (κ × V)} {k : κ} {v : V} {t : T} {ts : List (κ × T)} (h : Rp K H v t) (h2 : Rkv K H vs ts) : Rkv K H ((k, v) :: vs) ((k, t) :: ts) :=
  ⟨by simp [h2.1], ⟨v, _, rfl, h, h2.2⟩⟩
theorem Rkv.len {vs : List (κ × V)} {ts : List (κ × T)} (h : Rkv K H vs ts) : vs.length = ts.length := by
  have := congrArg List.length h.1
  simpa using this
theorem Rkv.look (k : κ) : ∀ {ts : List (κ × T)} {vs : List (κ × V)}, Rkv K H vs ts → RpO K H (valV vs k) (lookT ts k)
  | [], vs, h => by rw [h.nil_r]; exact trivial
  | (k', t) :: ts, vs, h => by
    obtain ⟨v, r, rfl, r1, r2⟩ := h.cons_r
    unfold valV lookT
    by_cases e : k' = k
    · simp only [List.find?_cons, e, decide_true, Option.map_some]
      exact r1
    · have ih := Rkv.look k r2
      unfold valV lookT at ih
      simp only [List.find?_cons, e, decide_false]
      exact ih
theorem Rkv.any (k : κ) : ∀ {ts : List (κ × T)} {vs : List (κ × V)}, Rkv K H vs ts → (vs.any fun kv => decide (kv.1 = k)) = ts.any fun kv => decide (kv.1 = k)
  | [], vs, h => by rw [h.nil_r]; rfl
  | (k', t) :: ts, vs, h => by
    obtain ⟨v, r, rfl, r1, r2⟩ := h.cons_r
    simp only [List.any_cons]
    rw [Rkv.any k r2]
theorem Rkv.mapset (k : κ) {v : V} {t : T} (hv : Rp K H v t) : ∀ {ts : List (κ × T)} {vs : List (κ × V)}, Rkv K H vs ts → Rkv K H (vs.map fun kv => if kv.1 = k then (kv.1, v) else kv) (ts.map fun kv => if kv.1 = k then (kv.1, t) else kv)
  | [], vs, h => by rw [h.nil_r]; exact ⟨rfl, rfl⟩
  | (k', t') :: ts, vs, h => by
    obtain ⟨v', r, rfl, r1, r2⟩ := h.cons_r
    simp only [List.map_cons]
    by_cases e : k' = k
    · simp only [e, if_true]
      exact Rkv.cons hv (Rkv.mapset k hv r2)
    · simp only [e, if_false]
      exact Rkv.cons r1 (Rkv.mapset k hv r2)
theorem Rkv.app {vs ws : List (κ × V)} {ts us : List (κ × T)} (h : Rkv K H vs ts) (h2 : Rkv K H ws us) : Rkv K H (vs ++ ws) (ts ++ us) := by
  refine ⟨by rw [List.map_append, List.map_append, h.1, h2.1], ?_⟩
  rw [List.map_append, List.map_append]
  exact h.2.append h2.2
theorem Rkv.put {vs : List (κ × V)} {ts : List (κ × T)} {v : V} {t : T} (h : Rkv K H vs ts) (k : κ) (hv : Rp K H v t) : Rkv K H (putK vs k v) (putT ts k t) := by
  unfold putK putT
  rw [h.any k]
  split
  · exact h.mapset k hv
  · exact h.app ⟨rfl, ⟨v, [], rfl, hv, rfl⟩⟩
end
def kT : Key → T
  | .inl i => .int i
  | .inr x => .str x
theorem kT_rp {K : PySem.W.Frag} {H : Hp} {x : V} {k : Key} (h : Rp K H x (kT k)) : x = kV k := by
  cases k <;> exact h
theorem kTs_rp {K : PySem.W.Frag} {H : Hp} : ∀ {ks : List Key} {vs : List V}, Rps K H vs (ks.map kT) → vs = ks.map kV
  | [], vs, h => h
  | k :: ks, vs, h => by
    obtain ⟨v, r, rfl, r1, r2⟩ := h
    rw [kT_rp r1, kTs_rp r2]; rfl
/-- what the dict at a holds at t -/
def gtT (G : Gp) (a : Addr) (t : T) (o : Option T) : Prop :=
  (∃ kvs k, (G a = some (.dK kvs) ∨ G a = some (.lk kvs)) ∧ t = kT k ∧ o = lookT kvs k) ∨ ∃ kvs ks, G a = some (.dT kvs) ∧ t = .pr (ks.map kT) ∧ o = lookT kvs ks
theorem gtT.get {K : PySem.W.Frag} {H : Hp} {G : Gp} {a : Addr} {t : T} {o : Option T} {y : V} (hg : RG K H G) (h : gtT G a t o) (ry : Rp K H y t) : ∃ ov, DGet H a y ov ∧ RpO K H ov o := by
  rcases h with ⟨kvs, k, e | e, rfl, rfl⟩ | ⟨kvs, ks, e, rfl, rfl⟩
  · obtain ⟨vs, e1, rk⟩ := hg _ _ e
    rw [kT_rp ry]
    exact ⟨_, DGet.k e1, rk.look k⟩
  · obtain ⟨od, vs, e1, rk⟩ := hg _ _ e
    rw [kT_rp ry]
    exact ⟨_, .inl ⟨vs, k, .inr ⟨od, e1⟩, rfl, rfl⟩, rk.look k⟩
  · obtain ⟨vs, e1, rk⟩ := hg _ _ e
    obtain ⟨p, ws, rfl, hp, _, rw⟩ := ry
    rw [kTs_rp rw] at hp
    exact ⟨_, DGet.t e1 hp, rk.look ks⟩
/-- the mini heap behind a[t] = u -/
def ptT (G : Gp) (a : Addr) (t u : T) (G' : Gp) : Prop :=
  (∃ kvs k, G a = some (.dK kvs) ∧ t = kT k ∧ kvs.length < sizeLine ∧ G' = put G a (.dK (putT kvs k u))) ∨ ∃ kvs ks, G a = some (.dT kvs) ∧ t = .pr (ks.map kT) ∧ kvs.length < sizeLine ∧ G' = put G a (.dT (putT kvs ks u))
theorem ptT.put {K : PySem.W.Frag} {H : Hp} {G G' : Gp} {a : Addr} {t u : T} {y v : V} (hg : RG K H G) (h : ptT G a t u G') (ry : Rp K H y t) (rv : Rp K H v u) : ∃ H', DPut H a y v H' ∧ Le H H' ∧ RG K H' G' := by
  rcases h with ⟨kvs, k, e, rfl, hz, rfl⟩ | ⟨kvs, ks, e, rfl, hz, rfl⟩
  · obtain ⟨vs, e1, rk⟩ := hg _ _ e
    rw [kT_rp ry]
    have l := Le.wr (o := .dK (putK vs k v)) (hg.notup e)
    exact ⟨_, DPut.k e1 (by rw [rk.len]; exact hz), l, hg.wr (hg.notup e) ⟨_, upd_same, (rk.put k rv).le l⟩⟩
  · obtain ⟨vs, e1, rk⟩ := hg _ _ e
    obtain ⟨p, ws, rfl, hp, _, rw⟩ := ry
    rw [kTs_rp rw] at hp
    have l := Le.wr (o := .dT (putK vs ks v)) (hg.notup e)
    exact ⟨_, DPut.t e1 hp (by rw [rk.len]; exact hz), l, hg.wr (hg.notup e) ⟨_, upd_same, (rk.put ks rv).le l⟩⟩
section
variable {X : Cx} {o i e f value : Expr} {mo mi me mf mv : ME} {pos pos' apos cpos : Pos}
def mDGet (mo mi : ME) : ME := fun r G R => mo r G fun s G1 => mi r G1 fun t G2 => ∃ a u, s = .ref a ∧ gtT G2 a t (some u) ∧ R u G2
theorem o_dget (hu : X.A.units + 1 < cLine) (ho : OE X o mo) (hi : OE X i mi) (hs : NoSl i) : OE X (.Subscript o i pos) (mDGet mo mi) := ⟨(pe_dget hu ho.ok hi.ok hs).imp fun σ H Q q => by
  obtain ⟨r, G, R, hs, hg, k, f⟩ := q
  refine ⟨r, G, _, hs, hg, k, fun s G1 H1 x k1 l1 g1 r1 => ⟨r, G1, _, hs.le l1, g1, k1, fun t G2 H2 y k2 l2 g2 r2 => ?_⟩⟩
  obtain ⟨a, u, rfl, h, k3⟩ := k2
  obtain ⟨ov, d, ro⟩ := h.get g2 r2
  cases ov with
  | none => exact ro.elim
  | some v => exact ⟨a, v, r1, d, (f.le (l1.trans l2)).val g2 k3 ro⟩⟩
def mDIn (neg : Bool) (mi mo : ME) : ME := fun r G R => mi r G fun t G1 => mo r G1 fun s G2 => ∃ a u, s = .ref a ∧ gtT G2 a t u ∧ R (.bl (if neg then !u.isSome else u.isSome)) G2
theorem din_li {K : PySem.W.Frag} {mi mo : ME} {σ : St} {H : Hp} {Q : VK} (h : liE K (mDIn false mi mo) σ H Q) : tDIn (liE K mi) (liE K mo) σ H Q := by
  obtain ⟨r, G, R, hs, hg, k, f⟩ := h
  refine ⟨r, G, _, hs, hg, k, fun t G1 H1 y k1 l1 g1 r1 => ⟨r, G1, _, hs.le l1, g1, k1, fun s G2 H2 x k2 l2 g2 r2 => ?_⟩⟩
  obtain ⟨a, u, rfl, h, k3⟩ := k2
  obtain ⟨ov, d, ro⟩ := h.get g2 (r1.le l2)
  refine ⟨a, ov, r2, d, ?_⟩
  have e : ov.isSome = u.isSome := by cases ov <;> cases u <;> first | rfl | exact ro.elim
  rw [e]
  exact (f.le (l1.trans l2)).val g2 k3 rfl
theorem dnin_li {K : PySem.W.Frag} {mi mo : ME} {σ : St} {H : Hp} {Q : VK} (h : liE K (mDIn true mi mo) σ H Q) : tDNotIn (liE K mi) (liE K mo) σ H Q := by
  obtain ⟨r, G, R, hs, hg, k, f⟩ := h
  refine ⟨r, G, _, hs, hg, k, fun t G1 H1 y k1 l1 g1 r1 => ⟨r, G1, _, hs.le l1, g1, k1, fun s G2 H2 x k2 l2 g2 r2 => ?_⟩⟩
  obtain ⟨a, u, rfl, h, k3⟩ := k2
  obtain ⟨ov, d, ro⟩ := h.get g2 (r1.le l2)
  refine ⟨a, ov, r2, d, ?_⟩
  have e : ov.isSome = u.isSome := by cases ov <;> cases u <;> first | rfl | exact ro.elim
  rw [e]
  exact (f.le (l1.trans l2)).val g2 k3 rfl
theorem tB_li {K : PySem.W.Frag} {m : ME} {te : TE} (h : ∀ σ H Q, liE K m σ H Q → te σ H Q) {σ : St} {H : Hp} {Q : Bool → Hp → Prop} (q : liT K (mB m) σ H Q) : tB te σ H Q := h _ _ _ (test_li q)
theorem o_din (hu : X.A.units + 1 < cLine) (hi : OE X i mi) (ho : OE X o mo) (hb : behindInMarks .In o = false := by rfl) : OE X (.Compare i [.In] [o] pos) (mDIn false mi mo) := ⟨(pe_cmp (pc_din hu hi.ok ho.ok) hb).imp fun _ _ _ q => din_li q⟩
theorem t_din (hu : X.A.units + 1 < cLine) (hi : OE X i mi) (ho : OE X o mo) (hb : behindInMarks .In o = false := by rfl) : OT X (.Compare i [.In] [o] pos) (mB (mDIn false mi mo)) := ⟨(pt_cmp (pc_din hu hi.ok ho.ok) hb).imp fun _ _ _ q => tB_li (fun _ _ _ z => din_li z) q⟩
theorem o_dnin (hu : X.A.units + 1 < cLine) (hi : OE X i mi) (ho : OE X o mo) (hb : behindInMarks .NotIn o = false := by rfl) : OE X (.Compare i [.NotIn] [o] pos) (mDIn true mi mo) := ⟨(pe_cmp (pc_dnotin hu hi.ok ho.ok) hb).imp fun _ _ _ q => dnin_li q⟩
theorem t_dnin (hu : X.A.units + 1 < cLine) (hi : OE X i mi) (ho : OE X o mo) (hb : behindInMarks .NotIn o = false := by rfl) : OT X (.Compare i [.NotIn] [o] pos) (mB (mDIn true mi mo)) := ⟨(pt_cmp (pc_dnotin hu hi.ok ho.ok) hb).imp fun _ _ _ q => tB_li (fun _ _ _ z => dnin_li z) q⟩
def msDPut (mo mi mv : ME) : MS := fun M r G => mv r G fun u G1 => mo r G1 fun s G2 => mi r G2 fun t G3 => ∃ a G4, s = .ref a ∧ ptT G3 a t u G4 ∧ M.nx r G4
theorem s_dput (hu : X.A.units + 1 < cLine) (ho : OE X o mo) (hi : OE X i mi) (hv : OE X value mv) (hs : swapsWith value (some (.Subscript o i pos')) pos.line X.env = pure false := by rfl) :
    OS X (.Assign [.Subscript o i pos'] value pos) (msDPut mo mi mv) := ⟨(ps_dput hu ho.ok hi.ok hv.ok hs).imp fun D σ H q => by
  obtain ⟨r, G, M, hs, hg, k, f, _⟩ := q
  refine ⟨r, G, _, hs, hg, k, fun u G1 H1 v k1 l1 g1 r1 => ⟨r, G1, _, hs.le l1, g1, k1, fun s G2 H2 x k2 l2 g2 r2 => ⟨r, G2, _, hs.le (l1.trans l2), g2, k2, fun t G3 H3 y k3 l3 g3 r3 => ?_⟩⟩⟩
  obtain ⟨a, G4, rfl, h, k4⟩ := k3
  obtain ⟨H4, d, l4, g4⟩ := h.put g3 r3 (r1.le (l2.trans l3))
  have la := l1.trans (l2.trans (l3.trans l4))
  exact ⟨a, H4, r2, d, f r G4 σ H4 k4 la (hs.le la) g4⟩⟩
def osDct : OSt := fun s t u G R => ∃ a G4, s = .ref a ∧ ptT G a t u G4 ∧ R G4
theorem set_osDct (hu : X.A.units + 1 < cLine) : PSet X (liSt X.K osDct) := PSet.imp (r := rSetD) (set_dict hu) fun x y v H Q h => by
  obtain ⟨s, t, u, G, R, rx, ry, rv, hg, ⟨a, G4, rfl, h, k⟩, f⟩ := h
  obtain ⟨H4, d, l4, g4⟩ := h.put hg ry rv
  exact ⟨a, H4, rx, d, f G4 H4 k l4 g4⟩
def isDct (G : Gp) (a : Addr) : Prop := (∃ kvs, G a = some (.dK kvs)) ∨ (∃ kvs, G a = some (.dT kvs)) ∨ ∃ kvs, G a = some (.lk kvs)
theorem isDct.isD {K : PySem.W.Frag} {H : Hp} {G : Gp} {a : Addr} (hg : RG K H G) (h : isDct G a) : IsD H a := by
  rcases h with ⟨kvs, e⟩ | ⟨kvs, e⟩ | ⟨kvs, e⟩
  · obtain ⟨vs, e, _⟩ := hg _ _ e; exact .inl ⟨vs, .inl e⟩
  · obtain ⟨vs, e, _⟩ := hg _ _ e; exact .inr ⟨vs, .inl e⟩
  · obtain ⟨od, vs, e, _⟩ := hg _ _ e; exact .inl ⟨vs, .inr ⟨od, e⟩⟩
def mGet1 (mo me : ME) : ME := fun r G R => mo r G fun s G1 => ∃ a, s = .ref a ∧ isDct G1 a ∧ me r G1 fun t G2 => ∃ u, gtT G2 a t u ∧ R (u.getD .non) G2
theorem o_get1 (hu : X.A.units + 1 < cLine) (ho : OE X o mo) (he : OE X e me) (m : M1 X o "get" apos e cpos) : OE X (.Call (.Attribute o "get" apos) [e] [] cpos) (mGet1 mo me) := ⟨(pe_dget1 hu ho.ok he.ok m).imp fun σ H Q q => by
  obtain ⟨r, G, R, hs, hg, k, f⟩ := q
  refine ⟨r, G, _, hs, hg, k, fun s G1 H1 x k1 l1 g1 r1 => ?_⟩
  obtain ⟨a, rfl, hd, k1⟩ := k1
  refine ⟨a, r1, hd.isD g1, r, G1, _, hs.le l1, g1, k1, fun t G2 H2 y k2 l2 g2 r2 => ?_⟩
  obtain ⟨u, h, k3⟩ := k2
  obtain ⟨ov, d, ro⟩ := h.get g2 r2
  refine ⟨ov, d, (f.le (l1.trans l2)).val g2 k3 ?_⟩
  cases ov <;> cases u <;> first | exact ro | exact ro.elim | rfl⟩
def mGet2 (mo me mf : ME) : ME := fun r G R => mo r G fun s G1 => ∃ a, s = .ref a ∧ isDct G1 a ∧ me r G1 fun t G2 => mf r G2 fun w G3 => ∃ u, gtT G3 a t u ∧ R (u.getD w) G3
theorem o_get2 (hu : X.A.units + 1 < cLine) (ho : OE X o mo) (he : OE X e me) (hf : OE X f mf) (m : M2 X o "get" apos e f cpos) : OE X (.Call (.Attribute o "get" apos) [e, f] [] cpos) (mGet2 mo me mf) := ⟨(pe_dget2 hu ho.ok he.ok hf.ok m).imp fun σ H Q q => by
  obtain ⟨r, G, R, hs, hg, k, f⟩ := q
  refine ⟨r, G, _, hs, hg, k, fun s G1 H1 x k1 l1 g1 r1 => ?_⟩
  obtain ⟨a, rfl, hd, k1⟩ := k1
  refine ⟨a, r1, hd.isD g1, r, G1, _, hs.le l1, g1, k1, fun t G2 H2 y k2 l2 g2 r2 => ?_⟩
  refine ⟨r, G2, _, hs.le (l1.trans l2), g2, k2, fun w G3 H3 z k3 l3 g3 r3 => ?_⟩
  obtain ⟨u, h, k4⟩ := k3
  obtain ⟨ov, d, ro⟩ := h.get g3 (r2.le l3)
  refine ⟨ov, d, (f.le (l1.trans (l2.trans l3))).val g3 k4 ?_⟩
  cases ov <;> cases u <;> first | exact ro | exact ro.elim | exact r3⟩
def mSetd (mo me mf : ME) : ME := fun r G R => mo r G fun s G1 => ∃ a, s = .ref a ∧ isDct G1 a ∧ me r G1 fun t G2 => mf r G2 fun w G3 => ∃ kvs k, G3 a = some (.dK kvs) ∧ t = kT k ∧ kvs.length < sizeLine ∧
  (∀ u, lookT kvs k = some u → R u G3) ∧ (lookT kvs k = none → R w (put G3 a (.dK (putT kvs k w))))
theorem o_setd (ho : OE X o mo) (he : OE X e me) (hf : OE X f mf) (m : M2 X o "setdefault" apos e f cpos) : OE X (.Call (.Attribute o "setdefault" apos) [e, f] [] cpos) (mSetd mo me mf) := ⟨(pe_dsetd ho.ok he.ok hf.ok m).imp fun σ H Q q => by
  obtain ⟨r, G, R, hs, hg, k, f⟩ := q
  refine ⟨r, G, _, hs, hg, k, fun s G1 H1 x k1 l1 g1 r1 => ?_⟩
  obtain ⟨a, rfl, hd, k1⟩ := k1
  refine ⟨a, r1, hd.isD g1, r, G1, _, hs.le l1, g1, k1, fun t G2 H2 y k2 l2 g2 r2 => ?_⟩
  refine ⟨r, G2, _, hs.le (l1.trans l2), g2, k2, fun w G3 H3 z k3 l3 g3 r3 => ?_⟩
  obtain ⟨kvs, kk, e, rfl, hz, k4, k5⟩ := k3
  obtain ⟨vs, e1, rk⟩ := g3 _ _ e
  have ro := rk.look kk
  have f3 := f.le (l1.trans (l2.trans l3))
  refine ⟨vs, kk, e1, kT_rp r2, by rw [rk.len]; exact hz, fun v hv => ?_, fun hv => ?_⟩
  · rw [hv] at ro
    cases hl : lookT kvs kk with
    | none => rw [hl] at ro; exact ro.elim
    | some u => rw [hl] at ro; exact f3.val g3 (k4 u hl) ro
  · rw [hv] at ro
    cases hl : lookT kvs kk with
    | some u => rw [hl] at ro; exact ro.elim
    | none =>
      have l := Le.wr (o := .dK (putK vs kk z)) (g3.notup e)
      exact f3.wr g3 e (k5 hl) ⟨_, upd_same, (rk.put kk r3).le l⟩ r3⟩
def mDNew : ME := fun _ G R => ∀ p, G p = none → R (.ref p) (put G p (.dK []))
theorem o_dnew : OE X (.Dict [] [] pos) mDNew := ⟨pe_dnewK.imp fun σ H Q q => by
  obtain ⟨r, G, R, hs, hg, k, f⟩ := q
  exact fun p hp => f.newC hg hp (k p (hg.fresh hp)) ⟨[], upd_same, rfl, rfl⟩⟩
def mDNewT : ME := fun _ G R => ∀ p, G p = none → R (.ref p) (put G p (.dT []))
theorem o_dnewT : OE X (.Dict [] [] pos) mDNewT := ⟨pe_dnewT.imp fun σ H Q q => by
  obtain ⟨r, G, R, hs, hg, k, f⟩ := q
  exact fun p hp => f.newC hg hp (k p (hg.fresh hp)) ⟨[], upd_same, rfl, rfl⟩⟩
/-- {k: v, ..}, the keys written texts -/
def mPairs : List (Str × ME) → Env → Gp → (List (Key × T) → Gp → Prop) → Prop
  | [], _, G, R => R [] G
  | (k, m) :: ps, r, G, R => m r G fun t G1 => mPairs ps r G1 fun kvs G2 => R ((.inr k, t) :: kvs) G2
def mergeT (kvs more : List (Key × T)) : List (Key × T) := more.foldl (fun acc kv => putT acc kv.1 kv.2) kvs
def mDisp (ps : List (Str × ME)) : ME := fun r G R => ∀ p, G p = none → mPairs ps r (put G p (.dK [])) fun kvs G2 => G2 p = some (.dK []) ∧ kvs.length ≤ 15 ∧ R (.ref p) (put G2 p (.dK (mergeT [] kvs)))
/-- the terms of a display, one by one -/
structure OPs (X : Cx) (pos : Pos) (keys : List (Option Expr)) (values : List Expr) (ps : List (Str × ME)) (trs : List (TE × TE)) : Prop where
  ok : PPs X pos keys values trs
  imp : ∀ σ H (Q : List (V × V) → Hp → Prop) r G R, RS X.K H σ r → RG X.K H G → mPairs ps r G R → (∀ kvs G' H' vs, R kvs G' → Le H H' → RG X.K H' G' → Rkv X.K H' vs kvs → Q (vs.map fun kv => (kV kv.1, kv.2)) H') → tPairs trs σ H Q
theorem ops_nil : OPs X pos [] [] [] [] := ⟨pps_nil, fun σ H Q r G R hs hg k f => f [] G H [] k (Le.refl H) hg ⟨rfl, rfl⟩⟩
theorem ops_cons {k v : Expr} {x : Str} {ks : List (Option Expr)} {vs : List Expr} {m : ME} {ps : List (Str × ME)} {trs : List (TE × TE)} (hk : PE X k (tC (.str x))) (hv : OE X v m) (h : OPs X pos ks vs ps trs) :
    OPs X pos (some k :: ks) (v :: vs) ((x, m) :: ps) ((tC (.str x), liE X.K m) :: trs) :=
  ⟨pps_cons hk hv.ok h.ok, fun σ H Q r G R hs hg k f => ⟨r, G, _, hs, hg, k, fun t G1 H1 v k1 l1 g1 r1 => h.imp σ H1 _ r G1 _ (hs.le l1) g1 k1 fun kvs G2 H2 ws k2 l2 g2 r2 => f ((.inr x, t) :: kvs) G2 H2 ((.inr x, v) :: ws) k2 (l1.trans l2) g2 (Rkv.cons (r1.le l2) r2)⟩⟩
theorem Rkv.merge {K : PySem.W.Frag} {H : Hp} : ∀ {more : List (Key × T)} {mv : List (Key × V)} {vs : List (Key × V)} {ts : List (Key × T)}, Rkv K H mv more → Rkv K H vs ts → Rkv K H (mergeK vs mv) (mergeT ts more)
  | [], mv, vs, ts, h, h2 => by rw [h.nil_r]; exact h2
  | (k, t) :: more, mv, vs, ts, h, h2 => by
    obtain ⟨v, r, rfl, r1, r2⟩ := h.cons_r
    show Rkv K H (mergeK (putK vs k v) r) (mergeT (putT ts k t) more)
    exact Rkv.merge (more := more) r2 (h2.put k r1)
theorem o_disp {keys : List (Option Expr)} {values : List Expr} {ps : List (Str × ME)} {trs : List (TE × TE)} (h : OPs X pos keys values ps trs) (hall : keys.all (·.isSome) = true := by rfl) (hl : keys.length = values.length := by rfl) (h0 : keys ≠ [] := by simp) (h15 : keys.length ≤ 15 := by decide) :
    OE X (.Dict keys values pos) (mDisp ps) := ⟨(pe_disp h.ok hall hl h0 h15).imp fun σ H Q q => by
  obtain ⟨r, G, R, hs, hg, k, f⟩ := q
  intro p hp
  have ln := Le.new (o := HO.dK []) hp
  refine h.imp σ _ _ r _ _ (hs.le ln) (hg.wr (nt_none hp) (c := .dK []) ⟨[], upd_same, rfl, rfl⟩) (k p (hg.fresh hp)) fun kvs G2 H2 vs k2 l2 g2 r2 => ?_
  obtain ⟨e, hz, k3⟩ := k2
  obtain ⟨ws, e1, rk⟩ := g2 _ _ e
  have : ws = [] := rk.nil_r
  subst this
  refine ⟨e1, vs, rfl, by rw [r2.len]; exact hz, ?_⟩
  have l := Le.wr (o := .dK (mergeK [] vs)) (g2.notup e)
  exact (f.le (ln.trans l2)).wr g2 e k3 ⟨_, upd_same, (Rkv.merge (vs := []) (ts := []) r2 ⟨rfl, rfl⟩).le l⟩ rfl⟩
/-- dict(d) -/
def omDictD : Sm := fun ts G R => ∃ a kvs, ts = [.ref a] ∧ G a = some (.dK kvs) ∧ ∀ p, G p = none → R (.ref p) (put G p (.dK kvs))
theorem c_dictD : CallR X (.type "dict") (liC X.K omDictD) := call_dictD.imp fun xs H Q h => by
  obtain ⟨ts, G, R, rv, hg, ⟨a, kvs, rfl, e, k⟩, f⟩ := h
  obtain ⟨v, rfl, r⟩ := rv.get1
  cases r
  obtain ⟨vs, e1, rk⟩ := hg _ _ e
  exact ⟨a, vs, rfl, .inl e1, fun p hp => f.newC hg hp (k p (hg.fresh hp)) ⟨vs, upd_same, rk.le (Le.new hp)⟩⟩
end
end Mi

set_option Elab.async false
set_option linter.all false
set_option maxRecDepth 100000
namespace Mi
open PySem L2
section
variable {X : Cx} {a b e : Expr} {ma mb m : ME} {mas : MA} {pos p : Pos} {tg : Expr} {rest : List Expr}
/-! ### and, or, not as values, by truth -/
def mOrV (ma mb : ME) : ME := fun r G R => ma r G fun t G1 => ∃ k, truT G1 t k ∧ if k = true then R t G1 else mb r G1 R
def mAndV (ma mb : ME) : ME := fun r G R => ma r G fun t G1 => ∃ k, truT G1 t k ∧ if k = true then mb r G1 R else R t G1
def mNotV (ma : ME) : ME := fun r G R => ma r G fun t G1 => ∃ k, truT G1 t k ∧ R (.bl (!k)) G1
theorem o_or (ha : OE X a ma) (hb : OE X (.BoolOp .Or (b :: rest) pos) mb) : OE X (.BoolOp .Or (a :: b :: rest) pos) (mOrV ma mb) := ⟨(pe_orT ha.ok hb.ok).imp fun σ H Q q => by
  obtain ⟨r, G, R, hs, hg, k, f⟩ := q
  refine ⟨r, G, _, hs, hg, k, fun t G1 H1 x k1 l1 g1 r1 => ?_⟩
  obtain ⟨c, h, k2⟩ := k1
  refine ⟨c, tru_rp g1 r1 h, ?_⟩
  cases c with
  | true => rw [if_pos rfl] at k2; exact iteT ((f.le l1).val g1 k2 r1)
  | false => rw [if_neg Bool.false_ne_true] at k2; exact iteF ⟨r, G1, R, hs.le l1, g1, k2, f.le l1⟩⟩
theorem o_and (ha : OE X a ma) (hb : OE X (.BoolOp .And (b :: rest) pos) mb) : OE X (.BoolOp .And (a :: b :: rest) pos) (mAndV ma mb) := ⟨(pe_andT ha.ok hb.ok).imp fun σ H Q q => by
  obtain ⟨r, G, R, hs, hg, k, f⟩ := q
  refine ⟨r, G, _, hs, hg, k, fun t G1 H1 x k1 l1 g1 r1 => ?_⟩
  obtain ⟨c, h, k2⟩ := k1
  refine ⟨c, tru_rp g1 r1 h, ?_⟩
  cases c with
  | true => rw [if_pos rfl] at k2; exact iteT ⟨r, G1, R, hs.le l1, g1, k2, f.le l1⟩
  | false => rw [if_neg Bool.false_ne_true] at k2; exact iteF ((f.le l1).val g1 k2 r1)⟩
theorem o_one {op : BoolOp} (h : OE X a ma) : OE X (.BoolOp op [a] pos) ma := ⟨pe_one h.ok⟩
theorem o_not (ha : OE X a ma) : OE X (.UnaryOp .Not a pos) (mNotV ma) := ⟨(pe_notT ha.ok).imp fun σ H Q q => by
  obtain ⟨r, G, R, hs, hg, k, f⟩ := q
  refine ⟨r, G, _, hs, hg, k, fun t G1 H1 x k1 l1 g1 r1 => ?_⟩
  obtain ⟨c, h, k2⟩ := k1
  exact ⟨c, tru_rp g1 r1 h, (f.le l1).val g1 k2 rfl⟩⟩
def mNeg (m : ME) : ME := fun r G R => m r G fun t G1 => ∃ i, t = .int i ∧ R (.int (-i)) G1
theorem o_neg (h : OE X a ma) : OE X (.UnaryOp .USub a pos) (mNeg ma) := ⟨(pe_un un_neg h.ok).imp fun σ H Q q => by
  obtain ⟨r, G, R, hs, hg, k, f⟩ := q
  refine ⟨r, G, _, hs, hg, k, fun t G1 H1 x k1 l1 g1 r1 => ?_⟩
  obtain ⟨i, rfl, k2⟩ := k1
  cases r1
  exact ⟨i, rfl, (f.le l1).val g1 k2 rfl⟩⟩

/-! ### range, reversed -/
def rangeT (lo : Int) (n : Nat) : List T := (List.range n).map fun i => T.int (lo + (i : Nat))
def miRange (m : ME) : MI := fun r G N => m r G fun t G1 => ∃ j, t = .int j ∧ -(2 ^ 62) ≤ j ∧ j < 2 ^ 62 ∧ N ⟨rangeT 0 j.toNat, []⟩ G1
theorem walks_range {K : PySem.W.Frag} {H : Hp} {lo : Int} {n : Nat} : Walks K H (Itr lo n) ⟨rangeT lo n, []⟩ := by
  intro H' G' l g _
  refine ⟨fun i t ht => ?_, ?_⟩
  · have hi : i < n := by
      have := (List.getElem?_eq_some_iff.mp ht).1
      simpa [rangeT] using this
    have e : t = .int (lo + (i : Nat)) := by
      simp [rangeT, hi] at ht
      exact ht.symm
    subst e
    exact ⟨hi, fun x H2 ⟨e1, e2⟩ => by subst e1 e2; exact ⟨Le.refl _, g, rfl⟩⟩
  · show n ≤ (rangeT lo n).length
    simp [rangeT]
theorem i_range (hg : Gl X "range") (hm : X.mg "range" = none) (ha : OE X a ma) (hs : starEach [a] X.env = [(false, eval a X.env)] := by rfl) : OI X tg (.Call (.Name "range" p) [a] [] pos) (miRange ma) :=
  ⟨(pi_range1 hg hm (pa_cons ha.ok pa_nil hs) hs).imp fun σ H R q => by
    obtain ⟨r, G, N, hs, hg, k, f⟩ := q
    refine ⟨r, G, _, hs, hg, k, fun t G1 H1 v k1 l1 g1 r1 => ?_⟩
    obtain ⟨j, rfl, h1, h2, k2⟩ := k1
    cases r1
    exact ⟨j, rfl, h1, h2, f _ G1 H1 _ k2 l1 g1 walks_range⟩⟩
def miRange2 (m m2 : ME) : MI := fun r G N => m r G fun t G1 => m2 r G1 fun u G2 => ∃ i j, t = .int i ∧ u = .int j ∧ (-(2 ^ 62) ≤ i ∧ i < 2 ^ 62 ∧ -(2 ^ 62) ≤ j ∧ j < 2 ^ 62) ∧ N ⟨rangeT i (j - i).toNat, []⟩ G2
theorem i_range2 (hg : Gl X "range") (hm : X.mg "range" = none) (ha : OE X a ma) (hb : OE X b mb) (hs : starEach [a, b] X.env = [(false, eval a X.env), (false, eval b X.env)] := by rfl) (hs2 : starEach [b] X.env = [(false, eval b X.env)] := by rfl) :
    OI X tg (.Call (.Name "range" p) [a, b] [] pos) (miRange2 ma mb) :=
  ⟨(pi_range2 hg hm (pa_cons ha.ok (pa_cons hb.ok pa_nil hs2) (by rw [hs, hs2])) hs hs2).imp fun σ H R q => by
    obtain ⟨r, G, N, hs, hg, k, f⟩ := q
    refine ⟨r, G, _, hs, hg, k, fun t G1 H1 v k1 l1 g1 r1 => ⟨r, G1, _, hs.le l1, g1, k1, fun u G2 H2 w k2 l2 g2 r2 => ?_⟩⟩
    obtain ⟨i, j, rfl, rfl, h1, k3⟩ := k2
    cases r1; cases r2
    exact ⟨i, j, rfl, h1, f _ G2 H2 _ k3 (l1.trans l2) g2 walks_range⟩⟩
theorem isL.stay {K : PySem.W.Frag} {H : Hp} {G : Gp} {t : T} {ts : List T} {x : V} (hg : RG K H G) (h : isL G t ts) (rx : Rp K H x t) : ∃ a, x = .ref a ∧ (∀ H' G', Le H H' → RG K H' G' → Held G' (heldT t ts) → ∃ vs, SqL K H' a vs ∧ Rps K H' vs ts) ∧ Held G (heldT t ts) := by
  rcases h with rfl | ⟨a, rfl, h⟩
  · obtain ⟨p, vs, rfl, hq, hz, rv⟩ := rx
    exact ⟨p, rfl, fun H' G' l _ _ => ⟨vs, (l.sqc hq).seq, rv.le l⟩, fun p hp => by cases hp⟩
  · cases rx
    refine ⟨a, rfl, fun H' G' l g hh => ?_, fun p hp => ?_⟩
    · obtain ⟨vs, e, rv⟩ := lst_of g (hh (a, ts) (by simp [heldT]))
      exact ⟨vs, SqL.of e, rv⟩
    · have e : p = (a, ts) := by simpa [heldT] using hp
      subst e; exact h
/-- reversed(xs), xs a list -/
def miRev (m : ME) : MI := fun r G N => m r G fun t G1 => ∃ ts, isL G1 t ts ∧ N ⟨ts.reverse, heldT t ts⟩ G1
theorem walks_rev {K : PySem.W.Frag} {H : Hp} {a : Addr} {held : List (Addr × List T)} {ts : List T} (h : ∀ H' G', Le H H' → RG K H' G' → Held G' held → ∃ vs, SqL K H' a vs ∧ Rps K H' vs ts) : Walks K H (Itv K a ts.length) ⟨ts.reverse, held⟩ := by
  intro H' G' l g hh
  obtain ⟨vs, hq, rv⟩ := h H' G' l g hh
  have hl := rv.length
  refine ⟨fun i t ht => ?_, ?_⟩
  · have hi : i < ts.length := by
      have := (List.getElem?_eq_some_iff.mp ht).1
      simpa using this
    rw [List.getElem?_reverse hi] at ht
    obtain ⟨v, hv, r⟩ := rv.get ht
    refine ⟨⟨hi, vs, v, hq, hv⟩, fun x H2 ⟨e1, y⟩ => ?_⟩
    subst e1
    have := y vs hq
    rw [hv] at this; cases this
    exact ⟨Le.refl _, g, r⟩
  · show ts.length ≤ ts.reverse.length
    simp
theorem i_rev (hg : Gl X "reversed") (hm : X.mg "reversed" = none) (ha : OE X a ma) (hs : starEach [a] X.env = [(false, eval a X.env)] := by rfl) : OI X tg (.Call (.Name "reversed" p) [a] [] pos) (miRev ma) :=
  ⟨(pi_reversed hg hm (pa_cons ha.ok pa_nil hs) hs).imp fun σ H R q => by
    obtain ⟨r, G, N, hs, hg, k, f⟩ := q
    refine ⟨r, G, _, hs, hg, k, fun t G1 H1 v k1 l1 g1 r1 => ?_⟩
    obtain ⟨ts, h1, k2⟩ := k1
    obtain ⟨a, rfl, stay, held⟩ := h1.stay g1 r1
    obtain ⟨vs, hq, rv⟩ := stay H1 G1 (Le.refl _) g1 held
    refine ⟨a, vs, rfl, hq, ?_⟩
    rw [rv.length]
    exact f _ G1 H1 _ k2 l1 g1 (walks_rev stay)⟩
end
end Mi

set_option Elab.async false
set_option linter.all false
set_option maxRecDepth 100000
namespace Mi
open PySem L2
/-! ### a def, whole -/
/-- forgetting at a return -/
def fwdT (R : KT) : KT := fun t G' => ∃ G, Sub G G' ∧ R t G
theorem fwdT.of {R : KT} {t : T} {G : Gp} (h : R t G) : fwdT R t G := ⟨G, Sub.refl G, h⟩
def spOf (n p : Nat) (b : MS) : Sm := fun ts G R => ts.length = p ∧ b { nx := fun _ G' => fwdT R .non G', rt := fwdT R } (ts.map some ++ List.replicate (n - p) none) G
def noSp : Sm := fun _ _ _ => False
theorem start_rs {K : PySem.W.Frag} {H : Hp} {N : List Str} {vs : List V} {ts : List T} (h : Rps K H vs ts) : RS K H (L2.start N vs) (ts.map some ++ List.replicate (N.length - ts.length) none) := by
  have hl := h.length
  refine ⟨by unfold L2.start; simp [hl], fun i t e => ?_⟩
  by_cases hi : i < ts.length
  · rw [List.getElem?_append_left (by simpa using hi), List.getElem?_map] at e
    cases e0 : ts[i]? with
    | none => rw [e0] at e; cases e
    | some u =>
      rw [e0] at e; cases e
      obtain ⟨v, hv, r⟩ := h.get e0
      refine ⟨v, ?_, r⟩
      unfold L2.start
      rw [List.getElem?_append_left (by simpa [hl] using hi), List.getElem?_map, hv]
      rfl
  · rw [List.getElem?_append_right (by simpa using Nat.le_of_not_lt hi)] at e
    rw [List.getElem?_replicate] at e
    split at e <;> cases e
section
variable {P : Program} {w : World} {K : PySem.W.Frag} {mg : Str → Option Value} {base : Heap}
theorem fn_ok {x qual : Str} {st : Stmt} {f : Addr} {fd : FuncData} {N ps : List Str} {k : Nat} {b : MS} (F : Fun K x qual st f fd) (S : FnScope N ps (defScope st))
    (hb : ∀ (cdv : Value) (A : Around) (outer : List PySem.Env) (s : Shared) (H : Hp) (E : XK), Room k (A.deeper (PyProof.Rows.envOfC qual (defScope st) s.heap.objs.size f cdv)) → OSs (cxOf CX0 P w K mg base N qual (defScope st) f cdv A outer s H E).nox (defBody st) b) :
    FnOk P w K mg base CX0 (k + 1) f fd ps (liM K (spOf N.length ps.length b)) := by
  refine F.ok S (fun vs H Q E h => ?_) (fun cdv A outer s H vs Q E hr h => ?_)
  · obtain ⟨ts, G, R, r, hg, ⟨hl, _⟩, _⟩ := h
    rw [r.length]; exact hl
  · obtain ⟨ts, G, R, r, hg, ⟨hl, hbody⟩, f⟩ := h
    have give : Gives K H (fwdT R) Q := fun t G' H' v ⟨G2, e, k⟩ l g rv => f t G2 H' v k l (g.sub e) rv
    have rs := start_rs (N := N) r
    rw [hl] at rs
    exact ⟨_, (hb cdv A outer s H E hr).ok, _, G, _, rs, hg, hbody, fun r' G' σ' H' k l hs g => give .non G' H' .non k l g rfl, give, fun _ _ _ _ z => z.elim, fun _ _ _ _ z => z.elim⟩
theorem fn_none {f : Addr} {fd : FuncData} {ps : List Str} : FnOk P w K mg base CX0 0 f fd ps (liM K noSp) :=
  have no : ∀ vs H Q E, ¬ liM K noSp vs H Q E := fun vs H Q E ⟨_, _, _, _, _, z, _⟩ => z
  ⟨fun vs H Q E h => absurd h (no vs H Q E), fun A outer s H args us vs Q E _ _ _ _ h => absurd h (no vs H Q E)⟩
end
end Mi

set_option Elab.async false
set_option linter.all false
set_option maxRecDepth 100000
namespace Mi
open PySem L2
theorem hu65 {A : Around} {k : Nat} (hr : Room k A) : A.units + 65 < cLine := by have := hr.un; omega
section
variable {X : Cx}
def oMulU : O2 := fun s t G R => oMul s t G R ∨ oMulS s t G R
theorem O2.or_ok {f : Value → Value → Sem Value} {o o' : O2} (h : OpR X f (liO2 X.K o)) (h' : OpR X f (liO2 X.K o')) : OpR X f (liO2 X.K fun s t G R => o s t G R ∨ o' s t G R) :=
  (h.or h').imp fun x y H Q q => by
    obtain ⟨s, t, G, R, rx, ry, hg, k, f⟩ := q
    rcases k with k | k
    · exact .inl ⟨s, t, G, R, rx, ry, hg, k, f⟩
    · exact .inr ⟨s, t, G, R, rx, ry, hg, k, f⟩
theorem op_oMulU : OpR X (binaryOp .Mult) (liO2 X.K oMulU) := O2.or_ok op_oMul op_oMulS
def oInT (neg : Bool) : O2 := fun s t G R => ∃ (c : Nat) (z : Str), s = .str ⟨#[c]⟩ ∧ t = .str z ∧ R (.bl (if neg then !decide (c ∈ z.cps.toList) else decide (c ∈ z.cps.toList))) G
theorem op_oInT : OpR X (compareOp .In) (liO2 X.K (oInT false)) := op_in_sign.imp fun x y H Q q => by
  obtain ⟨s, t, G, R, rx, ry, hg, ⟨c, z, rfl, rfl, k⟩, f⟩ := q
  cases rx; cases ry
  exact ⟨c, z, rfl, rfl, f.val hg k rfl⟩
theorem op_oNotInT : OpR X (compareOp .NotIn) (liO2 X.K (oInT true)) := op_notIn_sign.imp fun x y H Q q => by
  obtain ⟨s, t, G, R, rx, ry, hg, ⟨c, z, rfl, rfl, k⟩, f⟩ := q
  cases rx; cases ry
  exact ⟨c, z, rfl, rfl, f.val hg k rfl⟩
def oInA (neg : Bool) : O2 := fun s t G R => oInF neg s t G R ∨ oInD neg s t G R ∨ oInT neg s t G R
theorem op_oInA (hu : X.A.units + 65 < cLine) : OpR X (compareOp .In) (liO2 X.K (oInA false)) := O2.or_ok op_oInF (O2.or_ok (op_oInD hu) op_oInT)
theorem op_oNotInA (hu : X.A.units + 65 < cLine) : OpR X (compareOp .NotIn) (liO2 X.K (oInA true)) := O2.or_ok op_oNotInF (O2.or_ok (op_oNotInD hu) op_oNotInT)
/-- sep.join(texts) -/
def omJoin : OM := fun t ts G R => ∃ (a : Str) (u : T) (ys : List Str), t = .str a ∧ ts = [u] ∧ isSq G u (ys.map T.str) ∧ (ys.map (·.length)).sum + ys.length * a.length ≤ 16777216 ∧ R (.str (Txt.join a ys)) G
theorem mt_oJoin : MtR X "str.join" (liB X.K omJoin) := MtR.imp mt_join fun x vs H Q h => by
  obtain ⟨t, ts, G, R, rx, rv, hg, ⟨a, u, ys, rfl, rfl, h1, hz, k⟩, f⟩ := h
  cases rx
  obtain ⟨v, rfl, r⟩ := rv.get1
  obtain ⟨p, ws, rfl, hq, rw⟩ := h1.seq hg r
  rw [strs_rp rw] at hq
  exact ⟨a, p, ys, rfl, rfl, hq, hz, f.val hg k rfl⟩
theorem Rps.erase {K : PySem.W.Frag} {H : Hp} : ∀ {vs : List V} {ts : List T} (k : Nat), Rps K H vs ts → Rps K H (vs.eraseIdx k) (ts.eraseIdx k)
  | vs, [], k, h => by cases h; exact rfl
  | vs, t :: ts, 0, h => by
    obtain ⟨v, r, rfl, r1, r2⟩ := h
    exact r2
  | vs, t :: ts, k + 1, h => by
    obtain ⟨v, r, rfl, r1, r2⟩ := h
    exact ⟨v, _, rfl, r1, Rps.erase k r2⟩
def omPopAt : OM := fun t ts G R => ∃ a xs i k u, t = .ref a ∧ ts = [.int i] ∧ G a = some (.lst xs) ∧ -(2 ^ 63) ≤ i ∧ i < 2 ^ 63 ∧ seqIndex? i xs.length = some k ∧ xs[k]? = some u ∧ R u (put G a (.lst (xs.eraseIdx k)))
theorem mt_oPopAt : MtR X "list.pop" (liB X.K omPopAt) := MtR.imp (r := rPopAt) mt_popAt fun x vs H Q h => by
  obtain ⟨t, ts, G, R, rx, rv, hg, ⟨a, xs, i, k, u, rfl, rfl, h1, h2, h3, h4, h5, kk⟩, f⟩ := h
  cases rx
  obtain ⟨v, rfl, r⟩ := rv.get1
  cases r
  obtain ⟨ws, e, rw⟩ := lst_of hg h1
  obtain ⟨w, hw, rwu⟩ := rw.get h5
  exact ⟨a, ws, i, k, w, rfl, rfl, e, h2, h3, by rw [rw.length]; exact h4, hw, f.wrL hg h1 kk (rw.erase k) rwu⟩
/-- d.update(d2) -/
theorem mergeK_len (more : List (Key × V)) : ∀ kvs : List (Key × V), (mergeK kvs more).length ≤ kvs.length + more.length := by
  induction more with
  | nil => intro kvs; exact Nat.le_refl _
  | cons p r ih =>
    intro kvs
    have h1 := ih (putK kvs p.1 p.2)
    have h2 := length_putK kvs p.1 p.2
    show (mergeK (putK kvs p.1 p.2) r).length ≤ _
    rw [List.length_cons]
    omega
def rUpd : V → List V → Hp → VK → Prop := fun x xs H Q => ∃ a b kvs more, x = .ref a ∧ xs = [.ref b] ∧ a ≠ b ∧ H a = some (.dK kvs) ∧ H b = some (.dK more) ∧ kvs.length + more.length ≤ sizeLine ∧ Q .non (upd H a (.dK (mergeK kvs more)))
theorem mt_dupd : MtR X "dict.update" rUpd := by
  intro pins s σ H x xs v us Q I rx rs q
  obtain ⟨a, b, kvs, more, rfl, rfl, ne, ea, eb, hz, k⟩ := q
  cases rx
  cases rs with
  | cons r1 rs =>
    cases rs
    cases r1
    obtain ⟨za, sa, va, ra, da⟩ := dk_of I.hok ea
    obtain ⟨zb, sb, vb, rb, db⟩ := dk_of I.hok eb
    have la : va.length = kvs.length := ra.length.symm
    have lb : vb.length = more.length := rb.length.symm
    refine call_meetsIn F.slot_dict_update da.typeIs F.entry_dict_update (F.args_dict_update_2 _ _) (meets_dict_update (mixKind X.prog X.w) a b ne sb) ⟨va, vb, da, db, by rw [la, lb]; exact hz, fun h' d1 d2 hs => ?_⟩
    have he : ∃ q, h'.get? a = some q := let ⟨q, _, _, hq, _⟩ := d1; ⟨q, hq⟩
    exact ⟨.non, _, d_write I (by rw [ea]; exact True.intro) hs he (dk_new (Nat.le_trans (mergeK_len more kvs) hz) sa (KV.merge rb ra) d1), rfl, k⟩
def omUpdate : OM := fun t ts G R => ∃ a b kvs more, t = .ref a ∧ ts = [.ref b] ∧ a ≠ b ∧ G a = some (.dK kvs) ∧ G b = some (.dK more) ∧ kvs.length + more.length ≤ sizeLine ∧ R .non (put G a (.dK (mergeT kvs more)))
theorem mt_oUpdate : MtR X "dict.update" (liB X.K omUpdate) := MtR.imp mt_dupd fun x vs H Q h => by
  obtain ⟨t, ts, G, R, rx, rv, hg, ⟨a, b, kvs, more, rfl, rfl, ne, e1, e2, hz, k⟩, f⟩ := h
  cases rx
  obtain ⟨v, rfl, r⟩ := rv.get1
  cases r
  obtain ⟨va, ea, ra⟩ := hg _ _ e1
  obtain ⟨vb, eb, rb⟩ := hg _ _ e2
  have l := Le.wr (o := .dK (mergeK va vb)) (hg.notup e1)
  exact ⟨a, b, va, vb, rfl, rfl, ne, ea, eb, by rw [ra.len, rb.len]; exact hz, f.wr hg e1 k ⟨_, upd_same, (Rkv.merge rb ra).le l⟩ rfl⟩
end
section
variable {X : Cx} {a b c : Expr} {mas : MA} {pos : Pos}
def msPar3 (i j l : Nat) (k : MA) : MS := fun M r G => k r G fun ts G1 => ∃ s t u, ts = [s, t, u] ∧ M.nx (((r.set i (some s)).set j (some t)).set l (some u)) G1
theorem s_par3 {i j l : Nat} {x y z : Str} {px py pz pt : Pos} {kt k2 pt2} (hc : X.calm = true) (hN : X.N.Nodup) (hi : X.N[i]? = some x) (hj : X.N[j]? = some y) (hl : X.N[l]? = some z) (hij : i ≠ j) (hil : i ≠ l) (hjl : j ≠ l)
    (hx : X.env.scope.names.lookup x = some .local) (hy : X.env.scope.names.lookup y = some .local) (hz : X.env.scope.names.lookup z = some .local) (ha : OA X [a, b, c] mas)
    (hw : swappedStores [.Tuple [.Name x px, .Name y py, .Name z pz] kt pt] (.Tuple [a, b, c] k2 pt2) X.env = pure (some [x, y, z]) := by rfl)
    (hs : swapsWithSole [.Tuple [.Name x px, .Name y py, .Name z pz] kt pt] (.Tuple [a, b, c] k2 pt2) pos.line X.env = pure false := by rfl) :
    OS X (.Assign [.Tuple [.Name x px, .Name y py, .Name z pz] kt pt] (.Tuple [a, b, c] k2 pt2) pos) (msPar3 i j l mas) :=
  ⟨(ps_par3 hc hN hi hj hl hij hil hjl hx hy hz ha.ok hw hs).imp fun D σ H q => by
    obtain ⟨r, G, M, hs, hg, k, f, _⟩ := q
    refine ⟨r, G, _, hs, hg, k, fun ts G1 H1 vs k1 l1 g1 r1 => ?_⟩
    obtain ⟨s, t, u, rfl, k2⟩ := k1
    obtain ⟨v, q1, rfl, a1, w, q2, rfl, a2, x3, q3, rfl, a3, e3⟩ := r1
    cases e3
    exact ⟨v, w, x3, rfl, f _ G1 _ H1 k2 l1 ((((hs.le l1).set i a1).set j a2).set l a3) g1⟩⟩

/-! ### two fors in a comprehension -/
def mLc2 (w : MI) (g : MG) (tt : MT) (w1 : MI) (g1 : MG) (tt1 : MT) (te : ME) (vs vs1 : List Nat) : ME := fun r G R => w r G fun m G1 => ∀ D, G1 D = none → ∃ W : Nat → Gp → Prop, W 0 (put G1 D (.lst [])) ∧ (∀ i G, W i G → Held G m.held) ∧
  (∀ i t G, m.its[i]? = some t → W i G → g t (wipeT r vs) G fun r2 G2 => tt r2 G2 fun b G3 => if b = true then
    w1 r2 G3 fun m1 G4 => ∃ W1 : Nat → Gp → Prop, W1 0 G4 ∧ (∀ j G, W1 j G → Held G m1.held) ∧
      (∀ j u G, m1.its[j]? = some u → W1 j G → g1 u (wipeT r2 vs1) G fun r3 G5 => tt1 r3 G5 fun b G6 => if b = true then te r3 G6 fun y G7 => ∃ acc, G7 D = some (.lst acc) ∧ acc.length < sizeLine ∧ fwdG (W1 (j + 1)) (put G7 D (.lst (acc ++ [y]))) else fwdG (W1 (j + 1)) G6) ∧
      ∀ G, W1 m1.its.length G → fwdG (W (i + 1)) G
    else fwdG (W (i + 1)) G3) ∧ ∀ G, W m.its.length G → R (.ref D) G
theorem wipe_idem (σ : St) (vs : List Nat) : wipe (wipe σ vs) vs = wipe σ vs := by
  apply List.ext_getElem?
  intro j
  rw [wipe_at, wipe_at, wipe_length]
  by_cases c : j ∈ vs ∧ j < σ.length
  · rw [if_pos c, if_pos c]
  · rw [if_neg c]
theorem lc2_li {wi w1 : MI} {g g1 : MG} {gt gt1 : TG} {tt tt1 : MT} {te : ME} {vs vs1 : List Nat} {K : PySem.W.Frag} (hg : Gimp K g vs gt) (hg1 : Gimp K g1 vs1 gt1) {σ : St} {H : Hp} {Q : VK} (h : liE K (mLc2 wi g tt w1 g1 tt1 te vs vs1) σ H Q) :
    tLc2 (liI K wi) gt (liT K tt) (liI K w1) gt1 (liT K tt1) (liE K te) vs vs1 σ H Q := by
  obtain ⟨r, G, R, hs, hg0, k, f⟩ := h
  refine ⟨r, G, _, hs, hg0, k, fun m G1 H1 J k1 l1 g1 hw => ?_⟩
  intro D hD
  obtain ⟨W, w0, wh, turn, done⟩ := k1 D (g1.fresh hD)
  have lD := Le.new (o := HO.lst []) hD
  refine ⟨fun i n H' => n = m.its.length - i ∧ i ≤ m.its.length ∧ ∃ G', RG K H' G' ∧ Le H1 H' ∧ W i G', ⟨m.its.length, by simp, Nat.zero_le _, _, g1.wr (nt_none hD) (RCell.l upd_same (ts := []) rfl), lD, w0⟩, ?_⟩
  rintro i n H2 ⟨rfl, hi, G2, g2, l2, w2⟩
  obtain ⟨hgo, hst⟩ := hw H2 G2 l2 g2 (wh i G2 w2)
  by_cases hlt : i < m.its.length
  · obtain ⟨go, yl⟩ := hgo i m.its[i] (by simp [hlt])
    refine .inr ⟨go, _, fun H' z => ⟨m.its.length - (i + 1), by omega, z⟩, fun x H3 y => ?_⟩
    obtain ⟨l3, g3, r3⟩ := yl x H3 y
    have la3 : Le H H3 := l1.trans (l2.trans l3)
    have back : ∀ H' G', Le H3 H' → RG K H' G' → fwdG (W (i + 1)) G' → m.its.length - (i + 1) = m.its.length - (i + 1) ∧ i + 1 ≤ m.its.length ∧ ∃ G', RG K H' G' ∧ Le H1 H' ∧ W (i + 1) G' := fun H' G' l' g' ⟨G6, e2, w6⟩ =>
      ⟨rfl, hlt, G6, g'.sub e2, l2.trans (l3.trans l'), w6⟩
    refine hg x _ H3 _ m.its[i] (wipeT r vs) G2 _ r3 ((hs.le la3).wipe vs) g3 (turn i _ G2 (by simp [hlt]) w2) fun r4 G4 σ4 H4 k4 l4 hs4 g4 e4 => ?_
    refine ⟨e4.trans (wipe_idem σ vs), r4, G4, _, hs4, g4, k4, fun b G5 H5 k5 l5 g5 => ?_⟩
    cases b with
    | false =>
      rw [if_neg Bool.false_ne_true] at k5
      exact iteF (back _ _ (l4.trans l5) g5 k5)
    | true =>
      rw [if_pos rfl] at k5
      refine iteT ⟨r4, G5, _, hs4.le l5, g5, k5, fun m1 G6 H6 J1 k6 l6 g6 hw1 => ?_⟩
      obtain ⟨W1, v0, vh, turn1, done1⟩ := k6
      refine ⟨fun j n H' => n = m1.its.length - j ∧ j ≤ m1.its.length ∧ ∃ G', RG K H' G' ∧ Le H6 H' ∧ W1 j G', ⟨m1.its.length, by simp, Nat.zero_le _, G6, g6, Le.refl _, v0⟩, ?_⟩
      rintro j n H7 ⟨rfl, hj, G7, g7, l7, v7⟩
      obtain ⟨hgo1, hst1⟩ := hw1 H7 G7 l7 g7 (vh j G7 v7)
      have lb : Le H3 H7 := l4.trans (l5.trans (l6.trans l7))
      by_cases hlt1 : j < m1.its.length
      · obtain ⟨go1, yl1⟩ := hgo1 j m1.its[j] (by simp [hlt1])
        refine .inr ⟨go1, _, fun H' z => ⟨m1.its.length - (j + 1), by omega, z⟩, fun x8 H8 y8 => ?_⟩
        obtain ⟨l8, g8, r8⟩ := yl1 x8 H8 y8
        have back1 : ∀ H' G', Le H8 H' → RG K H' G' → fwdG (W1 (j + 1)) G' → m1.its.length - (j + 1) = m1.its.length - (j + 1) ∧ j + 1 ≤ m1.its.length ∧ ∃ G', RG K H' G' ∧ Le H6 H' ∧ W1 (j + 1) G' := fun H' G' l' g' ⟨G6, e2, w6⟩ =>
          ⟨rfl, hlt1, G6, g'.sub e2, l7.trans (l8.trans l'), w6⟩
        refine hg1 x8 _ H8 _ m1.its[j] (wipeT r4 vs1) G7 _ r8 ((hs4.le (l5.trans (l6.trans (l7.trans l8)))).wipe vs1) g8 (turn1 j _ G7 (by simp [hlt1]) v7) fun r9 G9 σ9 H9 k9 l9 hs9 g9 e9 => ?_
        refine ⟨e9.trans (wipe_idem σ4 vs1), r9, G9, _, hs9, g9, k9, fun b G10 H10 k10 l10 g10 => ?_⟩
        cases b with
        | false =>
          rw [if_neg Bool.false_ne_true] at k10
          exact iteF (back1 _ _ (l9.trans l10) g10 k10)
        | true =>
          rw [if_pos rfl] at k10
          refine iteT ⟨r9, G10, _, hs9.le l10, g10, k10, fun u G11 H11 v k11 l11 g11 r11 => ?_⟩
          obtain ⟨acc, ha, hz, k11⟩ := k11
          obtain ⟨ws, ew, rw⟩ := lst_of g11 ha
          have l12 := Le.wr (o := .lst (ws ++ [v])) (g11.notup ha)
          exact ⟨ws, ew, by rw [rw.length]; exact hz, back1 _ _ (l9.trans (l10.trans (l11.trans l12))) (g11.wr (g11.notup ha) (RCell.l upd_same ((rw.append (Rps.one r11)).le l12))) k11⟩
      · have e : j = m1.its.length := by omega
        subst e
        exact .inl ⟨hst1, back _ _ lb g7 (done1 G7 v7)⟩
  · have e : i = m.its.length := by omega
    subst e
    exact .inl ⟨hst, f (.ref D) G2 H2 (.ref D) (done G2 w2) (l1.trans l2) g2 rfl⟩
section
variable {elt tg iter tg1 iter1 : Expr} {ifs ifs1 : List Expr} {scope : PySem.Scope} {own : List (Str × Nat)} {vs1 : List Nat} {wi wi1 : MI} {g g1 : MG} {gt gt1 : TG} {tt tt1 : MT} {te : ME}
theorem o_lc2 (hc : X.calm = true) (hN : X.N.Nodup) (hi : OI X tg iter wi) (ok : BlkOk X.N X.env.scope scope own) (hv : ∀ i ∈ vs1, i ∈ own.map (·.2))
    (hg : ∀ (s : Shared) (H : Hp) (C : Addr) (cl : List (Str × Addr)) (fp : List Addr), OGv (X.blk s H scope (compEnvC scope cl C X.env) fp) tg g (own.map (·.2)) gt) (ht : ∀ (s : Shared) (H : Hp) (C : Addr) (cl : List (Str × Addr)) (fp : List Addr), OTs (X.blk s H scope (compEnvC scope cl C X.env) fp) ifs tt)
    (hi1 : ∀ (s : Shared) (H : Hp) (C : Addr) (cl : List (Str × Addr)) (fp : List Addr), OI (X.blk s H scope (compEnvC scope cl C X.env) fp) tg1 iter1 wi1)
    (hg1 : ∀ (s : Shared) (H : Hp) (C : Addr) (cl : List (Str × Addr)) (fp : List Addr), OGv (X.blk s H scope (compEnvC scope cl C X.env) fp) tg1 g1 vs1 gt1) (ht1 : ∀ (s : Shared) (H : Hp) (C : Addr) (cl : List (Str × Addr)) (fp : List Addr), OTs (X.blk s H scope (compEnvC scope cl C X.env) fp) ifs1 tt1)
    (he : ∀ (s : Shared) (H : Hp) (C : Addr) (cl : List (Str × Addr)) (fp : List Addr), OE (X.blk s H scope (compEnvC scope cl C X.env) fp) elt te) (hs : ∀ x, foldedSetIterable iter X.env x = pure x := by intro _; rfl) (hs1 : ∀ env x, foldedSetIterable iter1 env x = pure x := by intro _ _; rfl) :
    OE X (.ListComp elt [⟨tg, iter, ifs, 0⟩, ⟨tg1, iter1, ifs1, 0⟩] scope pos) (mLc2 wi g tt wi1 g1 tt1 te (own.map (·.2)) vs1) :=
  ⟨⟨fun pins s σ H Q I q => (pe_lc2 hc hN hi.ok ok hv (fun s H C cl fp => (hg s H C cl fp).ok) (fun s H C cl fp => (ht s H C cl fp).ok) (fun s H C cl fp => (hi1 s H C cl fp).ok) (fun s H C cl fp => (hg1 s H C cl fp).ok) (fun s H C cl fp => (ht1 s H C cl fp).ok) (fun s H C cl fp => (he s H C cl fp).ok) hs hs1).run pins s σ H Q I (lc2_li (hg s H 0 [] []).imp (hg1 s H 0 [] []).imp q)⟩⟩
theorem s_setLc2 {i : Nat} {y : Str} {py spos : Pos} (hc : X.calm = true) (hN : X.N.Nodup) (hy : X.N[i]? = some y) (hyl : X.env.scope.names.lookup y = some .local)
    (hsw : swapsWith (.ListComp elt [⟨tg, iter, ifs, 0⟩, ⟨tg1, iter1, ifs1, 0⟩] scope pos) (some (.Name y py)) spos.line X.env = pure true) (hi : OI X tg iter wi) (ok : BlkOk X.N X.env.scope scope own) (hv : ∀ i ∈ vs1, i ∈ own.map (·.2))
    (hg : ∀ (s : Shared) (H : Hp) (C : Addr) (cl : List (Str × Addr)) (fp : List Addr), OGv (X.blk s H scope (compEnvC scope cl C X.env) fp) tg g (own.map (·.2)) gt) (ht : ∀ (s : Shared) (H : Hp) (C : Addr) (cl : List (Str × Addr)) (fp : List Addr), OTs (X.blk s H scope (compEnvC scope cl C X.env) fp) ifs tt)
    (hi1 : ∀ (s : Shared) (H : Hp) (C : Addr) (cl : List (Str × Addr)) (fp : List Addr), OI (X.blk s H scope (compEnvC scope cl C X.env) fp) tg1 iter1 wi1)
    (hg1 : ∀ (s : Shared) (H : Hp) (C : Addr) (cl : List (Str × Addr)) (fp : List Addr), OGv (X.blk s H scope (compEnvC scope cl C X.env) fp) tg1 g1 vs1 gt1) (ht1 : ∀ (s : Shared) (H : Hp) (C : Addr) (cl : List (Str × Addr)) (fp : List Addr), OTs (X.blk s H scope (compEnvC scope cl C X.env) fp) ifs1 tt1)
    (he : ∀ (s : Shared) (H : Hp) (C : Addr) (cl : List (Str × Addr)) (fp : List Addr), OE (X.blk s H scope (compEnvC scope cl C X.env) fp) elt te) (hs : ∀ x, foldedSetIterable iter X.env x = pure x := by intro _; rfl) (hs1 : ∀ env x, foldedSetIterable iter1 env x = pure x := by intro _ _; rfl) :
    OS X (.Assign [.Name y py] (.ListComp elt [⟨tg, iter, ifs, 0⟩, ⟨tg1, iter1, ifs1, 0⟩] scope pos) spos) (msAsg (mLc2 wi g tt wi1 g1 tt1 te (own.map (·.2)) vs1) (mgName i)) :=
  ⟨⟨fun pins s σ H D I q => (ps_setLc2 hc hN hy hyl hsw hi.ok ok hv (fun s H C cl fp => (hg s H C cl fp).ok) (fun s H C cl fp => (ht s H C cl fp).ok) (fun s H C cl fp => (hi1 s H C cl fp).ok) (fun s H C cl fp => (hg1 s H C cl fp).ok) (fun s H C cl fp => (ht1 s H C cl fp).ok) (fun s H C cl fp => (he s H C cl fp).ok) hs hs1).run pins s σ H D I (by
    obtain ⟨r, G, M, hs, hg0, k, f, _⟩ := q
    refine lc2_li (hg s H 0 [] []).imp (hg1 s H 0 [] []).imp ⟨r, G, _, hs, hg0, k, fun t G1 H1 v k1 l1 g1 r1 => ?_⟩
    exact f _ G1 _ H1 k1 l1 ((hs.le l1).set i r1) g1)⟩⟩
end
end
end Mi

set_option Elab.async false
set_option linter.all false
set_option maxRecDepth 100000
namespace Mi
open PySem L2
open SkE (call_str_str)
open PySem.W (dataLt alike minD maxD AlikeAll min_list_data max_list_data)
section
variable {X : Cx} {a b c e : Expr} {ma mb mc me : ME} {pos : Pos}
/-! ### chains of two comparisons -/
def mChain (o o' : O2) (ma mb mc : ME) : ME := fun r G R => ma r G fun s G1 => mb r G1 fun t G2 => o s t G2 fun z G3 => ∃ k, z = .bl k ∧ (if k = true then mc r G3 fun u G4 => o' t u G4 R else R (.bl false) G3)
theorem chain_li {K : PySem.W.Frag} {o o' : O2} {σ : St} {H : Hp} {Q : VK} (h : liE K (mChain o o' ma mb mc) σ H Q) : tChain (liO2 K o) (liO2 K o') (liE K ma) (liE K mb) (liE K mc) σ H Q := by
  obtain ⟨r, G, R, hs, hg, k, f⟩ := h
  refine ⟨r, G, _, hs, hg, k, fun s G1 H1 x k1 l1 g1 r1 => ⟨r, G1, _, hs.le l1, g1, k1, fun t G2 H2 y k2 l2 g2 r2 => ⟨s, t, G2, _, r1.le l2, r2, g2, k2, fun z G3 H3 v k3 l3 g3 r3 => ?_⟩⟩⟩
  obtain ⟨q, rfl, k4⟩ := k3
  cases q with
  | true =>
    rw [if_pos rfl] at k4
    refine ⟨true, r3, ?_⟩
    rw [if_pos rfl]
    exact ⟨r, G3, _, hs.le (l1.trans (l2.trans l3)), g3, k4, fun u G4 H4 w k5 l4 g4 r4 => ⟨t, u, G4, R, r2.le (l3.trans l4), r4, g4, k5, f.le (l1.trans (l2.trans (l3.trans l4)))⟩⟩
  | false =>
    rw [if_neg (by decide)] at k4
    refine ⟨false, r3, ?_⟩
    rw [if_neg (by decide)]
    exact f _ G3 H3 _ k4 (l1.trans (l2.trans l3)) g3 rfl
theorem o_chain {op op' : CmpOp} {o o' : O2} (ho : OpR X (compareOp op) (liO2 X.K o)) (ho' : OpR X (compareOp op') (liO2 X.K o')) (ha : OE X a ma) (hb : OE X b mb) (hc : OE X c mc) (hm : lastMarks [op, op'] [b, c] = false := by with_unfolding_all rfl) :
    OE X (.Compare a [op, op'] [b, c] pos) (mChain o o' ma mb mc) := ⟨(pe_chain ho ho' ha.ok hb.ok hc.ok hm).imp fun _ _ _ q => chain_li q⟩
theorem t_chain {op op' : CmpOp} {o o' : O2} (ho : OpR X (compareOp op) (liO2 X.K o)) (ho' : OpR X (compareOp op') (liO2 X.K o')) (ha : OE X a ma) (hb : OE X b mb) (hc : OE X c mc) (hm : lastMarks [op, op'] [b, c] = false := by with_unfolding_all rfl) :
    OT X (.Compare a [op, op'] [b, c] pos) (mB (mChain o o' ma mb mc)) := ⟨(pt_chain ho ho' ha.ok hb.ok hc.ok hm).imp fun _ _ _ q => chain_li (test_li q)⟩
/-! ### comparisons of numbers or of texts -/
def oCmpU (g : Int → Int → Bool) (h : List Nat → List Nat → Bool) : O2
  | .int i, .int j, G, R => R (.bl (g i j)) G
  | .str x, .str y, G, R => R (.bl (h x.cps.toList y.cps.toList)) G
  | _, _, _, _ => False
theorem oCmpU_ok {f : Value → Value → Sem Value} {g : Int → Int → Bool} {h : List Nat → List Nat → Bool} (h1 : OpR X f (rI0 fun i j => .bl (g i j))) (h2 : OpR X f (fun x y H Q => ∃ i j, x = .str i ∧ y = .str j ∧ Q (.bl (h i.cps.toList j.cps.toList)) H)) : OpR X f (liO2 X.K (oCmpU g h)) :=
  (h1.or h2).imp fun x y H Q q => by
    obtain ⟨s, t, G, R, rx, ry, hg, k, f⟩ := q
    cases s with
    | int i => cases t with
      | int j => cases rx; cases ry; exact .inl ⟨i, j, rfl, rfl, f.val hg k rfl⟩
      | _ => exact k.elim
    | str i => cases t with
      | str j => cases rx; cases ry; exact .inr ⟨i, j, rfl, rfl, f.val hg k rfl⟩
      | _ => exact k.elim
    | _ => exact k.elim
abbrev oLtU : O2 := oCmpU (fun i j => decide (i < j)) (fun x y => decide (x < y))
abbrev oLeU : O2 := oCmpU (fun i j => decide (i ≤ j)) (fun x y => !decide (y < x))
abbrev oGtU : O2 := oCmpU (fun i j => decide (j < i)) (fun x y => decide (y < x))
abbrev oGeU : O2 := oCmpU (fun i j => decide (j ≤ i)) (fun x y => !decide (x < y))
theorem op_oLtU : OpR X (compareOp .Lt) (liO2 X.K oLtU) := oCmpU_ok op_lt op_lt_str
theorem op_oLeU : OpR X (compareOp .LtE) (liO2 X.K oLeU) := oCmpU_ok op_le op_le_str
theorem op_oGtU : OpR X (compareOp .Gt) (liO2 X.K oGtU) := oCmpU_ok op_gt op_gt_str
theorem op_oGeU : OpR X (compareOp .GtE) (liO2 X.K oGeU) := oCmpU_ok op_ge op_ge_str
/-! ### min, max of a list of numbers or of texts -/
def strLt (x y : Str) : Bool := dataLt (.str x) (.str y)
def minS (x : Str) (xs : List Str) : Str := xs.foldl (fun a y => if strLt y a then y else a) x
def maxS (x : Str) (xs : List Str) : Str := xs.foldl (fun a y => if strLt a y then y else a) x
theorem minD_strs : ∀ (xs : List Str) (x : Str), minD (.str x) (xs.map PyData.str) = .str (minS x xs) := by
  unfold minD minS
  intro xs
  induction xs with
  | nil => intro x; rfl
  | cons y ys ih =>
    intro x
    rw [List.map_cons, List.foldl_cons, List.foldl_cons, ← ih]
    congr 1
    unfold strLt
    split <;> rfl
theorem maxD_strs : ∀ (xs : List Str) (x : Str), maxD (.str x) (xs.map PyData.str) = .str (maxS x xs) := by
  unfold maxD maxS
  intro xs
  induction xs with
  | nil => intro x; rfl
  | cons y ys ih =>
    intro x
    rw [List.map_cons, List.foldl_cons, List.foldl_cons, ← ih]
    congr 1
    unfold strLt
    split <;> rfl
theorem strs_reads {h : Heap} : ∀ {xs : List Str} {its : List Value}, Vals (xs.map V.str) its → ∃ as, ReadsAll h its (xs.map PyData.str) as
  | [], _, r => by cases r; exact ⟨_, .nil⟩
  | x :: xs, _, r => by
    rw [List.map_cons] at r
    cases r with
    | cons r t =>
      obtain ⟨k, rfl⟩ := r
      obtain ⟨as, q⟩ := strs_reads (h := h) t
      exact ⟨_, .cons (.str x k) q⟩
theorem strs_alike (xs : List Str) : AlikeAll (xs.map PyData.str) := ⟨fun x hx y hy => by
  obtain ⟨a, _, rfl⟩ := List.mem_map.mp hx
  obtain ⟨b, _, rfl⟩ := List.mem_map.mp hy
  simp [alike], fun x hx => by
  obtain ⟨a, _, rfl⟩ := List.mem_map.mp hx
  simp⟩
theorem strs_depth : ∀ xs : List Str, PyData.depthAll (xs.map PyData.str) = 0
  | [] => rfl
  | x :: xs => by rw [List.map_cons]; simp [PyData.depthAll, PyData.depth, strs_depth xs]
def rMinS (K : PySem.W.Frag) : List V → Hp → VK → Prop := fun vs H Q => ∃ (a : Addr) (x : Str) (xs : List Str), vs = [V.ref a] ∧ SqL K H a ((x :: xs).map V.str) ∧ Q (.str (minS x xs)) H
def rMaxS (K : PySem.W.Frag) : List V → Hp → VK → Prop := fun vs H Q => ∃ (a : Addr) (x : Str) (xs : List Str), vs = [V.ref a] ∧ SqL K H a ((x :: xs).map V.str) ∧ Q (.str (maxS x xs)) H
theorem cr_minS (hc : X.calm = true) (hu : X.A.units + 64 < cLine) : CallR X (.builtin "min") (rMinS X.K) := by
  intro pins s σ H vs us Q I r h
  obtain ⟨a, x, xs, rfl, hs, q⟩ := h
  obtain ⟨its, rv, hl, _⟩ := I.list hs
  rw [Vals.ref1 r]
  obtain ⟨as, hr⟩ := strs_reads (h := s.heap) rv
  refine min_list_data (x := .str x) (xs := xs.map PyData.str) (I.ok.hd hc) hl.isList (by simpa using hr) (strs_alike (x :: xs)) (by have := strs_depth (x :: xs); rw [List.map_cons] at this; rw [this]; omega) fun i v h' tk bs hv hrd hk => ?_
  rw [minD_strs] at hrd
  cases hrd
  exact ⟨.str _, H, I.kept hk, ⟨_, rfl⟩, q⟩
theorem cr_maxS (hc : X.calm = true) (hu : X.A.units + 64 < cLine) : CallR X (.builtin "max") (rMaxS X.K) := by
  intro pins s σ H vs us Q I r h
  obtain ⟨a, x, xs, rfl, hs, q⟩ := h
  obtain ⟨its, rv, hl, _⟩ := I.list hs
  rw [Vals.ref1 r]
  obtain ⟨as, hr⟩ := strs_reads (h := s.heap) rv
  refine max_list_data (x := .str x) (xs := xs.map PyData.str) (I.ok.hd hc) hl.isList (by simpa using hr) (strs_alike (x :: xs)) (by have := strs_depth (x :: xs); rw [List.map_cons] at this; rw [this]; omega) fun i v h' tk bs hv hrd hk => ?_
  rw [maxD_strs] at hrd
  cases hrd
  exact ⟨.str _, H, I.kept hk, ⟨_, rfl⟩, q⟩
def omMin1 : Sm := fun ts G R => ∃ t, ts = [t] ∧ ((∃ xs : List Int, isL G t (xs.map T.int) ∧ 0 < xs.length ∧ ∀ m, m ∈ xs → (∀ y, y ∈ xs → m ≤ y) → R (.int m) G) ∨ ∃ x xs, isL G t ((x :: xs).map T.str) ∧ R (.str (minS x xs)) G)
def omMax1 : Sm := fun ts G R => ∃ t, ts = [t] ∧ ((∃ xs : List Int, isL G t (xs.map T.int) ∧ 0 < xs.length ∧ ∀ m, m ∈ xs → (∀ y, y ∈ xs → y ≤ m) → R (.int m) G) ∨ ∃ x xs, isL G t ((x :: xs).map T.str) ∧ R (.str (maxS x xs)) G)
theorem _root_.L2.CallR.or2 {f : Value} {r r' : List V → Hp → VK → Prop} (h : CallR X f r) (h' : CallR X f r') : CallR X f fun xs H Q => r xs H Q ∨ r' xs H Q :=
  fun pins s σ H xs us Q I rv q => q.elim (h pins s σ H xs us Q I rv) (h' pins s σ H xs us Q I rv)
theorem c_min1 (hc : X.calm = true) (hu : X.A.units + 64 < cLine) : CallR X (.builtin "min") (liC X.K omMin1) := ((cr_min hc).or2 (cr_minS hc hu)).imp fun xs H Q h => by
  obtain ⟨ts, G, R, rv, hg, ⟨t, rfl, k⟩, f⟩ := h
  obtain ⟨v, rfl, r⟩ := rv.get1
  rcases k with ⟨zs, h1, hz, k⟩ | ⟨z, zs, h1, k⟩
  · obtain ⟨p, vs, rfl, hq, ru⟩ := h1.seq hg r
    rw [ints_rp ru] at hq
    exact .inl ⟨p, zs, rfl, hq, hz, fun m h1 h2 => f.val hg (k m h1 h2) rfl⟩
  · obtain ⟨p, vs, rfl, hq, ru⟩ := h1.seq hg r
    rw [strs_rp ru] at hq
    exact .inr ⟨p, z, zs, rfl, hq, f.val hg k rfl⟩
theorem c_max1 (hc : X.calm = true) (hu : X.A.units + 64 < cLine) : CallR X (.builtin "max") (liC X.K omMax1) := ((cr_max hc).or2 (cr_maxS hc hu)).imp fun xs H Q h => by
  obtain ⟨ts, G, R, rv, hg, ⟨t, rfl, k⟩, f⟩ := h
  obtain ⟨v, rfl, r⟩ := rv.get1
  rcases k with ⟨zs, h1, hz, k⟩ | ⟨z, zs, h1, k⟩
  · obtain ⟨p, vs, rfl, hq, ru⟩ := h1.seq hg r
    rw [ints_rp ru] at hq
    exact .inl ⟨p, zs, rfl, hq, hz, fun m h1 h2 => f.val hg (k m h1 h2) rfl⟩
  · obtain ⟨p, vs, rfl, hq, ru⟩ := h1.seq hg r
    rw [strs_rp ru] at hq
    exact .inr ⟨p, z, zs, rfl, hq, f.val hg k rfl⟩
/-! ### str(..) of a number, of a text -/
def omStr : Sm := fun ts G R => (∃ i, ts = [.int i] ∧ i.natAbs.log2 < 1920 ∧ R (.str (toString i)) G) ∨ ∃ a, ts = [.str a] ∧ R (.str a) G
theorem c_str : CallR X (.type "str") (liC X.K omStr) := ((call_str_int (X := X)).or2 call_str_str).imp fun xs H Q h => by
  obtain ⟨ts, G, R, rv, hg, k, f⟩ := h
  rcases k with ⟨i, rfl, hi, k⟩ | ⟨z, rfl, k⟩
  · obtain ⟨v, rfl, r⟩ := rv.get1
    cases r
    exact .inl ⟨i, rfl, hi, f.val hg k rfl⟩
  · obtain ⟨v, rfl, r⟩ := rv.get1
    cases r
    exact .inr ⟨z, rfl, f.val hg k rfl⟩
end
end Mi

set_option Elab.async false
set_option linter.all false
set_option maxRecDepth 100000
namespace Mi
open PySem L2
/-! ### a dict that the module writes: text keys -/
def lkT : List (Str × T) → Str → Option T
  | [], _ => none
  | (k, t) :: r, z => if k = z then some t else lkT r z
def KRel (K : PySem.W.Frag) : Option T → Option Value → Prop
  | none, none => True
  | some t, some u => ∃ v, RelV v u ∧ ∀ H, Rp K H v t
  | _, _ => False
structure KD (K : PySem.W.Frag) (w : World) (mg : Str → Option Value) (x : Str) (kvs : List (Str × T)) : Prop where
  ex : ∃ (d : Addr) (es : Array DictEntry) (n : Nat), mg x = some (.ref d) ∧ KDict K w d es n ∧ ∀ z, ∃ r, PySem.W.nsIn K d z = some r ∧ KRel K (lkT kvs z) r
section
variable {X : Cx} {e f : Expr} {me mf : ME} {x : Str} {p apos cpos : Pos} {kvs : List (Str × T)}
def mKGet2 (kvs : List (Str × T)) (me mf : ME) : ME := fun r G R => me r G fun t G1 => ∃ z, t = .str z ∧ mf r G1 fun w G2 => R ((lkT kvs z).getD w) G2
theorem o_kget2 (D : KD X.K X.w X.mg x kvs) (hg : Gl X x) (he : OE X e me) (hf : OE X f mf) (m : M2 X (.Name x p) "get" apos e f cpos) (hd : (x == ("__debug__" : Str)) = false := by decide) :
    OE X (.Call (.Attribute (.Name x p) "get" apos) [e, f] [] cpos) (mKGet2 kvs me mf) := by
  obtain ⟨d, es, n, hm, D, look⟩ := D.ex
  refine ⟨⟨fun pins s σ H Q I h => ?_⟩⟩
  obtain ⟨r, G, R, hs, hgr, k, f'⟩ := h
  refine wpAny_Call_method m.base m.few m.line PySem.F.plainAttrs_dict PySem.F.slot_dict_get PySem.F.type_dict_get (ld_glob I hg hm ?_ hd)
  refine ⟨kd_type D I, fun b q => ?_, ?_⟩
  · cases q
    exact ⟨_, I.kIn _ _ D.at_, rfl⟩
  rw [m.trees]
  have h1 : liE X.K me σ H (fun y H1 => ∃ t G1, (∃ z, t = .str z ∧ mf r G1 fun w G2 => R ((lkT kvs z).getD w) G2) ∧ Le H H1 ∧ RG X.K H1 G1 ∧ Rp X.K H1 y t) :=
    ⟨r, G, _, hs, hgr, k, fun t G1 H1 y k1 l1 g1 r1 => ⟨t, G1, k1, l1, g1, r1⟩⟩
  refine Calls.callWith_builtin rfl (Calls.evalArgs_plain (Calls.spliced_cons (thn (he.ok.run pins s σ H _ I h1) fun iv s2 ⟨y, H2, I2, ry, t, G1, ⟨z, et, k2⟩, l1, g1, r1⟩ => ?_)))
  subst et
  have h2 : liE X.K mf σ H2 (fun v H3 => ∃ w G2, R ((lkT kvs z).getD w) G2 ∧ Le H2 H3 ∧ RG X.K H3 G2 ∧ Rp X.K H3 v w) :=
    ⟨r, G1, _, hs.le l1, g1, k2, fun w G2 H3 v k3 l2 g2 r2 => ⟨w, G2, k3, l2, g2, r2⟩⟩
  refine Calls.spliced_cons (thn (hf.ok.run pins s2 σ H2 _ I2 h2) fun fv s3 ⟨v, H3, I3, rv, w, G2, k3, l2, g2, r2⟩ => Calls.spliced_nil ?_)
  obtain ⟨ro, e0, rel⟩ := look z
  cases (show y = .str z from r1)
  obtain ⟨tk, rfl⟩ := ry
  refine call_meetsIn PySem.F.slot_dict_get (kd_type D I3) PySem.F.entry_dict_get (PySem.F.args_dict_get_3 _ _ _) (meets_dict_get_default (strKind X.prog X.w) d (PySem.strKind_is X.prog X.w z tk) D.low _) ⟨_, PySem.W.mapOf_K (prog := X.prog) I3.kIn D.at_ D.lit, ?_⟩
  rw [PySem.W.find_K D.at_ e0]
  cases hl : lkT kvs z with
  | none =>
    rw [hl] at rel k3
    cases ro with
    | none => exact ⟨v, H3, I3.tok _, rv, f' _ G2 H3 v k3 (l1.trans l2) g2 r2⟩
    | some u => exact rel.elim
  | some t2 =>
    rw [hl] at rel k3
    cases ro with
    | none => exact rel.elim
    | some u =>
      obtain ⟨v2, rv2, rp2⟩ := rel
      exact ⟨v2, H3, I3.tok _, rv2, f' _ G2 H3 v2 k3 (l1.trans l2) g2 (rp2 H3)⟩
/-! x in D, x not in D -/
def mKIn (neg : Bool) (kvs : List (Str × T)) (ma : ME) : ME := fun r G R => ma r G fun t G1 => ∃ z, t = .str z ∧ R (.bl (if neg then !(lkT kvs z).isSome else (lkT kvs z).isSome)) G1
theorem krel_some {K : PySem.W.Frag} : ∀ {o : Option T} {r : Option Value}, KRel K o r → r.isSome = o.isSome
  | none, none, _ => rfl
  | some _, some _, _ => rfl
  | none, some _, h => h.elim
  | some _, none, h => h.elim
theorem kin_li {d : Addr} {σ : St} {H : Hp} {Q : VK} (look : ∀ z, ∃ r, PySem.W.nsIn X.K d z = some r ∧ KRel X.K (lkT kvs z) r) (h : liE X.K (mKIn false kvs me) σ H Q) :
    tOp (fun x y H Q => ∃ (z : Str) (r : Option Value), x = .str z ∧ y = .ref d ∧ PySem.W.nsIn X.K d z = some r ∧ Q (.bl r.isSome) H) (liE X.K me) (tC (.ref d)) σ H Q := by
  obtain ⟨r, G, R, hs, hg, k, f⟩ := h
  refine ⟨r, G, _, hs, hg, k, fun t G1 H1 y k1 l1 g1 r1 => ?_⟩
  obtain ⟨z, rfl, k2⟩ := k1
  obtain ⟨ro, e0, rel⟩ := look z
  refine ⟨z, ro, r1, rfl, e0, f _ G1 H1 _ k2 l1 g1 ?_⟩
  rw [krel_some rel]
  rfl
theorem knin_li {d : Addr} {σ : St} {H : Hp} {Q : VK} (look : ∀ z, ∃ r, PySem.W.nsIn X.K d z = some r ∧ KRel X.K (lkT kvs z) r) (h : liE X.K (mKIn true kvs me) σ H Q) :
    tOp (fun x y H Q => ∃ (z : Str) (r : Option Value), x = .str z ∧ y = .ref d ∧ PySem.W.nsIn X.K d z = some r ∧ Q (.bl (!r.isSome)) H) (liE X.K me) (tC (.ref d)) σ H Q := by
  obtain ⟨r, G, R, hs, hg, k, f⟩ := h
  refine ⟨r, G, _, hs, hg, k, fun t G1 H1 y k1 l1 g1 r1 => ?_⟩
  obtain ⟨z, rfl, k2⟩ := k1
  obtain ⟨ro, e0, rel⟩ := look z
  refine ⟨z, ro, r1, rfl, e0, f _ G1 H1 _ k2 l1 g1 ?_⟩
  rw [krel_some rel]
  rfl
theorem o_kin (D : KD X.K X.w X.mg x kvs) (hg : Gl X x) (he : OE X e me) (hd : (x == ("__debug__" : Str)) = false := by decide) : OE X (.Compare e [.In] [.Name x p] cpos) (mKIn false kvs me) := by
  obtain ⟨d, es, n, hm, D, look⟩ := D.ex
  exact ⟨(pe_cmpR (op_in_kd D) he.ok (pe_glob (v := V.ref d) hg hm rfl hd) (by first | exact nomark _ | rfl)).imp fun _ _ _ q => kin_li look q⟩
theorem o_knin (D : KD X.K X.w X.mg x kvs) (hg : Gl X x) (he : OE X e me) (hd : (x == ("__debug__" : Str)) = false := by decide) : OE X (.Compare e [.NotIn] [.Name x p] cpos) (mKIn true kvs me) := by
  obtain ⟨d, es, n, hm, D, look⟩ := D.ex
  exact ⟨(pe_cmpR (op_notIn_kd D) he.ok (pe_glob (v := V.ref d) hg hm rfl hd) (by first | exact nomark _ | rfl)).imp fun _ _ _ q => knin_li look q⟩
theorem t_kin (D : KD X.K X.w X.mg x kvs) (hg : Gl X x) (he : OE X e me) (hd : (x == ("__debug__" : Str)) = false := by decide) : OT X (.Compare e [.In] [.Name x p] cpos) (mB (mKIn false kvs me)) := by
  obtain ⟨d, es, n, hm, D, look⟩ := D.ex
  exact ⟨(pt_cmpR (op_in_kd D) he.ok (pe_glob (v := V.ref d) hg hm rfl hd) (by first | exact nomark _ | rfl)).imp fun _ _ _ q => kin_li look (test_li q)⟩
theorem t_knin (D : KD X.K X.w X.mg x kvs) (hg : Gl X x) (he : OE X e me) (hd : (x == ("__debug__" : Str)) = false := by decide) : OT X (.Compare e [.NotIn] [.Name x p] cpos) (mB (mKIn true kvs me)) := by
  obtain ⟨d, es, n, hm, D, look⟩ := D.ex
  exact ⟨(pt_cmpR (op_notIn_kd D) he.ok (pe_glob (v := V.ref d) hg hm rfl hd) (by first | exact nomark _ | rfl)).imp fun _ _ _ q => knin_li look (test_li q)⟩
/-! D[x] -/
def mKIx (kvs : List (Str × T)) (me : ME) : ME := fun r G R => me r G fun t G1 => ∃ z u, t = .str z ∧ lkT kvs z = some u ∧ R u G1
theorem o_kix (D : KD X.K X.w X.mg x kvs) (hg : Gl X x) (he : OE X e me) (hs : PlainIx e) (hd : (x == ("__debug__" : Str)) = false := by decide) : OE X (.Subscript (.Name x p) e cpos) (mKIx kvs me) := by
  obtain ⟨d, es, n, hm, D, look⟩ := D.ex
  refine ⟨(pe_ix ix_kdict (pe_glob (v := V.ref d) hg hm rfl hd) he.ok hs).imp fun σ H Q q => ?_⟩
  obtain ⟨r, G, R, hs, hg, k, f⟩ := q
  refine ⟨r, G, _, hs, hg, k, fun t G1 H1 y k1 l1 g1 r1 => ?_⟩
  obtain ⟨z, u, rfl, e1, k2⟩ := k1
  obtain ⟨ro, e0, rel⟩ := look z
  rw [e1] at rel
  cases ro with
  | none => exact rel.elim
  | some u0 =>
    obtain ⟨v, rv, rp⟩ := rel
    exact ⟨d, z, v, rfl, r1, ⟨es, n, u0, D.at_, D.lit, e0, rv⟩, f _ G1 H1 v k2 l1 g1 (rp H1)⟩
/-! for k in D[x], D a dict of the module whose values are tuples -/
def lkL : List (Str × List T) → Str → Option (List T)
  | [], _ => none
  | (k, t) :: r, z => if k = z then some t else lkL r z
def KRelL (K : PySem.W.Frag) : Option (List T) → Option Value → Prop
  | none, none => True
  | some ts, some u => ∃ p vs, u = .ref p ∧ (∀ H, SqT K H p vs) ∧ ∀ H, Rps K H vs ts
  | _, _ => False
structure KDt (K : PySem.W.Frag) (w : World) (mg : Str → Option Value) (x : Str) (kvs : List (Str × List T)) : Prop where
  ex : ∃ (d : Addr) (es : Array DictEntry) (n : Nat), mg x = some (.ref d) ∧ KDict K w d es n ∧ ∀ z, ∃ r, PySem.W.nsIn K d z = some r ∧ KRelL K (lkL kvs z) r
def miKSrc (kvs : List (Str × List T)) (me : ME) : MI := fun r G N => me r G fun t G1 => ∃ z ts, t = .str z ∧ lkL kvs z = some ts ∧ N ⟨ts, []⟩ G1
theorem i_ksrc {kvs : List (Str × List T)} {tg : Expr} (D : KDt X.K X.w X.mg x kvs) (hg : Gl X x) (he : OE X e me) (hs : PlainIx e) (hd : (x == ("__debug__" : Str)) = false := by decide) : OI X tg (.Subscript (.Name x p) e cpos) (miKSrc kvs me) := by
  obtain ⟨d, es, n, hm, D, look⟩ := D.ex
  refine ⟨⟨fun pins s σ H R I q => ?_⟩⟩
  obtain ⟨r, G, N, hs2, hgr, k, f⟩ := q
  refine thn ((pe_ix ix_kdict (pe_glob (v := V.ref d) hg hm rfl hd) he.ok hs).run pins s σ H (fun x H1 => ∃ pt vs ts G1, x = .ref pt ∧ (∀ H, SqT X.K H pt vs) ∧ (∀ H, Rps X.K H vs ts) ∧ RG X.K H1 G1 ∧ Le H H1 ∧ N ⟨ts, []⟩ G1) I ⟨r, G, _, hs2, hgr, k, fun t G1 H1 x k1 l1 g1 r1 => ?_⟩) fun v s1 ⟨x, H1, I1, rv, pt, vs, ts, G1, ex, hq, hr, g1, l1, hN⟩ => ?_
  · obtain ⟨z, ts, rfl, e1, k2⟩ := k1
    obtain ⟨ro, e0, rel⟩ := look z
    rw [e1] at rel
    cases ro with
    | none => exact rel.elim
    | some u0 =>
      obtain ⟨pt, vs, rfl, hq, hr⟩ := rel
      exact ⟨d, z, .ref pt, rfl, r1, ⟨es, n, .ref pt, D.at_, D.lit, e0, rfl⟩, pt, vs, ts, G1, rfl, hq, hr, g1, l1, k2⟩
  subst ex
  cases rv
  obtain ⟨OK, B, ok⟩ := Sk.begins (k := .tup pt) I1 (hq H1)
  refine B.iter _ _ _ _ _ _ ok ?_
  exact pi_one (tk := s1.toks) I1 _ (turn_S (.tup pt) _) (Sk.at_new (.tup pt) (Heap.get?_push_size _ B.free)) (f _ G1 H1 _ hN l1 g1 (walks_one fun H' G' _ _ _ => ⟨vs, hq H', hr H'⟩))
/-! a constant of the module: a number, a text, a truth -/
def litV : T → Value → Prop
  | .int i, u => ∃ t, u = .int i t
  | .str z, u => ∃ t, u = .str z t
  | .bl b, u => u = .bool b
  | .non, u => u = .none
  | _, _ => False
theorem o_const {t : T} (D : ∃ u, X.mg x = some u ∧ litV t u) (hg : Gl X x) (hd : (x == ("__debug__" : Str)) = false := by decide) : OE X (.Name x p) (mC t) := by
  obtain ⟨u, hm, l⟩ := D
  cases t with
  | int i => exact o_c (pe_glob (v := .int i) hg hm l hd)
  | str i => exact o_c (pe_glob (v := .str i) hg hm l hd)
  | bl i => exact o_c (pe_glob (v := .bl i) hg hm l hd)
  | non => exact o_c (pe_glob (v := .non) hg hm l hd)
  | _ => exact l.elim
end
end Mi

set_option Elab.async false
set_option linter.all false
set_option maxRecDepth 100000
namespace Mi
open PySem L2 PyProof.Rows
/-! ### methods of a text -/
section
variable {X : Cx} {id : String}
def omT0 (p : Str → Prop) (f : Str → T) : OM := fun t ts G R => ∃ a, t = .str a ∧ ts = [] ∧ p a ∧ R (f a) G
theorem mt_oT0 {p : Str → Prop} {f : Str → T} {g : Str → V} (h : MtR X id (fun x xs H Q => ∃ a, x = .str a ∧ xs = [] ∧ p a ∧ Q (g a) H)) (e : ∀ a H, Rp X.K H (g a) (f a)) : MtR X id (liB X.K (omT0 p f)) := MtR.imp h fun x vs H Q q => by
  obtain ⟨t, ts, G, R, rx, rv, hg, ⟨a, rfl, rfl, hp, k⟩, f⟩ := q
  cases rx
  cases rv
  exact ⟨a, rfl, rfl, hp, f.val hg k (e a H)⟩
def omT1 (p : Str → Str → Prop) (f : Str → Str → T) : OM := fun t ts G R => ∃ a b, t = .str a ∧ ts = [.str b] ∧ p a b ∧ R (f a b) G
theorem mt_oT1 {p : Str → Str → Prop} {f : Str → Str → T} {g : Str → Str → V} (h : MtR X id (fun x xs H Q => ∃ a b, x = .str a ∧ xs = [.str b] ∧ p a b ∧ Q (g a b) H)) (e : ∀ a b H, Rp X.K H (g a b) (f a b)) : MtR X id (liB X.K (omT1 p f)) := MtR.imp h fun x vs H Q q => by
  obtain ⟨t, ts, G, R, rx, rv, hg, ⟨a, b, rfl, rfl, hp, k⟩, f⟩ := q
  cases rx
  obtain ⟨v, rfl, r⟩ := rv.get1
  cases r
  exact ⟨a, b, rfl, rfl, hp, f.val hg k (e a b H)⟩
abbrev omUpper : OM := omT0 (fun a => a.length ≤ 5592405) fun a => .str (Txt.upper a)
abbrev omLower : OM := omT0 (fun a => a.length ≤ 5592405) fun a => .str (Txt.lower a)
abbrev omStrip : OM := omT0 (fun a => a.length ≤ sizeLine) fun a => .str (Txt.strip a)
abbrev omIsdigit : OM := omT0 (fun _ => True) fun a => .bl (Txt.isdigit a)
abbrev omStripChars : OM := omT1 (fun a _ => a.length ≤ sizeLine) fun a b => .str (Txt.stripChars a b)
abbrev omStarts : OM := omT1 (fun _ _ => True) fun a b => .bl (Txt.startswith a b)
abbrev omEnds : OM := omT1 (fun _ _ => True) fun a b => .bl (Txt.endswith a b)
abbrev omCount : OM := omT1 (fun _ _ => True) fun a b => .int (Txt.count a b)
abbrev omFind : OM := omT1 (fun _ _ => True) fun a b => .int (Txt.find a b)
theorem mt_oUpper : MtR X "str.upper" (liB X.K omUpper) := mt_oT0 mt_upper fun _ _ => rfl
theorem mt_oLower : MtR X "str.lower" (liB X.K omLower) := mt_oT0 mt_lower fun _ _ => rfl
theorem mt_oStrip : MtR X "str.strip" (liB X.K omStrip) := mt_oT0 mt_strip fun _ _ => rfl
theorem mt_oIsdigit : MtR X "str.isdigit" (liB X.K omIsdigit) := mt_oT0 mt_isdigit fun _ _ => rfl
theorem mt_oStripChars : MtR X "str.strip" (liB X.K omStripChars) := mt_oT1 mt_stripChars fun _ _ _ => rfl
theorem tr_in {X : Cx} {id : String} {g : Str → Str → V} (h : MtR X id (fun x xs H Q => ∃ a b, x = .str a ∧ xs = [.str b] ∧ Q (g a b) H)) : MtR X id (fun x xs H Q => ∃ a b, x = .str a ∧ xs = [.str b] ∧ True ∧ Q (g a b) H) :=
  MtR.imp h fun x vs H Q ⟨a, b, e1, e2, _, k⟩ => ⟨a, b, e1, e2, k⟩
theorem mt_oStarts : MtR X "str.startswith" (liB X.K omStarts) := mt_oT1 (tr_in mt_startswith) fun _ _ _ => rfl
theorem mt_oEnds : MtR X "str.endswith" (liB X.K omEnds) := mt_oT1 (tr_in mt_endswith) fun _ _ _ => rfl
theorem mt_oCount : MtR X "str.count" (liB X.K omCount) := mt_oT1 (tr_in mt_count) fun _ _ _ => rfl
theorem mt_oFind : MtR X "str.find" (liB X.K omFind) := mt_oT1 (tr_in mt_find) fun _ _ _ => rfl
/-- a.split(b) -/
def omSplit : OM := fun t ts G R => ∃ a b, t = .str a ∧ ts = [.str b] ∧ (b.length == 0) = false ∧ a.length + 2 ≤ sizeLine ∧ ∀ p, G p = none → R (.ref p) (put G p (.lst ((Txt.split a b).map T.str)))
theorem mt_oSplit : MtR X "str.split" (liB X.K omSplit) := MtR.imp mt_split fun x vs H Q q => by
  obtain ⟨t, ts, G, R, rx, rv, hg, ⟨a, b, rfl, rfl, h1, h2, k⟩, f⟩ := q
  cases rx
  obtain ⟨v, rfl, r⟩ := rv.get1
  cases r
  exact ⟨a, b, rfl, rfl, h1, h2, fun p hp => f.newL hg hp (k p (hg.fresh hp)) rp_strs⟩
def omWords : OM := fun t ts G R => ∃ a, t = .str a ∧ ts = [] ∧ a.length + 2 ≤ sizeLine ∧ ∀ p, G p = none → R (.ref p) (put G p (.lst ((Txt.words a).map T.str)))
theorem mt_oWords : MtR X "str.split" (liB X.K omWords) := MtR.imp mt_words fun x vs H Q q => by
  obtain ⟨t, ts, G, R, rx, rv, hg, ⟨a, rfl, rfl, h2, k⟩, f⟩ := q
  cases rx
  cases rv
  exact ⟨a, rfl, rfl, h2, fun p hp => f.newL hg hp (k p (hg.fresh hp)) rp_strs⟩
/-! ### repr(..) of data, where no repr stands around -/
def omRepr : Sm := fun ts G R => ∃ t d, ts = [t] ∧ Dt G t d ∧ d.showable = true ∧ d.hasDict = false ∧ d.depth ≤ 60 ∧ d.shown.length ≤ sizeLine ∧ R (.str d.shown) G
theorem c_repr (hgd : X.A.guards = some []) (hu : X.A.units + 64 < cLine) : CallR X (.builtin "repr") (liC X.K omRepr) := by
  intro pins s σ H vs us Q I rvs h
  obtain ⟨ts, G, R, rv, hg, ⟨t, d, rfl, hd, h1, h2, h3, h4, k⟩, f⟩ := h
  obtain ⟨v, rfl, r⟩ := rv.get1
  have dp := hd.dp hg d t v r
  obtain ⟨u, rfl, ru⟩ : ∃ u, us = [u] ∧ RelV v u := by
    cases rvs with
    | cons a b => cases b; exact ⟨_, rfl, a⟩
  obtain ⟨as, hr⟩ := Dp.reads I d v u dp ru
  have fin : ∀ h' tk tk2, (∀ b o, s.heap.get? b = some o → h'.get? b = some o) → EP X pins σ Q (.str d.shown tk) { s with heap := h', toks := tk2 } := fun h' tk tk2 hk => ⟨.str d.shown, H, I.kept hk, ⟨_, rfl⟩, f.val hg k rfl⟩
  cases hr with
  | none => exact PySem.P.repr_of_none (fin s.heap _ _ fun _ _ e => e)
  | bool b => exact PySem.P.repr_of_bool (fin s.heap _ _ fun _ _ e => e)
  | int i tk => exact PySem.P.repr_of_int (by simpa [PyData.showable] using h1) (fin s.heap _ _ fun _ _ e => e)
  | str x tk => exact PySem.P.repr_of_str (fin s.heap _ _ fun _ _ e => e) h4
  | list a1 a2 a3 a4 => exact PySem.repr_of_reads' (.list a1 a2 a3 a4) h1 (PyData.noDict_hsm h2) hgd (by omega) (fun _ _ e => e) (fun h' u tk hk => fin h' u tk hk) h4
  | tuple a1 a2 a3 a4 => exact PySem.repr_of_reads' (.tuple a1 a2 a3 a4) h1 (PyData.noDict_hsm h2) hgd (by omega) (fun _ _ e => e) (fun h' u tk hk => fin h' u tk hk) h4
  | dict a1 a2 a3 a4 a5 => simp [PyData.hasDict] at h2
end
end Mi

set_option Elab.async false
set_option linter.all false
set_option maxRecDepth 100000
namespace Mi
open PySem L2 PySem.Spec PyProof.Rows
/-! ### defs that run where no guard of repr stands around -/
section
variable {P : Program} {w : World} {K : PySem.W.Frag} {mg : Str → Option Value} {base : Heap}
/-- the promise of a def, at every place that has no guard around it -/
structure FnG (P : Program) (w : World) (K : PySem.W.Frag) (mg : Str → Option Value) (base : Heap) (n : Nat) (g : Addr) (fd : FuncData) (ps : List Str) (pr : Sp) : Prop where
  arity : ∀ xs H Q E, pr xs H Q E → xs.length = ps.length
  goes : ∀ (B : Around) (out : List PySem.Env) (s : Shared) (H : Hp) (args : Args) (ws : List Value) (xs : List V) (Q : VK) (E : XK),
    Room n B → B.guards = some [] → Env0 P w K mg base B out s H → BindsTo s fd args (ps.zip ws) → Vals xs ws → pr xs H Q E →
    codeAny (model P w) B (.call (.ref g) args) (CR CX0 out P w H s Q E) s
theorem FnG.of {n : Nat} {g : Addr} {fd : FuncData} {ps : List Str} {pr : Sp} (F : FnOk P w K mg base CX0 n g fd ps pr) : FnG P w K mg base n g fd ps pr :=
  ⟨F.len, fun B out s H args ws xs Q E a _ b c d e => F.run B out s H args ws xs Q E a b c d e⟩
/-- by its body -/
theorem fn_okG {x qual : Str} {st : Stmt} {f : Addr} {fd : FuncData} {N ps : List Str} {k : Nat} {b : MS} (F : Fun K x qual st f fd) (S : FnScope N ps (defScope st))
    (hb : ∀ (cdv : Value) (A : Around) (outer : List PySem.Env) (s : Shared) (H : Hp) (E : XK), A.guards = some [] → Room k (A.deeper (envOfC qual (defScope st) s.heap.objs.size f cdv)) → OSs (cxOf CX0 P w K mg base N qual (defScope st) f cdv A outer s H E).nox (defBody st) b) :
    FnG P w K mg base (k + 1) f fd ps (liM K (spOf N.length ps.length b)) := by
  obtain ⟨oc, od, kV, doc, pm, an, cdv, ct, osl, rfl, lk, hcd⟩ := F.ex
  have ar : ∀ xs H Q E, liM K (spOf N.length ps.length b) xs H Q E → xs.length = ps.length := fun xs H Q E h => by
    obtain ⟨ts, G, R, r, hg, ⟨hl, _⟩, _⟩ := h
    rw [r.length]
    exact hl
  refine ⟨ar, ?_⟩
  intro A outer s H args us vs Q E hr hgd e0 bd rv hsp
  have low := fun b o e => (e0.bs b o e).1
  have kin : K.In s.heap := e0.mod.kin.keeps low
  have nolim : s.heap.NoLimit := e0.mod.nolimit.keeps low
  have kinds : ∀ y ∈ ps.zip us, (defScope st).names.lookup y.1 = some .local ∨ ((defScope st).names.lookup y.1 = some .cell ∧ ((cellsFrom (s.heap.objs.size + 1) (defScope st).names []).lookup y.1).isSome = true) := by
    rintro ⟨y, v⟩ hy
    exact (S.par y (List.of_mem_zip hy).1).imp id fun q => ⟨q, PySem.W.cellsFrom_some _ _ _ (.inl q)⟩
  refine codeAny_call_function hr.depth (kin _ _ lk) rfl S.co S.gen rfl (PySem.W.codeRec_of kin hcd) (bd _ _ _ _ (wpAny_newFunctionEnv_cells S.kind kinds ?_))
  intro env he s1 x1
  subst he
  refine ⟨nolim.keeps x1.toInCall.keep, codeAny_func ?_⟩
  have body := ((hb cdv A outer s H E hgd (hr.deeper _)).ok).nox
  have I0 : Inv (cxOf CX0 P w K mg base N qual (defScope st) f cdv A outer s H E) [] (L2.start N vs) H s1 := inv_start S hr.hd e0 (ar vs H Q E hsp) rv x1
  obtain ⟨ts, G, R, r, hg, ⟨hl, hbody⟩, fR⟩ := hsp
  have give : Gives K H (fwdT R) Q := fun t G' H' v ⟨G2, e, k⟩ l g rv => fR t G2 H' v k l (g.sub e) rv
  have rs := start_rs (N := N) r
  rw [hl] at rs
  have run := body.run [] s1 (L2.start N vs) H { nx := fun _ H' => Q .non H', rt := Q } I0 ⟨_, G, _, rs, hg, hbody, fun r' G' σ' H' k l hs g => give .non G' H' .non k l g rfl, give, fun _ _ _ _ z => z.elim, fun _ _ _ _ z => z.elim⟩
  refine wpAny_mono run (fun fl s2 h2 => ?_) fun e s2 h2 => h2
  cases fl with
  | ret u =>
    obtain ⟨v, σ', H', J, rvu, q⟩ := h2
    exact ⟨v, H', J.os, J.bare, J.base, J.hok, rvu, q⟩
  | next =>
    obtain ⟨σ', H', J, q⟩ := h2
    exact ⟨V.non, H', J.os, J.bare, J.base, J.hok, rfl, q⟩
  | brk => obtain ⟨_, _, _, q⟩ := h2; exact q.elim
  | cont => obtain ⟨_, _, _, q⟩ := h2; exact q.elim
end
section
variable {X : Cx} {k : Nat} {f : Addr} {fd : FuncData} {ps : List Str} {sp : Sm} {x : Str} {p pos : Pos} {e : Expr} {es : List Expr} {mas : MA}
theorem o_callG (F : FnG X.prog X.w X.K X.mg X.base k f fd ps (liM X.K sp)) (hr : Room k X.A) (hgd : X.A.guards = some []) (hg : Gl X x) (hm : X.mg x = some (.ref f)) (hk : PySem.W.keepIn X.K (.ref f) = true) (hb : Binds X.K fd ps [])
    (ha : OA X (e :: es) mas) (hdb : (x == ("__debug__" : Str)) = false := by decide) (he : starEach (e :: es) X.env = (false, eval e X.env) :: starEach es X.env := by rfl) (hpl : (backTo pos (starEach es X.env)).any (·.1) = false := by rfl) :
    OE X (.Call (.Name x p) (e :: es) [] pos) (mCall sp mas) := by
  refine ⟨⟨fun pins s σ H Q I h => ?_⟩⟩
  have h0 : tCall (liM X.K sp) [] E0 (liA X.K mas) σ H Q := call_li h
  refine wpAny_Call_Name_kw (ld_glob I hg hm (PySem.W.callWith_K (h₀ := X.base) I.ok.mod.kin hk ?_ he hpl) hdb)
  refine thn (ha.ok.run pos pins s σ H _ I h0) fun us s1 ⟨vs, H1, I1, r, q⟩ => ⟨I1.kIn, ?_⟩
  have q : liM X.K sp vs H1 Q E0 := by
    have q2 : liM X.K sp (vs ++ []) H1 Q E0 := q
    rwa [List.append_nil] at q2
  have hl : (us ++ []).length = ps.length := by rw [List.append_nil, ← r.length]; exact F.arity _ _ _ _ q
  have bd := hb s1 us I1.kIn hl
  rw [List.append_nil] at bd
  refine wpAny_call (codeAny_mono (F.goes X.A X.stack s1 H1 ⟨us, []⟩ us vs Q E0 hr hgd I1.env0 bd r q) fun r2 s2 hq => ?_)
  cases r2 with
  | error e => exact hq.elim
  | ok fl =>
    cases fl with
    | ret u => exact I1.after hq
    | next => exact hq.elim
    | brk => exact hq.elim
    | cont => exact hq.elim
end
/-! ### the head for such a def -/
section
variable {P : Program} {w : World} {K : PySem.W.Frag} {mg mb : Str → Option Value} {k : Nat} {fa a : Addr} {fd : FuncData} {x : Str} {pr : Sp} {z : Shared} {vs : List Value} {ns : List Int}
/-- the def run on a script that is tracked by H -/
theorem head_core (hK : K.In z.heap) (hns : z.heap.Ns mainGlobals mg) (hb : z.heap.Ns builtinsNs mb) (hbb : ∀ x : Str, x ≠ "__name__" → mb x = bootBuiltins x) (hlim : z.heap.NoLimit) (hg : z.gens = #[])
    (ha : z.heap.get? a = some { cls := .type "list", data := .seq vs.toArray }) (hr : Room k callerA)
    (F : ∀ base : Heap, K.In base → base.Ns mainGlobals mg → FnG P w K mg base k fa fd [x] pr) (hbind : ∀ (s : Shared) (u : Value), BindsTo s fd ⟨[u], []⟩ [(x, u)])
    (hsp : ∀ H : Hp, Only H → SqL K H a (ns.map V.int) → pr [.ref a] H (fun v _ => v = .bl true) E0)
    (H : Hp) (hO : Only H) (hS : SqL K H a (ns.map V.int)) (ok : HOk P w H z.heap) (only : ∀ b, H b ≠ none → b = a) (out : H a ≠ none → K.lookup a = none) :
    codeAny (model P w) callerA (.call (.ref fa) ⟨[.ref a], []⟩) (fun r s' => r = .ok (.ret (.bool true)) ∧ OldK z.heap s'.heap ∧ s'.os = z.os ∧ AllBare s'.gens) z := by
  have atA : ∀ {b : Addr} {u : HO}, H b = some u → b = a := fun q => only _ (by rw [q]; exact nofun)
  have nd : ∀ {b : Addr} {o : Obj} {es : Array DictEntry} {ep : Nat}, z.heap.get? b = some o → o.data = .dict es ep → H b = none := by
    intro b o es ep e d
    cases q : H b with
    | none => rfl
    | some u =>
      obtain rfl := atA q
      rw [ha] at e
      cases e
      cases (show Data.seq vs.toArray _ = Data.dict es ep from d)
  have kNs : ∀ {b : Addr} {m : Str → Option Value}, z.heap.Ns b m → (hidT z.heap H).Ns b m := by
    rintro b m ⟨o, es, ep, e, d, r⟩
    exact ⟨o, es, ep, hidT_get e (nd e d), d, r⟩
  have kK : K.In (hidT z.heap H) := by
    intro b o e
    refine hidT_get (hK b o e) ?_
    cases q : H b with
    | none => rfl
    | some u =>
      obtain rfl := atA q
      rw [out (by rw [q]; exact nofun)] at e
      cases e
  obtain ⟨mc, l1, l2⟩ := hlim
  have M : Mod K mg (hidT z.heap H) := ⟨kK, kNs hns, ⟨mb, kNs hb, hbb⟩, ⟨mc, kNs l1, l2⟩⟩
  have e0 : Env0 P w K mg (hidT z.heap H) callerA [] z H :=
    ⟨rfl, M, fun b o e => of_hidT e, Nat.le_of_eq (hidT_size _ _), trivial, fun b hb => (nomatch hb), ok, .of_eq hg⟩
  have run := (F _ kK (kNs hns)).goes callerA [] z H ⟨[.ref a], []⟩ [.ref a] [.ref a] (fun v _ => v = .bl true) E0 hr rfl e0 (hbind z (.ref a)) (.cons rfl .nil) (hsp H hO hS)
  refine codeAny_mono run fun r s' h => ?_
  cases r with
  | error e => exact h.elim
  | ok fl =>
    cases fl with
    | next => exact h.elim
    | brk => exact h.elim
    | cont => exact h.elim
    | ret u =>
      obtain ⟨v, H', os, bare, un, ok', rv, q⟩ := h
      cases (show v = .bl true from q)
      cases (show u = Value.bool true from rv)
      refine ⟨rfl, OldK.of_keep fun b o e => ?_, os, bare⟩
      rcases hO b with n0 | ⟨ob, xs, n1⟩
      · exact un.keep b o e n0 (fun y => nomatch y) (fun y => nomatch y)
      · have h1 := (ok b _ n1).1
        have h2 := (ok' b _ (un.frzs b ob _ n1)).1
        rw [e] at h1
        cases h1
        exact h2
theorem head_call (hK : K.In z.heap) (hns : z.heap.Ns mainGlobals mg) (hb : z.heap.Ns builtinsNs mb) (hbb : ∀ x : Str, x ≠ "__name__" → mb x = bootBuiltins x) (hlim : z.heap.NoLimit) (hg : z.gens = #[])
    (ha : z.heap.get? a = some { cls := .type "list", data := .seq vs.toArray }) (hi : IntsAre vs ns) (hl : ns.length ≤ sizeLine) (hr : Room k callerA)
    (F : ∀ base : Heap, K.In base → base.Ns mainGlobals mg → FnG P w K mg base k fa fd [x] pr) (hbind : ∀ (s : Shared) (u : Value), BindsTo s fd ⟨[u], []⟩ [(x, u)])
    (hsp : ∀ H : Hp, Only H → SqL K H a (ns.map V.int) → pr [.ref a] H (fun v _ => v = .bl true) E0) :
    codeAny (model P w) callerA (.call (.ref fa) ⟨[.ref a], []⟩) (fun r s' => r = .ok (.ret (.bool true)) ∧ OldK z.heap s'.heap ∧ s'.os = z.os ∧ AllBare s'.gens) z := by
  have rel := vals_ints hi
  cases hk : K.lookup a with
  | some o =>
    have e := hK a o hk
    rw [ha] at e
    cases e
    refine head_core (ns := ns) hK hns hb hbb hlim hg ha hr F hbind hsp (fun _ => none) (fun _ => .inl rfl) (.inr ?_) (fun b u n => nomatch n) (fun b n => absurd rfl n) fun n => absurd rfl n
    exact ⟨_, vs.toArray, _, hk, rfl, rfl, rfl, by rw [List.size_toArray, hi.length]; exact hl, by simpa using rel⟩
  | none =>
    let T0 : HO := .frz { cls := .type "list", data := .seq vs.toArray } (.lst (ns.map V.int))
    refine head_core (ns := ns) hK hns hb hbb hlim hg ha hr F hbind hsp (fun b => if b = a then some T0 else none) (fun b => ?_) (.inl (.inr ⟨{ cls := .type "list", data := .seq vs.toArray }, if_pos rfl⟩)) (fun b u n => ?_) (fun b n => ?_) fun _ => hk
    · by_cases q : b = a
      · exact .inr ⟨_, _, if_pos q⟩
      · exact .inl (if_neg q)
    · by_cases q : b = a
      · subst q
        have n' : some T0 = some u := (if_pos rfl).symm.trans n
        cases n'
        exact ⟨ha, by rw [List.length_map]; exact hl, vs, _, rel, ha⟩
      · have n' : none = some u := (if_neg q).symm.trans n
        cases n'
    · by_cases q : b = a
      · exact q
      · exact absurd (if_neg q) n
end
/-- what k_head leaves, from such a promise -/
theorem walk_ofG {l : PySem.W.OpenLaw} {n k : Nat} {q : Program} {loose : List Str} {XP : (Str → Option Value) → Heap → Prop} {YP : World → Heap → Prop} {d : DefRec} {K : Params → PySem.W.Frag} {sp : World → Sp} {x : Str}
    (hn : l.most = some n) (hn2 : n ≤ sizeLine) (hdf : d.params.defaults = []) (hr : Room k callerA) (hY : ∀ (w : World) (h : Heap), YP w h → (K w.params).In h)
    (F : ∀ (w : World) (mg : Str → Option Value) (fa : Addr) (h : Heap), (K w.params).In h → h.Ns mainGlobals mg → mg d.name = some (.ref fa) →
      ∃ fd : FuncData, (∀ (s : Shared) (u : Value), BindsTo s fd ⟨[u], []⟩ [(x, u)]) ∧ ∀ base : Heap, (K w.params).In base → base.Ns mainGlobals mg → FnG l.prog w (K w.params) mg base k fa fd [x] (sp w))
    (hsp : ∀ (w : World) (H : Hp) (a : Addr) (ns : List Int), ns.length ≤ n → Only H → SqL (K w.params) H a (ns.map V.int) → sp w [.ref a] H (fun v _ => v = .bl true) E0) :
    PySem.W.WalkO q loose XP YP l.row.toRowW d [] (fun f vs => PySem.call f vs) :=
  Att.attach_call hn hdf fun w s₀ z mg mb fa o pm cd doc a vs ns G Y ho hd hcd hmg hobj hints hlen hg => by
    have kin := hY w _ Y
    obtain ⟨fd, hb, hF⟩ := F w mg fa _ kin G.T.g hmg
    exact head_call kin G.T.g G.T.b G.T.builtins G.T.nolimit hg hobj hints (Nat.le_trans hlen hn2) hr hF hb fun H hO hS => hsp w H a ns hlen hO hS
end Mi

set_option Elab.async false
set_option linter.all false
set_option maxRecDepth 100000
namespace Mi
open PySem L2
/-! ### going through a mirror: one rule each, read backwards -/
section
variable {r : Env} {G : Gp} {R : KT} {ma mb mc : ME} {k : MA} {M : MEnds} {s t : MS}
theorem x_var {i : Nat} {u : T} (e : r[i]? = some (some u)) (h : R u G) : mVar i r G R := ⟨u, e, h⟩
theorem x_c {u : T} (h : R u G) : mC u r G R := h
theorem x_op {o : O2} (h : ma r G fun s G1 => mb r G1 fun t G2 => o s t G2 R) : mOp o ma mb r G R := h
theorem x_seq (h : s { M with nx := t M } r G) : msSeq s t M r G := h
theorem x_if {c : MT} (h : c r G fun b G1 => if b = true then s M r G1 else t M r G1) : msIf c s t M r G := h
theorem x_ret (h : ma r G M.rt) : msRet ma M r G := h
theorem x_next (h : M.nx r G) : msNext M r G := h
theorem x_expr (h : ma r G fun _ G1 => M.nx r G1) : msExpr ma M r G := h
theorem x_asg {g : MG} (h : ma r G fun t G1 => g t r G1 M.nx) : msAsg ma g M r G := h
theorem x_gname {i : Nat} {u : T} {N : Env → Gp → Prop} (h : N (r.set i (some u)) G) : mgName i u r G N := h
theorem x_gtup {n : Nat} {ms : MGs} {ts : List T} {N : Env → Gp → Prop} (e : ts.length = n) (h : ms ts r G N) : mgTup n ms (.tup ts) r G N := ⟨ts, .inl rfl, e, h⟩
theorem x_gpr {n : Nat} {ms : MGs} {ts : List T} {N : Env → Gp → Prop} (e : ts.length = n) (h : ms ts r G N) : mgTup n ms (.pr ts) r G N := ⟨ts, .inr rfl, e, h⟩
theorem x_gcons {m : MG} {ms : MGs} {u : T} {us : List T} {N : Env → Gp → Prop} (h : m u r G fun r1 G1 => ms us r1 G1 N) : mgCons m ms (u :: us) r G N := ⟨u, us, rfl, h⟩
theorem x_gnil {N : Env → Gp → Prop} (h : N r G) : mgNil [] r G N := ⟨rfl, h⟩
theorem x_gsub {o : OSt} {u : T} {N : Env → Gp → Prop} (h : ma r G fun s G1 => mb r G1 fun t G2 => o s t u G2 fun G3 => N r G3) : mgSub ma mb o u r G N := h
theorem x_call {sp : Sm} (h : k r G fun ts G1 => sp ts G1 R) : mCall sp k r G R := h
theorem x_cons {R : List T → Gp → Prop} (h : ma r G fun t G1 => k r G1 fun ts G2 => R (t :: ts) G2) : maCons ma k r G R := h
theorem x_nil {R : List T → Gp → Prop} (h : R [] G) : maNil r G R := h
theorem x_par {i j : Nat} (h : k r G fun ts G1 => ∃ s t, ts = [s, t] ∧ M.nx ((r.set i (some s)).set j (some t)) G1) : msPar i j k M r G := h
theorem x_tup (h : k r G fun ts G1 => ts.length ≤ sizeLine ∧ R (.tup ts) G1) : mTup k r G R := h
theorem x_lst (h : k r G fun ts G1 => ts.length ≤ sizeLine ∧ ∀ p, G1 p = none → R (.ref p) (put G1 p (.lst ts))) : mLst k r G R := h
theorem x_b {R : Bool → Gp → Prop} (h : ma r G fun t G1 => ∃ k, t = .bl k ∧ R k G1) : mB ma r G R := h
theorem x_bl {R : Bool → Gp → Prop} {b : Bool} (h : R b G) : ∃ k, T.bl b = .bl k ∧ R k G := ⟨b, rfl, h⟩
theorem x_tru {R : Bool → Gp → Prop} (h : ma r G fun t G1 => ∃ k, truT G1 t k ∧ R k G1) : mTru ma r G R := h
theorem x_trub {R : Bool → Gp → Prop} {b : Bool} (h : R b G) : ∃ k, truT G (.bl b) k ∧ R k G := ⟨b, rfl, h⟩
theorem x_not {c : MT} {R : Bool → Gp → Prop} (h : c r G fun c G1 => R (!c) G1) : tmNot c r G R := h
theorem x_or {c d : MT} {R : Bool → Gp → Prop} (h : c r G fun c G1 => if c = true then R true G1 else d r G1 R) : tmOr c d r G R := h
theorem x_and {c d : MT} {R : Bool → Gp → Prop} (h : c r G fun c G1 => if c = true then d r G1 R else R false G1) : tmAnd c d r G R := h
theorem x_ife {c : MT} (h : c r G fun c G1 => if c = true then ma r G1 R else mb r G1 R) : mIf c ma mb r G R := h
theorem x_add {i j : Int} (h : R (.int (i + j)) G) : oAdd (.int i) (.int j) G R := h
theorem x_sub {i j : Int} (h : R (.int (i - j)) G) : oSub (.int i) (.int j) G R := ⟨trivial, h⟩
theorem x_mod {i j : Int} (c : 0 < j) (h : R (.int (i % j)) G) : oMod (.int i) (.int j) G R := ⟨c, h⟩
theorem x_fdiv {i j : Int} (c : CDivW i j) (h : R (.int (i / j)) G) : oFdiv (.int i) (.int j) G R := ⟨c, h⟩
theorem x_pow {i j : Int} (c : CPow i j) (h : R (.int (i ^ j.toNat)) G) : oPow (.int i) (.int j) G R := ⟨c, h⟩
theorem x_mul {i j : Int} (c : CMul i j) (h : R (.int (i * j)) G) : oMulU (.int i) (.int j) G R := .inl ⟨.inl c, h⟩
theorem x_ix {a : Addr} {i : Int} {xs : List T} {u : T} (e : G a = some (.lst xs)) (q : atI xs i = some u) (h : R u G) : oIx (.ref a) (.int i) G R := .inl ⟨xs, u, .inr (.inr ⟨a, rfl, e⟩), q, h⟩
theorem x_ixt {i : Int} {xs : List T} {u : T} (q : atI xs i = some u) (h : R u G) : oIx (.tup xs) (.int i) G R := .inl ⟨xs, u, .inl rfl, q, h⟩
theorem x_ixc {i : Int} {xs : List T} {u : T} (q : atI xs i = some u) (h : R u G) : oIx (.cl xs) (.int i) G R := .inl ⟨xs, u, .inr (.inl rfl), q, h⟩
theorem x_sto {a : Addr} {i : Int} {xs : List T} {u : T} {j : Nat} {K : Gp → Prop} (e : G a = some (.lst xs)) (q : ixN xs.length i = some j) (h : K (put G a (.lst (xs.set j u)))) : osLst (.ref a) (.int i) u G K := ⟨a, i, xs, j, rfl, rfl, e, q, h⟩
theorem x_gtI {i j : Int} (h : R (.bl (decide (j < i))) G) : oGtU (.int i) (.int j) G R := h
theorem x_ltI {i j : Int} (h : R (.bl (decide (i < j))) G) : oLtU (.int i) (.int j) G R := h
theorem x_geI {i j : Int} (h : R (.bl (decide (j ≤ i))) G) : oGeU (.int i) (.int j) G R := h
theorem x_leI {i j : Int} (h : R (.bl (decide (i ≤ j))) G) : oLeU (.int i) (.int j) G R := h
theorem x_divmod {i j : Int} (c : CDiv i j) (h : R (.tup [.int (i / j), .int (i % j)]) G) : omDivmod [.int i, .int j] G R := ⟨i, j, rfl, c, h⟩
theorem x_abs {i : Int} (h : R (.int (if i < 0 then -i else i)) G) : omAbs [.int i] G R := ⟨i, rfl, h⟩
theorem x_intb {b : Bool} (h : R (.int (if b then 1 else 0)) G) : omInt [.bl b] G R := .inr ⟨b, rfl, h⟩
theorem x_ite {b : Bool} {p q : Prop} (h1 : b = true → p) (h2 : b = false → q) : if b = true then p else q := by
  cases b
  · rw [if_neg (by decide)]; exact h2 rfl
  · rw [if_pos rfl]; exact h1 rfl
theorem get_new {p a : Addr} {c d : C} (hp : G p = none) (h : G a = some c) : put G p d a = some c := by
  rw [put_ne (fun e => by rw [e, hp] at h; cases h)]
  exact h
theorem get_ne {p a : Addr} {c d : C} (hp : a ≠ p) (h : G a = some c) : put G p d a = some c := by rw [put_ne hp]; exact h
end
end Mi
namespace Mi
open PySem L2
theorem divw {j : Int} (h : 0 < j) (h2 : j < 9223372036854775808) : CDivW j j := by
  refine ⟨h, ?_⟩
  have e : j.natAbs ≠ 0 := by omega
  have : j.natAbs.log2 < 64 := (Nat.log2_lt e).mpr (by omega)
  omega
theorem x_fdivC {i j : Int} {G : Gp} {R : KT} (c : 0 < j) (c2 : j < 9223372036854775808) (h : R (.int (i / j)) G) : oFdiv (.int i) (.int j) G R := x_fdiv ⟨c, (divw c c2).2⟩ h
theorem x_mulL {i j : Int} {G : Gp} {R : KT} (c : -9223372036854775808 ≤ i) (c2 : i ≤ 9223372036854775808) (h : R (.int (i * j)) G) : oMulU (.int i) (.int j) G R := x_mul (.inl ⟨by omega, by omega⟩) h
theorem x_mulR {i j : Int} {G : Gp} {R : KT} (c : -9223372036854775808 ≤ j) (c2 : j ≤ 9223372036854775808) (h : R (.int (i * j)) G) : oMulU (.int i) (.int j) G R := x_mul (.inr ⟨by omega, by omega⟩) h
end Mi
namespace Mi
open PySem L2
section
variable {r : Env} {G : Gp} {R : KT} {ma mb mc : ME} {k : MA} {M : MEnds} {s t : MS}
theorem x_len {u : T} {us : List T} (e : isSq G u us) (h : R (.int us.length) G) : omLen [u] G R := ⟨u, rfl, .inl ⟨us, e, h⟩⟩
theorem x_for {w : MI} {g : MG} (h : w r G fun m G1 => ∃ W : Nat → Env → Gp → Prop, W 0 r G1 ∧ (∀ i r G, W i r G → Held G m.held) ∧
  (∀ i t r G, m.its[i]? = some t → W i r G → g t r G (s { M with nx := fwd (W (i + 1)), ct := fwd (W (i + 1)), bk := M.nx })) ∧ ∀ r G, W m.its.length r G → M.nx r G) : msFor w g s M r G := h
theorem x_range {j : Int} {N : MIt → Gp → Prop} (c : -4611686018427387904 ≤ j) (c2 : j < 4611686018427387904) (h : N ⟨rangeT 0 j.toNat, []⟩ G) : ∃ j', T.int j = .int j' ∧ -(2 ^ 62) ≤ j' ∧ j' < 2 ^ 62 ∧ N ⟨rangeT 0 j'.toNat, []⟩ G := ⟨j, rfl, by omega, by omega, h⟩
theorem x_irange {N : MIt → Gp → Prop} (h : ma r G fun t G1 => ∃ j, t = .int j ∧ -(2 ^ 62) ≤ j ∧ j < 2 ^ 62 ∧ N ⟨rangeT 0 j.toNat, []⟩ G1) : miRange ma r G N := h
theorem range_at {n i : Nat} {t : T} (h : (rangeT 0 n)[i]? = some t) : t = .int i ∧ i < n := by
  unfold rangeT at h
  rw [List.getElem?_map] at h
  cases e : (List.range n)[i]? with
  | none => rw [e] at h; cases h
  | some j =>
    rw [e] at h
    obtain ⟨h1, h2⟩ := List.getElem?_eq_some_iff.mp e
    rw [List.getElem_range] at h2
    subst h2
    rw [List.length_range] at h1
    have q := Option.some.inj h
    refine ⟨by rw [← q]; show T.int (0 + _) = _; rw [Int.zero_add], h1⟩
theorem x_lc {w : MI} {g : MG} {tt : MT} {te : ME} {vs : List Nat} (h : w r G fun m G1 => ∀ D, G1 D = none → ∃ W : Nat → Gp → Prop, W 0 (put G1 D (.lst [])) ∧ (∀ i G, W i G → Held G m.held) ∧
  (∀ i t G, m.its[i]? = some t → W i G → g t (wipeT r vs) G fun r2 G2 => tt r2 G2 fun b G3 =>
    if b = true then te r2 G3 fun u G4 => ∃ acc, G4 D = some (.lst acc) ∧ acc.length < sizeLine ∧ fwdG (W (i + 1)) (put G4 D (.lst (acc ++ [u]))) else fwdG (W (i + 1)) G3) ∧ ∀ G, W m.its.length G → R (.ref D) G) : mLc w g tt te vs r G R := h
theorem x_yes {R : Bool → Gp → Prop} (h : R true G) : mtYes r G R := h
theorem x_bm {n : String} {o : OM} (h : ma r G fun t G1 => isTy G1 n t ∧ k r G1 fun ts G2 => o t ts G2 R) : mBm n o ma k r G R := h
theorem x_bm0 {n : String} {o : OM} (h : ma r G fun t G1 => isTy G1 n t ∧ o t [] G1 R) : mBm0 n o ma r G R := h
theorem x_tystr {z : Str} {p : Prop} (h : p) : isTy G "str" (.str z) ∧ p := ⟨rfl, h⟩
theorem x_tylst {a : Addr} {ts : List T} {p : Prop} (e : G a = some (.lst ts)) (h : p) : isTy G "list" (.ref a) ∧ p := ⟨.inl ⟨rfl, ts, e⟩, h⟩
theorem x_append {a : Addr} {xs : List T} {u : T} (e : G a = some (.lst xs)) (c : xs.length < sizeLine) (h : R .non (put G a (.lst (xs ++ [u])))) : omAppend (.ref a) [u] G R := ⟨a, xs, u, rfl, rfl, e, c, h⟩
theorem x_andv (h : ma r G fun t G1 => ∃ k, truT G1 t k ∧ if k = true then mb r G1 R else R t G1) : mAndV ma mb r G R := h
theorem x_orv (h : ma r G fun t G1 => ∃ k, truT G1 t k ∧ if k = true then R t G1 else mb r G1 R) : mOrV ma mb r G R := h
theorem x_notv (h : ma r G fun t G1 => ∃ k, truT G1 t k ∧ R (.bl (!k)) G1) : mNotV ma r G R := h
theorem x_eqI {i j : Int} (h : R (.bl (decide (i = j))) G) : oEq (.int i) (.int j) G R := ⟨.int i, .int j, .int i, .int j, rfl, rfl, h⟩
theorem x_eqS {i j : Str} (c : SeqAt.shaped (.str i) = true) (c2 : SeqAt.shaped (.str j) = true) (h : R (.bl (PyData.eqv (.str i) (.str j))) G) : oEq (.str i) (.str j) G R := ⟨.str i, .str j, .str i, .str j, c, c2, h⟩
theorem x_adds {x y : Str} (c : x.length + y.length ≤ sizeLine) (h : R (.str (x ++ y)) G) : oAdd (.str x) (.str y) G R := ⟨c, h⟩
theorem x_muls {z : Str} {i : Int} (c1 : i < 9223372036854775808) (c2 : -9223372036854775808 ≤ i) (l : z.length * i.toNat ≤ sizeLine) (h : R (.str (repS z i.toNat)) G) : oMulU (.str z) (.int i) G R := .inr ⟨z, i, rfl, rfl, by omega, by omega, l, h⟩
theorem x_ixs {z : Str} {i : Int} {c : Nat} (l : z.length ≤ sizeLine) (q : atI z.cps.toList i = some c) (h : R (.str ⟨#[c]⟩) G) : oIx (.str z) (.int i) G R := .inr ⟨z, c, rfl, l, q, h⟩
end
end Mi

set_option Elab.async false
set_option linter.all false
set_option maxRecDepth 100000
namespace Mi
open PySem PySem.Spec PyProof.Rows
/-! ### how many unlike texts stand in a list -/
theorem take_next {zs : List Str} {i : Nat} {z : Str} (h : zs[i]? = some z) : zs.take (i + 1) = zs.take i ++ [z] := by
  rw [List.take_add_one, h]; rfl
theorem any_next {zs : List Str} {i : Nat} {z : Str} (h : zs[i]? = some z) (k : Str) : (zs.take (i + 1)).any (· == k) = ((zs.take i).any (· == k) || decide (k = z)) := by
  rw [take_next h, List.any_append]
  congr 1
  show ((z == k) || false) = _
  rw [Bool.or_false]
  by_cases e : k = z
  · rw [decide_eq_true e, e]; exact beq_self_eq_true z
  · rw [decide_eq_false e]; exact beq_eq_false_iff_ne.mpr (Ne.symm e)
theorem unlike_next {zs : List Str} {i : Nat} {z : Str} (h : zs[i]? = some z) : (zs.take (i + 1)).Nodup ↔ (zs.take i).Nodup ∧ (zs.take i).any (· == z) = false := by
  rw [take_next h, List.nodup_append, List.any_eq_false]
  constructor
  · rintro ⟨a, _, c⟩
    exact ⟨a, fun y hy e => c y hy z (by simp) (beq_iff_eq.mp e)⟩
  · rintro ⟨a, c⟩
    refine ⟨a, by simp, fun y hy x hx e => c y hy ?_⟩
    rw [e, List.mem_singleton.mp hx]
    exact beq_self_eq_true z
/-- so many unlike ones are among the first i -/
def Many (zs : List Str) (i n : Nat) : Prop := n ≤ i ∧ (n = i ↔ (zs.take i).Nodup)
theorem Many.next {zs : List Str} {i n : Nat} {z : Str} (h : Many zs i n) (e : zs[i]? = some z) : Many zs (i + 1) (if (zs.take i).any (· == z) = true then n else n + 1) := by
  obtain ⟨h1, h2⟩ := h
  unfold Many
  rw [unlike_next e, ← h2]
  cases (zs.take i).any (· == z) with
  | true =>
    rw [if_pos rfl]
    exact ⟨by omega, fun q => by omega, fun q => by cases q.2⟩
  | false =>
    rw [if_neg Bool.false_ne_true]
    exact ⟨by omega, fun q => ⟨by omega, rfl⟩, fun q => by omega⟩
theorem Many.nil (zs : List Str) : Many zs 0 0 := ⟨Nat.le_refl 0, fun _ => List.nodup_nil, fun _ => rfl⟩
section
variable {prog : Program} {w : World} {A : Around} {R : Result → Shared → Prop} {I : Addr} {fp wr : List Addr} {Gs : Array GenState → Array GenState → Prop} {n : Nat} {P : Nat → Value → Prop} {St : Nat → Shared → Prop}
/-- the first i of some texts stand in a set -/
def Holds (prog : Program) (w : World) (h : Heap) (D : Addr) (zs : List Str) (i : Nat) : Prop := ∃ c, Many zs i c ∧ h.SetOf (PySem.strKind prog w) D (fun k => (zs.take i).any (· == k)) c
theorem Holds.at {h h' : Heap} {D : Addr} {zs : List Str} {i : Nat} (x : Holds prog w h D zs i) (k : ∀ o, h.get? D = some o → h'.get? D = some o) : Holds prog w h' D zs i := by
  obtain ⟨c, m, o, es, ep, t, ho, r⟩ := x
  exact ⟨c, m, o, es, ep, t, k o ho, r⟩
theorem fill (W : WalksS prog w A.in1 I fp wr Gs n P St) {D : Addr} (hD : D ∉ fp) {zs : List Str} (hn : n < 4000) (hv : ∀ i v, P i v → ∃ z t, zs[i]? = some z ∧ v = .str z t) :
    ∀ (m i : Nat) (s : Shared), n - i = m → i ≤ n → St i s → Holds prog w s.heap D zs i → (∀ s', Moved (D :: wr) Gs s s' → Holds prog w s'.heap D zs n → R (.ok (.ret .none)) s') →
      codeAny (model prog w) A (.builtin "set.update.loop" ⟨[.ref D, .ref I], []⟩) R s := by
  have out : D ∉ wr := fun h => hD (W.sub _ h)
  have wide : ∀ b ∈ wr, b ∈ D :: wr := fun b hb => List.mem_cons_of_mem _ hb
  intro m
  induction m with
  | zero =>
    intro i s hm hi st x fin
    obtain rfl : i = n := by omega
    refine codeAny_builtin PyProof.Rows.F.entry_set_update_loop ?_
    rw [Around.under_plainId PyProof.Rows.F.plain_set_update_loop _]
    show wpAny _ A.in1 (pyNext (.ref I) >>= _) _ _ s
    refine wpAny_bind (W.done s _ _ st fun s1 mv => ?_)
    show wpAny _ A.in1 (ret Value.none) _ _ s1
    exact wpAny_pure (fin s1 (mv.mono wide) (x.at fun o e => mv.heap D o out e))
  | succ m ih =>
    intro i s hm hi st x fin
    refine codeAny_builtin PyProof.Rows.F.entry_set_update_loop ?_
    rw [Around.under_plainId PyProof.Rows.F.plain_set_update_loop _]
    show wpAny _ A.in1 (pyNext (.ref I) >>= _) _ _ s
    refine wpAny_bind (W.item i s _ _ (by omega) st fun v s1 hp st1 mv => ?_)
    obtain ⟨z, t, hz, rfl⟩ := hv i v hp
    obtain ⟨c, many, set⟩ := x.at fun o e => mv.heap D o out e
    show wpAny _ A.in1 (holding [Value.str z t] (setAdd D (.str z t)) >>= _) _ _ s1
    refine wpAny_bind (wpAny_holding ?_)
    unfold setAdd
    refine wpAny_holding ?_
    refine wpAny_bind ((PySem.strKind prog w).pyHash (k := z) (strKind_is _ _ _ _) ?_)
    have room : c + 1 < scanBound := by have := many.1; unfold scanBound; omega
    refine wpAny_setAddHashed_of (knd := PySem.strKind prog w) (s := { s1 with toks := s1.toks + 1 }) (strKind_is _ _ _ _) rfl set room fun h2 but set2 => ?_
    have next : Holds prog w h2 D zs (i + 1) := ⟨_, many.next hz, SetOf_congr set2 (fun k => (any_next hz k).symm) rfl⟩
    have keep : ∀ b, b ≠ D → ∀ o, s1.heap.get? b = some o → h2.get? b = some o := fun b hb o e => by rw [but.2 b hb]; exact e
    refine wpAny_pure ⟨plainId_quiet PyProof.Rows.F.plain_set_update_loop _, ih (i + 1) _ (by omega) (by omega) (W.frame _ s1 _ _ st1 (Nat.le_succ _) fun b hb o e => keep b (fun q => hD (q ▸ hb)) o e) next fun s2 mv2 x2 => ?_⟩
    refine fin s2 (Moved.trans W.gtrans ((mv.mono wide).then_heap (Nat.le_succ _) fun b o hb e => keep b (fun q => hb (q ▸ List.mem_cons_self)) o e) mv2) x2
end
section
variable {prog : Program} {w : World} {A : Around} {E : Value → Shared → Prop} {s : Shared}
set_option maxHeartbeats 3200000 in
theorem set_of_texts {l : Addr} {items : Array Value} {zs : List Str} {Q : Value → Shared → Prop} (hh : A.handled = none) (hl : s.heap.IsList l items) (hi : StrsAre items.toList zs) (hn : zs.length < 4000)
    (k : ∀ (h' : Heap) (tk : Nat), Holds prog w h' s.heap.objs.size zs zs.length → (∀ b o, s.heap.get? b = some o → h'.get? b = some o) → Q (.ref s.heap.objs.size) { s with heap := h', toks := tk }) :
    wpAny (model prog w) A (call (.type "set") [.ref l]) Q E s := by
  have hsz : items.size = zs.length := by rw [← Array.length_toList]; exact StrsAre.len_eq hi
  obtain ⟨c, tl, hmro⟩ := PySem.F.called_set.mro
  have hmade := PySem.F.called_set.made
  have hsub := PySem.F.called_set.sub
  refine wpAny_call (codeAny_of_tree ?_)
  show wpAny _ _ (callAny (.type "set") _) _ _ _
  refine wpAny_pure ⟨Code.quiet_builtin _ (by decide +kernel), codeAny_builtin PySem.F.entry_type_call ?_⟩
  rw [Around.under_plain (weight_type_call_type "set" [.ref l] []) rfl]
  have h1 := PySem.F.called_set.notType
  have h2 := PySem.F.called_set.canCreate
  have hct := PySem.F.typeCall_set_1 (.ref l)
  repeat (any_goals (first | assumption | wp_step))
  refine codeAny_mono (code_set_new_1 (.ref l) (E := E) (Q₁ := fun obj s1 => ∃ led : Bool, obj = .ref s.heap.objs.size ∧ s1 = { s with heap := s.heap.push { cls := .type "set", dict := none, data := .set #[] 0 (.fresh 0 0 led) } }) fun led => ⟨led, rfl, rfl⟩) fun r s1 hr => ?_
  match r, hr with
  | .error _, hr => exact hr
  | .ok .next, hr => exact hr.elim
  | .ok .brk, hr => exact hr.elim
  | .ok .cont, hr => exact hr.elim
  | .ok (.ret obj), hr =>
    obtain ⟨led, rfl, rfl⟩ := hr
    generalize hN : s.heap.push { cls := .type "set", dict := none, data := .set #[] 0 (.fresh 0 0 led) } = hp1
    have fresh : hp1.get? s.heap.objs.size = some { cls := .type "set", dict := none, data := .set #[] 0 (.fresh 0 0 led) } := by rw [← hN]; exact Heap.get?_push_size _ rfl
    have old : ∀ b o, s.heap.get? b = some o → hp1.get? b = some o := fun b o e => by rw [← hN]; exact Heap.get?_push_of_some _ e
    have size1 : hp1.objs.size = s.heap.objs.size + 1 := by rw [← hN]; exact Heap.size_push _ _
    have isSet : Shared.TypeIs { s with heap := hp1 } (.ref s.heap.objs.size) "set" := ⟨_, fresh, rfl⟩
    have hli := PySem.F.called_set.init.lookup
    have hbi := PySem.F.called_set.init.bind (.ref s.heap.objs.size)
    repeat (any_goals (first | assumption | wp_step))
    refine codeAny_mono (codeAny_call_builtin (R := wants (fun r s2 => r = .none ∧ ∃ h' tk, s2 = { s with heap := h', toks := tk } ∧ Holds prog w h' s.heap.objs.size zs zs.length ∧ ∀ b o, s.heap.get? b = some o → h'.get? b = some o) E) PySem.F.called_set.init.plain PySem.F.entry_set_init (check_set_init_1 isSet ?_)) fun r2 s2 hr2 => ?_
    · obtain ⟨ol, hol, hcl, nl, hdl⟩ := hl
      obtain ⟨ocls, odict, odata, oslots⟩ := ol
      simp only at hcl hdl
      subst hcl; subst hdl
      have hol1 := old _ _ hol
      have hsls := PySem.F.sub_list_set
      have hslf := PySem.F.sub_list_frozenset
      have hne : (Value.type "list" == Value.type "dict") = false := by decide
      have hl1 : hp1.IsList l items := ⟨_, hol1, rfl, nl, rfl⟩
      unfold Builtin.«set.__init__» noKeywords Builtin.Frozenset.updateFrom
      generalize hPI : pyIter = PI
      wp_walk
      subst hPI
      refine wpAny_pyIter_list hl1 ?_
      refine wpAny_bind (wpAny_runValue ?_)
      have ll : l < s.heap.objs.size := Heap.lt_size hol
      have hh3 : A.in1.in1.in1.handled = none := by simp [hh]
      have lI : l ≠ hp1.objs.size := by rw [size1]; exact Nat.ne_of_lt (Nat.lt_succ_of_lt ll)
      have DI : s.heap.objs.size ∉ [hp1.objs.size, l] := by
        rw [size1]
        intro h
        rcases List.mem_cons.mp h with h | h
        · exact Nat.ne_of_lt (Nat.lt_succ_self _) h
        · exact Nat.ne_of_gt ll (List.mem_singleton.mp h)
      have val : ∀ (i : Nat) (v : Value), items[i]? = some v → ∃ z t, zs[i]? = some z ∧ v = .str z t := fun i v e => by
        obtain ⟨t, rfl⟩ := SS.strs_at hi i v (by rw [Array.getElem?_toList]; exact e)
        have hi2 : i < zs.length := by
          have := (Array.getElem?_eq_some_iff.mp e).1
          omega
        exact ⟨_, t, by rw [List.getD_eq_getElem?_getD, List.getElem?_eq_getElem hi2]; rfl, rfl⟩
      refine fill ((Walks.list hh3 _ l lI items).toS) DI (by omega) val (items.size - 0) 0 _ rfl (Nat.zero_le _) ⟨⟨_, Heap.get?_push_size _ rfl, rfl, rfl⟩, hl1.push _⟩ ⟨0, Many.nil zs, ?_⟩ fun s3 mv x => ?_
      · refine SetOf_congr ((setObjOf_fresh (knd := PySem.strKind prog w) led).setOf (Heap.get?_push_of_some _ fresh) (by unfold scanBound; omega)) (fun _ => rfl) rfl
      · obtain ⟨h3, g3, d3, tk3, os3⟩ := s3
        have eg : g3 = s.gens := mv.gens
        have ed : d3 = s.drawn := mv.drawn
        have eo : os3 = s.os := mv.os
        subst eg; subst ed; subst eo
        rw [hsz] at x
        show wpAny _ _ _ _ _ _
        refine wpAny_pure ?_
        show wpAny _ _ (ret Value.none) _ _ _
        refine wpAny_pure ⟨rfl, h3, tk3, rfl, x, fun b o e => mv.heap b o (fun h => ?_) (Heap.get?_push_of_some _ (old b o e))⟩
        have lb : (b : Nat) < s.heap.objs.size := Heap.lt_size e
        rcases List.mem_cons.mp h with h | h
        · exact Nat.ne_of_lt lb h
        · exact Nat.ne_of_lt (Nat.lt_succ_of_lt lb) ((List.mem_singleton.mp h).trans size1)
    · match r2, hr2 with
      | .error _, hr2 => exact hr2
      | .ok .next, hr2 => exact hr2.elim
      | .ok .brk, hr2 => exact hr2.elim
      | .ok .cont, hr2 => exact hr2.elim
      | .ok (.ret _), hr2 =>
        obtain ⟨rfl, h3, tk, rfl, x, y⟩ := hr2
        repeat (any_goals (first | assumption | wp_step))
        exact k h3 tk x y
end
end Mi
namespace Mi
open PySem PySem.Spec PyProof.Rows L2
section
variable {X : Cx}
/-- len(set(texts)) -/
def tLenTxt (K : PySem.W.Frag) (ta : TE) : TE := fun σ H Q => ta σ H fun x H1 => ∃ l, ∃ zs : List Str, x = .ref l ∧ SqL K H1 l (zs.map V.str) ∧ zs.length < 4000 ∧ ∀ n : Nat, (n = zs.length ↔ zs.Nodup) → Q (.int n) H1
theorem pe_lenTxt {a : Expr} {ta : TE} {p p2 q pos : Pos} (hc : X.calm = true) (hg : Gl X "len") (hm : X.mg "len" = none) (hg2 : Gl X "set") (hm2 : X.mg "set" = none) (ha : PE X a ta)
    (na : starEach [a] X.env = (false, eval a X.env) :: starEach [] X.env := by rfl) : PE X (.Call (.Name "len" p) [.Call (.Name "set" p2) [a] [] q] [] pos) (tLenTxt X.K ta) := by
  refine ⟨fun pins s σ H Q I h => Call_ (ld_blt I hg hm boot_len ?_)⟩
  refine callWith_builtin1 (args_cons ?_ rfl) rfl rfl
  refine Call_ (ld_blt I hg2 hm2 boot_set ?_)
  refine callWith_type1 (args_cons (thn (ha.run pins s σ H _ I h) fun v s1 ⟨x, H1, I1, r1, q1⟩ => args_nil ?_) na) na rfl
  obtain ⟨l, zs, rfl, hq, hz, q1⟩ := q1
  cases r1
  obtain ⟨its, r, pl, _⟩ := I1.list hq
  refine set_of_texts (I1.ok.hd hc) pl.isList (by simpa using strsAre_of r) hz fun h' tk ⟨c, many, o, es, ep, t, ho, hex, hd, _, _, _, hf, hn⟩ hk => args_nil ?_
  have I2 : Inv X pins σ H1 { s1 with heap := h', toks := tk } := I1.kept hk
  refine call_len_set ho hex hd hf (by have := many.1; rw [hn]; omega) ⟨.int c, H1, I2.tok _, ⟨_, by rw [hn]⟩, q1 c ?_⟩
  have := many.2
  rwa [List.take_length] at this
end
section
variable {X : Cx} {a : Expr} {ma : ME}
def mLenSet (m : ME) : ME := fun r G R => m r G fun t G1 => ∃ zs : List Str, isL G1 t (zs.map T.str) ∧ zs.length < 4000 ∧ ∀ n : Nat, (n = zs.length ↔ zs.Nodup) → R (.int n) G1
theorem o_lenSet {p p2 q pos : Pos} (hc : X.calm = true) (hg : Gl X "len") (hm : X.mg "len" = none) (hg2 : Gl X "set") (hm2 : X.mg "set" = none) (ha : OE X a ma)
    (na : starEach [a] X.env = (false, eval a X.env) :: starEach [] X.env := by rfl) : OE X (.Call (.Name "len" p) [.Call (.Name "set" p2) [a] [] q] [] pos) (mLenSet ma) :=
  ⟨(pe_lenTxt hc hg hm hg2 hm2 ha.ok na).imp fun σ H Q h => by
    obtain ⟨r, G, R, hs, hgg, k, f⟩ := h
    refine ⟨r, G, _, hs, hgg, k, fun t G1 H1 v k1 l1 g1 r1 => ?_⟩
    obtain ⟨zs, e, hz, k2⟩ := k1
    obtain ⟨b, vs, rfl, hq, ru⟩ := e.seq g1 r1
    rw [strs_rp ru] at hq
    exact ⟨b, zs, rfl, hq, hz, fun n hn => f _ G1 H1 _ (k2 n hn) l1 g1 rfl⟩⟩
end
/-! ### a list of texts that rises -/
def ltS (a b : Str) : Bool := decide (a.cps.toList < b.cps.toList)
/-- each is less than the next -/
def up : List Str → Bool
  | x :: y :: r => ltS x y && up (y :: r)
  | _ => true
theorem str_eq {a b : Str} (h : a.cps.toList = b.cps.toList) : a = b := by
  cases a; cases b
  congr 1
  exact Array.toList_inj.mp h
theorem ltS_irr (a : Str) : ltS a a = false := decide_eq_false (List.lt_irrefl _)
theorem ltS_tr {a b c : Str} (h : ltS a b = true) (k : ltS b c = true) : ltS a c = true := decide_eq_true (List.lt_trans (of_decide_eq_true h) (of_decide_eq_true k))
theorem ltS_con {a b : Str} (h : ltS a b = false) (k : ltS b a = false) : a = b := str_eq (List.le_antisymm (List.not_lt.mp (of_decide_eq_false k)) (List.not_lt.mp (of_decide_eq_false h)))
theorem rising_pw : ∀ (p : Str) (l : List Str), risingS p l = true → (p :: l).Pairwise (fun a b => ltS b a = false)
  | p, [], _ => by simp
  | p, x :: r, h => by
    have h : (!ltCps x.cps.toList p.cps.toList && risingS x r) = true := h
    rw [Bool.and_eq_true, ltCps_eq] at h
    have h0 : ltS x p = false := by simpa [ltS] using h.1
    have ih := rising_pw x r h.2
    refine List.pairwise_cons.mpr ⟨fun b hb => ?_, ih⟩
    rcases List.mem_cons.mp hb with rfl | hb
    · exact h0
    · have hx := (List.pairwise_cons.mp ih).1 b hb
      cases e : ltS b p with
      | false => rfl
      | true =>
        cases e2 : ltS p x with
        | true => rw [ltS_tr e e2] at hx; cases hx
        | false => rw [ltS_con e2 h0, hx] at e; cases e
theorem sorted_pw : ∀ (l : List Str), sortedS l = true → l.Pairwise (fun a b => ltS b a = false)
  | [], _ => .nil
  | x :: r, h => rising_pw x r h
theorem up_pw : ∀ (l : List Str), up l = true → l.Pairwise (fun a b => ltS a b = true)
  | [], _ => .nil
  | [x], _ => by simp
  | x :: y :: r, h => by
    have h : (ltS x y && up (y :: r)) = true := h
    rw [Bool.and_eq_true] at h
    have ih := up_pw (y :: r) h.2
    refine List.pairwise_cons.mpr ⟨fun b hb => ?_, ih⟩
    rcases List.mem_cons.mp hb with rfl | hb
    · exact h.1
    · exact ltS_tr h.1 ((List.pairwise_cons.mp ih).1 b hb)
theorem pw_up : ∀ (l : List Str), l.Pairwise (fun a b => ltS a b = true) → up l = true
  | [], _ => rfl
  | [x], _ => rfl
  | x :: y :: r, h => by
    obtain ⟨a, b⟩ := List.pairwise_cons.mp h
    show (ltS x y && up (y :: r)) = true
    rw [a y (by simp), pw_up _ b]
    rfl
theorem up_nodup {l : List Str} (h : up l = true) : l.Nodup := (up_pw l h).imp fun {a b} k e => by rw [e, ltS_irr] at k; cases k
/-- unlike, and the same when sorted: that is to rise -/
theorem up_iff {zs ys : List Str} (hp : ys.Perm zs) (hs : sortedS ys = true) : up zs = true ↔ zs.Nodup ∧ ys = zs := by
  constructor
  · intro h
    refine ⟨up_nodup h, List.Perm.eq_of_pairwise (le := fun a b => ltS b a = false) (fun a b _ _ p q => ltS_con q p) (sorted_pw ys hs) ((up_pw zs h).imp fun {a b} k => ?_) hp⟩
    cases e : ltS b a with
    | false => rfl
    | true => rw [← ltS_irr a, ltS_tr k e]
  · rintro ⟨nd, rfl⟩
    refine pw_up _ ?_
    have both := (sorted_pw ys hs).and nd
    refine both.imp fun {a b} h => ?_
    cases e : ltS a b with
    | true => rfl
    | false => exact absurd (ltS_con e h.1) h.2
end Mi

set_option Elab.async false
set_option linter.all false
set_option maxRecDepth 100000
/-! ### xs.extend(a tuple) -/
namespace Mi
open PySem PySem.SeqAt
open AutoSeq1 (wpAny_loadPart')
open MeetsSeq MeetsSeq2 MeetsSeq3 SeqRoads2
theorem extend_tup (l : Addr) (items : Array Value) (n : Nat) (b : Addr) (more : Array Value) (n2 : Nat) (dd : Option Addr) (sl : Array (Option Value)) (h0 : ¬(!items.isEmpty && Builtin.List.listTooLong (items.size + more.size)) = true) (h1 : items.size ≤ sizeLine) (h2 : items.size + more.size ≤ sizeLine + 1) :
    Meets (Builtin.«list.extend» ⟨[.ref l, .ref b], []⟩) (fun _ R s => s.heap.get? l = some { cls := .type "list", data := .seq items n } ∧ s.heap.get? b = some { cls := .type "tuple", dict := dd, data := .seq more n2, slots := sl } ∧
      R (.ok (.ret Value.none)) { s with heap := s.heap.update l (Obj.mapSeq fun x => x ++ more), toks := s.toks }) :=
  .of_wp fun prog w A R s h => by
    obtain ⟨hp, g, d, tk, os⟩ := s
    obtain ⟨hl, hb, h⟩ := h
    have i1 := AutoSeq1.idx_int
    have i2 := AutoSeq1.sub_tuple_tuple
    have i3 := AutoSeq1.sub_list_list
    have i4 := AutoSeq1.sub_tuple_list
    have i5 := AutoSeq1.sub_list_tuple
    have size : (items ++ more).size ≤ sizeLine + 1 := by rw [Array.size_append]; exact h2
    wp_walk using (wpAny_updateSeq hl rfl (hz := h1) (_hz' := size)), wpAny_loadPart' hl, wpAny_loadPart' hb
    exact ⟨_, rfl, h⟩
end Mi
namespace Mi
open PySem L2
section
variable {X : Cx}
def rExtT (K : PySem.W.Frag) : V → List V → Hp → VK → Prop := fun x vs H Q => ∃ l b xs zs, x = .ref l ∧ vs = [.ref b] ∧ H l = some (.lst xs) ∧ SqT K H b zs ∧ xs.length + zs.length ≤ sizeLine ∧ Q .non (upd H l (.lst (xs ++ zs)))
theorem mt_extT : MtM X "list.extend" (rExtT X.K) := by
  intro pins s σ H x vs v us Q I rx rv h
  obtain ⟨l, b, xs, zs, rfl, rfl, hH, hB, hz, q⟩ := h
  cases rx
  obtain ⟨u, rfl, ru⟩ := rv.one
  cases ru
  obtain ⟨z, its, n, r, hl, e⟩ := I.lstM hH
  obtain ⟨its2, r2, ⟨o, eo, hc, n2, hd⟩, _⟩ := I.tuple hB
  obtain ⟨ocls, odict, odata, oslots⟩ := o
  simp only at hc hd
  subst hc; subst hd
  have hl2 := r2.length
  have fits : its.toArray.size + its2.toArray.size ≤ sizeLine := by rw [List.size_toArray, List.size_toArray]; omega
  have short : ¬ (!its.toArray.isEmpty && Builtin.List.listTooLong (its.toArray.size + its2.toArray.size)) = true := by
    rw [notLongL fits, Bool.and_false]
    exact Bool.false_ne_true
  refine call_meets F.slot_list_extend ⟨_, e, rfl⟩ F.entry_list_extend (F.args_list_extend_2 _ _) (extend_tup l its.toArray n b its2.toArray n2 odict oslots short (by rw [List.size_toArray]; omega) (by omega)) ⟨e, eo, ?_⟩
  refine ⟨.non, _, I.lset (its' := its ++ its2) hH e (by simp) (r.append r2) ?_, rfl, q⟩
  rw [List.length_append]
  omega
def omExtT : OM := fun t ts G R => ∃ a xs ys, t = .ref a ∧ ts = [.tup ys] ∧ G a = some (.lst xs) ∧ xs.length + ys.length ≤ sizeLine ∧ R .non (put G a (.lst (xs ++ ys)))
theorem mt_oExtT : MtR X "list.extend" (liB X.K omExtT) := MtR.imp (r := rExtT X.K) mt_extT fun x vs H Q h => by
  obtain ⟨t, ts, G, R, rx, rv, hg, ⟨a, xs, ys, rfl, rfl, h1, hz, k⟩, f⟩ := h
  cases rx
  obtain ⟨v, r, rfl, r1, r2⟩ := rv
  cases r2
  obtain ⟨ws, e, rw⟩ := lst_of hg h1
  obtain ⟨p, us, rfl, hq, _, ru⟩ := r1.tupSq
  exact ⟨a, p, ws, us, rfl, rfl, e, hq, by rw [rw.length, ru.length]; exact hz, f.wrL hg h1 k (rw.append ru) rfl⟩
/-- extend, by a list or a tuple -/
def omExtendS : OM := fun t ts G R => omExtend t ts G R ∨ omExtT t ts G R
theorem mt_oExtendS : MtR X "list.extend" (liB X.K omExtendS) := (MtR.or mt_oExtend mt_oExtT).imp fun x vs H Q h => by
  obtain ⟨t, ts, G, R, rx, rv, hg, k, f⟩ := h
  rcases k with k | k
  · exact .inl ⟨t, ts, G, R, rx, rv, hg, k, f⟩
  · exact .inr ⟨t, ts, G, R, rx, rv, hg, k, f⟩
end
end Mi

set_option Elab.async false
set_option linter.all false
set_option maxRecDepth 100000
/-! ### {**d, k: v} -/
namespace Mi
open PySem PySem.Spec PyProof.Rows L2
section
variable {prog : Program} {w : World} {A : Around} {E : Value → Shared → Prop} {s : Shared}
theorem key_noref {k : Key} {v : Value} {a : Addr} (h : (mixKind prog w).is k v = true) : v ≠ .ref a := by
  rintro rfl
  rcases keyIs_shape h with ⟨i, t, _, e⟩ | ⟨x, t, _, e⟩ <;> cases e
/-- one more pair -/
theorem put_pair {d : Addr} {kvs : List (Key × Value)} {k : Key} {key v : Value} {Q : Unit → Shared → Prop} (hkey : (mixKind prog w).is k key = true) (hm : s.heap.DictOf (mixKind prog w) d kvs) (hsz : kvs.length ≤ sizeLine)
    (hQ : ∀ h', h'.DictOf (mixKind prog w) d (stored kvs k v) → Heap.SameBut d s.heap h' → Q () { s with heap := h' }) : wpAny (model prog w) A (dictPut d ((mixKind prog w).hash k) key v) Q E s := by
  obtain ⟨o, es, ep, ho, hc, hd, hk, hp, hn⟩ := hm
  have hes : es.size ≤ sizeLine := by
    have := hp.length
    rw [Array.length_toList] at this
    omega
  have hidx : (es.findIdx? fun e => (mixKind prog w).is k e.key) = kvs.findIdx? fun kv => decide (kv.1 = k) := by
    rw [← hp.findIdx k]
    obtain ⟨l⟩ := es
    simp
  unfold dictPut
  refine wpAny_bind (wpAny_dictFind_of hkey ho hd hk ?_)
  cases hi : es.findIdx? fun e => (mixKind prog w).is k e.key with
  | some i =>
    have old : (kvs.any fun kv => decide (kv.1 = k)) = true := any_of_findIdx_some (hidx ▸ hi)
    refine wpAny_updateDict ho hd (hQ _ ⟨_, _, ep, Heap.get?_update_self _ ho (Obj.isFreed_of_dict (Obj.data_mapDict hd _)), hc.mapDict _, Obj.data_mapDict hd _, hk.modify _ _, ?_, ?_⟩ (Heap.SameBut.update ..))
    · have hl : (es.toList.findIdx? fun e => (mixKind prog w).is k e.key) = some i := by
        rw [← hi]
        obtain ⟨l⟩ := es
        simp
      have z := hp.modify hn hl v
      rw [stored, if_pos old]
      obtain ⟨l⟩ := es
      simpa using z
    · rw [stored, if_pos old, keys_map_store]
      exact hn
  | none =>
    have hnot : k ∉ kvs.map (·.1) := not_mem_of_findIdx_none (hidx ▸ hi)
    have new : ¬ (kvs.any fun kv => decide (kv.1 = k)) = true := fun h => by
      obtain ⟨kv, hkv, he⟩ := List.any_eq_true.mp h
      exact hnot (List.mem_map.mpr ⟨kv, hkv, of_decide_eq_true he⟩)
    refine wpAny_updateDictKeys (hz := hes) ho hd (hQ _ ⟨_, _, ep + 1, Heap.get?_update_self _ ho (Obj.isFreed_of_dict (Obj.data_mapDictKeys hd _)), hc.mapDictKeys _, Obj.data_mapDictKeys hd _, hk.push hkey _, ?_, ?_⟩ (Heap.SameBut.update ..))
    · have z := hp.append hkey ((mixKind prog w).hash k) v
      rw [stored, if_neg new]
      obtain ⟨l⟩ := es
      simpa using z
    · rw [stored, if_neg new, List.map_append, List.nodup_append]
      refine ⟨hn, by simp, fun a ha b hb e => ?_⟩
      have : b = k := by simpa using hb
      exact hnot (this ▸ e ▸ ha)
theorem merge_dict {d o : Addr} {kvs more : List (Key × Value)} {Q : Unit → Shared → Prop} (hdo : d ≠ o) (hoS : (o == sysModules) = false) (hd : s.heap.DictOf (mixKind prog w) d kvs) (ho : s.heap.DictOf (mixKind prog w) o more) (hsz : kvs.length + more.length ≤ sizeLine)
    (hQ : ∀ h', h'.DictOf (mixKind prog w) d (merged kvs more) → Heap.SameBut d s.heap h' → Q () { s with heap := h' }) : wpAny (model prog w) A (mergeMapping d (.ref o) false) Q E s := by
  obtain ⟨od, esd, epd, hod, hcd, hdd, hkd, hpd, hnd⟩ := id hd
  obtain ⟨oo, eso, epo, hoo, hco, hdo', hko, hpo, hno⟩ := id ho
  have hlen : more.length = eso.size := by rw [← hpo.length]; simp
  have loop : wpAny (model prog w) A (do
      let n ← dictEntries o
      let epoch ← dictEpoch o
      forIn (List.range n.size) PUnit.unit fun i (_ : PUnit) => (do
        let l ← dictEntries o
        match l[i]? with
        | some e => do
          holding [e.key, e.val] (dictPut d e.hash e.key e.val)
          let ep ← dictEpoch o
          if (ep != epoch) = true then do
            (unsupported "dict.changed-during-merge" : Sem PUnit)
            pure (ForInStep.yield PUnit.unit)
          else pure (ForInStep.yield PUnit.unit)
        | _ => do
          (unsupported "dict.changed-during-merge" : Sem PUnit)
          pure (ForInStep.yield PUnit.unit) : Sem (ForInStep PUnit))
      pure ()) Q E s := by
    refine wpAny_bind (wpAny_dictEntries hoo hdo' ?_)
    refine wpAny_bind (wpAny_dictEpoch hoo hdo' ?_)
    refine wpAny_bind ?_
    refine wpAny_forIn_list _ (fun rest _ s' => ∃ h' i, s' = { s with heap := h' } ∧ rest = (List.range eso.size).drop i ∧ i ≤ eso.size ∧ h'.DictOf (mixKind prog w) d (merged kvs (more.take i)) ∧ h'.get? o = some oo ∧ Heap.SameBut d s.heap h') _ ?_ ?_ _ _ ⟨s.heap, 0, rfl, rfl, Nat.zero_le _, by simpa [merged] using hd, hoo, Heap.SameBut.refl _ _⟩
    · rintro x rest b s' ⟨h', i, rfl, hr, hi, hd', hoo', hs'⟩
      have hlt : i < eso.size := by
        by_cases h : i < eso.size
        · exact h
        · rw [List.drop_of_length_le (by rw [List.length_range]; omega)] at hr
          cases hr
      have hx : x = i ∧ rest = (List.range eso.size).drop (i + 1) := by
        rw [List.drop_eq_getElem_cons (by rw [List.length_range]; exact hlt), List.getElem_range] at hr
        injection hr with h1 h2
        exact ⟨h1, h2⟩
      obtain ⟨rfl, hrest⟩ := hx
      refine wpAny_bind (wpAny_dictEntries hoo' hdo' ?_)
      rw [Array.getElem?_eq_getElem hlt]
      obtain ⟨⟨k, v⟩, hkv⟩ : ∃ kv, more[x]? = some kv := ⟨more[x]'(by rw [hlen]; exact hlt), List.getElem?_eq_getElem _⟩
      obtain ⟨hkey, hval⟩ := hpo.get? (e := eso[x]) (by simp [hlt]) hkv
      obtain ⟨k', hkey', hhash⟩ := hko eso[x] (Array.getElem_mem hlt)
      obtain rfl : k' = k := (mixKind prog w).inj _ _ _ hkey' hkey
      show wpAny _ _ (holding [eso[x].key, eso[x].val] (dictPut d eso[x].hash eso[x].key eso[x].val) >>= _) _ _ _
      rw [hhash, hval]
      have fits : (merged kvs (more.take x)).length ≤ sizeLine := by
        have e1 := merged_length_le kvs (more.take x)
        have e2 : (more.take x).length ≤ more.length := by rw [List.length_take]; omega
        omega
      refine wpAny_bind (wpAny_holding (put_pair hkey hd' fits fun h2 hd2 hs2 => ?_))
      have hoo2 : h2.get? o = some oo := (hs2.2 o (Ne.symm hdo)).trans hoo'
      refine wpAny_bind (wpAny_dictEpoch hoo2 hdo' ?_)
      rw [if_neg (by simp)]
      exact wpAny_pure ⟨h2, x + 1, rfl, hrest, hlt, by rw [merged_take_succ kvs more x (k', v) hkv]; exact hd2, hoo2, hs'.trans hs2⟩
    · rintro b s' ⟨h', i, rfl, hr, hi, hd', hoo', hs'⟩
      have hin : i = eso.size := by
        by_cases h : i < eso.size
        · rw [List.drop_eq_getElem_cons (by rw [List.length_range]; exact h)] at hr
          cases hr
        · omega
      refine wpAny_pure (hQ h' ?_ hs')
      rw [hin, ← hlen, List.take_length] at hd'
      exact hd'
  unfold mergeMapping
  refine wpAny_bind (wpAny_isInstance ho.typeIs isSubtype_dict_dict ?_)
  dsimp only
  rw [if_pos rfl]
  refine wpAny_bind (wpAny_specialOf ho.typeIs F.slot_dict_iter.lookup ?_)
  refine wpAny_bind (wpAny_pure ?_)
  simp only [beq_self_eq_true]
  rw [if_neg (by rw [hoS]; exact Bool.false_ne_true)]
  refine wpAny_bind (wpAny_dictEntries hod hdd ?_)
  have skip : wpAny (model prog w) A (forIn eso PUnit.unit fun e (__s : PUnit) => (match e.key with
      | Value.ref a => do
        let t ← specialOf e.key (Str.ofString "__eq__")
        if (t != some (Value.builtin "object.__eq__")) = true then
            if (Array.filter (fun x => x.hash == e.hash) eso).size > 1 then do
              (unsupported "dict.merge-into-an-empty-dict:keys-of-equal-hash" : Sem PUnit)
              pure (ForInStep.yield PUnit.unit)
            else pure (ForInStep.yield PUnit.unit)
          else pure (ForInStep.yield PUnit.unit)
      | x => pure (ForInStep.yield PUnit.unit) : Sem (ForInStep PUnit))) (fun _ s' => s' = s) E s := by
    refine wpAny_of_eq (a := PUnit.unit) ?_ rfl
    rw [← Array.forIn_toList]
    refine forIn_yield_id _ fun e hm c => ?_
    obtain ⟨k, hkey, _⟩ := hko e (Array.mem_toList_iff.mp hm)
    cases hv : e.key with
    | ref a => exact absurd hv (key_noref hkey)
    | _ => rfl
  by_cases he : esd.isEmpty = true
  · rw [if_pos he]
    refine wpAny_bind (wpAny_dictEntries hoo hdo' ?_)
    refine wpAny_bind (wpAny_mono skip ?_ (fun _ _ h => h))
    rintro _ _ rfl
    exact loop
  · rw [if_neg he]
    exact loop

theorem wpAny_tryOk {α : Type} {m : Sem α} {k : Value → Sem α} {Q : α → Shared → Prop} (h : wpAny (model prog w) A m Q (fun _ _ => False) s) : wpAny (model prog w) A (m.tryCatch k) Q E s := fun Γ p hΓ => by
  rw [Sem.wp_tryCatch]
  exact Sem.wp_mono _ Γ m (fun _ _ _ e => e) (fun _ _ _ e => e.elim) p s (h Γ p hΓ)
theorem wpAny_raiseOk {α : Type} {m : Sem α} {k : Value → Sem Unit} {Q : α → Shared → Prop} (h : wpAny (model prog w) A m Q (fun _ _ => False) s) : wpAny (model prog w) A (m.onRaise k) Q E s :=
  wpAny_onRaise (wpAny_mono h (fun _ _ e => e) fun _ _ e => e.elim)
theorem display2 {t1 tk tv : Sem Value} {Q : Value → Shared → Prop}
    (h : wpAny (model prog w) A t1 (fun m s1 => wpAny (model prog w) A (mergeMapping s.heap.objs.size m false) (fun _ s2 => wpAny (model prog w) A (subDict [(tk, tv)]) (fun sub s3 =>
      wpAny (model prog w) A (mergeMapping s.heap.objs.size (.ref sub) false) (fun _ s4 => Q (.ref s.heap.objs.size) s4) (fun _ _ => False) s3) E s2) (fun _ _ => False) s1) E { s with heap := s.heap.push { cls := .type "dict", data := .dict #[] } }) :
    wpAny (model prog w) A (dictDisplay [(none, t1), (some tk, tv)]) Q E s := by
  unfold dictDisplay
  simp only [List.forIn_cons, List.forIn_nil, List.isEmpty_nil, if_true]
  refine wpAny_bind (wpAny_bind (wpAny_bind ?_))
  refine wpAny_pure ?_
  refine wpAny_bind (wpAny_alloc ?_)
  refine wpAny_bind (wpAny_holding (wpAny_mono h (fun m s1 h1 => ?_) fun _ _ e => e))
  refine wpAny_bind (wpAny_raiseOk (wpAny_tryOk (wpAny_raiseOk (wpAny_holding (wpAny_mono h1 (fun _ s2 h2 => ?_) fun _ _ e => e)))))
  refine wpAny_pure ?_
  refine wpAny_bind ?_
  refine wpAny_pure ?_
  refine wpAny_pure ?_
  refine wpAny_bind (wpAny_bind (wpAny_holding (wpAny_mono h2 (fun sub s3 h3 => ?_) fun _ _ e => e)))
  refine wpAny_bind (wpAny_raiseOk (wpAny_holding (wpAny_mono h3 (fun _ s4 h4 => ?_) fun _ _ e => e)))
  exact wpAny_pure (wpAny_pure h4)
end
end Mi
namespace Mi
open PySem L2 PyProof.Rows
section
variable {X : Cx} {pos : Pos} {e1 k v : Expr}
/-- {**d, k: v} -/
def tMerge (t1 tk tv : TE) : TE := fun σ H Q => ∀ p, H p = none → t1 σ (upd H p (.dK [])) fun x H1 => ∃ a kvs, x = .ref a ∧ p ≠ a ∧ H1 a = some (.dK kvs) ∧ H1 p = some (.dK []) ∧ kvs.length < sizeLine ∧
  ∀ q, upd H1 p (.dK (mergeK [] kvs)) q = none → tk σ (upd (upd H1 p (.dK (mergeK [] kvs))) q (.dK [])) fun y H2 => tv σ H2 fun z H3 => ∃ kk kvs2, y = kV kk ∧ H3 q = some (.dK []) ∧ H3 p = some (.dK kvs2) ∧ kvs2.length < sizeLine ∧
    Q (.ref p) (upd (upd H3 q (.dK [(kk, z)])) p (.dK (putK kvs2 kk z)))
theorem pe_merge {t1 tk tv : TE} (h1 : PE X e1 t1) (hk : PE X k tk) (hv : PE X v tv) : PE X (.Dict [none, some k] [e1, v] pos) (tMerge t1 tk tv) := by
  refine ⟨fun pins s σ H Q I q => ?_⟩
  have hn := I.hok.fresh (Nat.le_refl s.heap.objs.size)
  have I1 := I.laid (a := s.heap.objs.size) (o := .dK []) (h' := s.heap.push { cls := .type "dict", data := .dict #[] }) (t' := s.toks) (fun _ _ q => Heap.get?_push_of_some _ q) (Nat.le_refl _) (dk_empty s.heap I.big)
  rw [arm_eval_Dict]
  refine wpAny_bind (wpAny_standAt ?_)
  show wpAny _ _ (dictDisplay [(none, do let x ← eval e1 X.env; standAt pos; pure x), (some (eval k X.env), do let x ← eval v X.env; standAt pos; pure x)]) _ _ _
  refine display2 (wpAny_bind (thn (h1.run pins _ σ _ _ I1 (q _ hn)) fun u s1 ⟨x, H1, I1, rx, a, kvs, ex, hpa, ea, ep, hz, q2⟩ => wpAny_bind (wpAny_standAt (wpAny_pure ?_))))
  subst ex
  obtain rfl : u = Value.ref a := rx
  obtain ⟨_, hdp, vs0, r0, ddp⟩ := dk_of I1.hok ep
  cases r0
  obtain ⟨_, hda, vs, ra, dda⟩ := dk_of I1.hok ea
  have hl : kvs.length = vs.length := Paired.length ra
  refine merge_dict hpa hda ddp dda (by rw [List.length_nil]; omega) fun h2 dd2 hs2 => ?_
  have z1 : (mergeK [] kvs).length ≤ kvs.length := by
    have := length_mergeK kvs []
    rw [List.length_nil] at this; omega
  have he2 : ∃ q, h2.get? s.heap.objs.size = some q := let ⟨q, _, _, hq, _⟩ := dd2; ⟨q, hq⟩
  have I2 : Inv X pins σ (upd H1 s.heap.objs.size (.dK (mergeK [] kvs))) { s1 with heap := h2, toks := s1.toks } :=
    d_write I1 (by rw [ep]; exact True.intro) hs2 he2 (dk_new (by omega) hdp (ra.merge .nil) dd2)
  have hn2 := I2.hok.fresh (Nat.le_refl h2.objs.size)
  have I3 := I2.laid (a := h2.objs.size) (o := .dK []) (h' := h2.push { cls := .type "dict", data := .dict #[] }) (t' := s1.toks) (fun _ _ q => Heap.get?_push_of_some _ q) (Nat.le_refl _) (dk_empty h2 I2.big)
  refine wpAny_subDict (knd := mixKind X.prog X.w) (by show (1 : Nat) ≤ 15; decide) ?_
  refine thn ((pps_cons (pos := pos) hk hv pps_nil).run pins _ σ _ (fun ps H3 => match ps with
    | [(y, z)] => ∃ kk kvs2, y = kV kk ∧ H3 h2.objs.size = some (.dK []) ∧ H3 s.heap.objs.size = some (.dK kvs2) ∧ kvs2.length < sizeLine ∧
      Q (.ref s.heap.objs.size) (upd (upd H3 h2.objs.size (.dK [(kk, z)])) s.heap.objs.size (.dK (putK kvs2 kk z)))
    | _ => False) I3 (q2 _ hn2)) fun ws s3 ⟨ps, H3, I3, rel, q3⟩ => ?_
  match ps, q3, rel with
  | [(y, z)], ⟨kk, kvs2, ey, eq, ep3, hz2, q3⟩, rel =>
    subst ey
    obtain ⟨rs, c, rk⟩ := carries_of (P := X.prog) (w := X.w) (kvs := [(kk, z)]) rel
    obtain ⟨zq, hdq, vs0, r0, ddq⟩ := dk_of I3.hok eq
    cases r0
    refine ⟨rs, c, ddq, fun h4 dd4 hs4 => ?_⟩
    have he4 : ∃ q, h4.get? h2.objs.size = some q := let ⟨q, _, _, hq, _⟩ := dd4; ⟨q, hq⟩
    have I4 : Inv X pins σ (upd H3 h2.objs.size (.dK [(kk, z)])) { s3 with heap := h4, toks := s3.toks + ws.length } :=
      d_write I3 (by rw [eq]; exact True.intro) hs4 he4 (dk_new (by show 1 ≤ sizeLine; decide) hdq (rk.merge (kvs := []) .nil) dd4)
    have hpq : s.heap.objs.size ≠ h2.objs.size := fun z => by
      rw [z] at he2
      obtain ⟨q, hq⟩ := he2
      exact absurd (Heap.lt_size hq) (Nat.lt_irrefl _)
    have ep4 : upd H3 h2.objs.size (.dK [(kk, z)]) s.heap.objs.size = some (.dK kvs2) := (upd_ne hpq).trans ep3
    obtain ⟨_, hdp4, vs4, r4, dd4p⟩ := dk_of I4.hok ep4
    have hl4 : kvs2.length = vs4.length := Paired.length r4
    have hlr : rs.length = 1 := (Paired.length rk).symm
    have hlm : (merged [] rs).length = 1 := (Paired.length (rk.merge (kvs := []) .nil)).symm
    refine merge_dict hpq hdq dd4p dd4 (by rw [hlm]; omega) fun h5 dd5 hs5 => ?_
    have he5 : ∃ q, h5.get? s.heap.objs.size = some q := let ⟨q, _, _, hq, _⟩ := dd5; ⟨q, hq⟩
    have rfin : KV (mergeK kvs2 [(kk, z)]) (merged vs4 (merged [] rs)) := (rk.merge (kvs := []) .nil).merge r4
    have I5 := d_write (t' := s3.toks + ws.length) I4 (by rw [ep4]; exact True.intro) hs5 he5 (dk_new (kvs := putK kvs2 kk z) (by have := length_putK kvs2 kk z; omega) hdp4 rfin dd5)
    exact ⟨.ref s.heap.objs.size, _, I5, rfl, q3⟩

def mMerge (mo mk mv : ME) : ME := fun r G R => ∀ p, G p = none → mo r (put G p (.dK [])) fun s G1 => ∃ a kvs, s = .ref a ∧ p ≠ a ∧ G1 a = some (.dK kvs) ∧ G1 p = some (.dK []) ∧ kvs.length < sizeLine ∧
  ∀ q, put G1 p (.dK (mergeT [] kvs)) q = none → mk r (put (put G1 p (.dK (mergeT [] kvs))) q (.dK [])) fun t G2 => mv r G2 fun u G3 => ∃ kk, t = kT kk ∧ G3 q = some (.dK []) ∧ G3 p = some (.dK (mergeT [] kvs)) ∧
    R (.ref p) (put (put G3 q (.dK [(kk, u)])) p (.dK (putT (mergeT [] kvs) kk u)))
theorem o_merge {mo mk mv : ME} (h1 : OE X e1 mo) (hk : OE X k mk) (hv : OE X v mv) : OE X (.Dict [none, some k] [e1, v] pos) (mMerge mo mk mv) := ⟨(pe_merge h1.ok hk.ok hv.ok).imp fun σ H Q qq => by
  obtain ⟨r, G, R, hs, hg, k, f⟩ := qq
  intro p hp
  have ln := Le.new (o := HO.dK []) hp
  refine ⟨r, _, _, hs.le ln, hg.wr (nt_none hp) (c := .dK []) ⟨[], upd_same, rfl, rfl⟩, k p (hg.fresh hp), fun s G1 H1 x k1 l1 g1 r1 => ?_⟩
  obtain ⟨a, kvs, rfl, hpa, ea, ep, hz, k2⟩ := k1
  obtain ⟨vs, ea2, ra⟩ := g1 _ _ ea
  obtain ⟨v0, ep2, r0⟩ := g1 _ _ ep
  have e0 : v0 = [] := r0.nil_r
  subst e0
  have l2 := Le.wr (o := .dK (mergeK [] vs)) (g1.notup ep)
  have g2 := g1.wr (g1.notup ep) (c := .dK (mergeT [] kvs)) (o := .dK (mergeK [] vs)) ⟨_, upd_same, (Rkv.merge (vs := []) (ts := []) ra ⟨rfl, rfl⟩).le l2⟩
  refine ⟨a, vs, r1, hpa, ea2, ep2, by rw [ra.len]; exact hz, fun q hq => ?_⟩
  have l3 := Le.new (o := HO.dK []) hq
  have la := ln.trans (l1.trans (l2.trans l3))
  refine ⟨r, _, _, hs.le la, g2.wr (nt_none hq) (c := .dK []) ⟨[], upd_same, rfl, rfl⟩, k2 q (g2.fresh hq), fun t G2 H2 y k3 l4 g4 r4 => ⟨r, G2, _, hs.le (la.trans l4), g4, k3, fun u G3 H3 z k4 l5 g5 r5 => ?_⟩⟩
  obtain ⟨kk, rfl, eq, ep5, k5⟩ := k4
  obtain ⟨w0, eq2, rq⟩ := g5 _ _ eq
  have e0 : w0 = [] := rq.nil_r
  subst e0
  obtain ⟨w1, ep6, rp⟩ := g5 _ _ ep5
  have ek := kT_rp r4
  subst ek
  have l6 := Le.wr (o := .dK [(kk, z)]) (g5.notup eq)
  have hqp : p ≠ q := fun e => by
    subst e
    rw [upd_same] at hq; cases hq
  have g6 := g5.wr (g5.notup eq) (c := .dK [(kk, u)]) (o := .dK [(kk, z)]) ⟨_, upd_same, (Rkv.cons r5 ⟨rfl, rfl⟩ : Rkv X.K H3 [(kk, z)] [(kk, u)]).le l6⟩
  have ep7 : put G3 q (.dK [(kk, u)]) p = some (.dK (mergeT [] kvs)) := (put_ne hqp).trans ep5
  have l7 := Le.wr (o := .dK (putK w1 kk z)) (g6.notup ep7)
  have rk := rp.put kk r5
  have lk := rp.len
  have lm : (mergeT [] kvs).length < sizeLine := by
    rw [← (Rkv.merge (vs := []) (ts := []) ra ⟨rfl, rfl⟩).len]
    have := length_mergeK vs []
    rw [List.length_nil, ra.len] at this
    omega
  refine ⟨kk, w1, rfl, eq2, ep6, by rw [lk]; exact lm, ?_⟩
  exact ((f.le (la.trans (l4.trans (l5.trans l6)))).le l7) _ _ _ _ k5 (Le.refl _) (g6.wr (g6.notup ep7) ⟨_, upd_same, rk.le (l6.trans l7)⟩) rfl⟩
end
/-! ### for k, x in enumerate(e, start=c) -/
section
variable {M : Model} {A : Around} {E : Value → Shared → Prop} {s : Shared} {env : PySem.Env}
theorem callWith_typeKw {pos : Pos} {T : String} {first : List Value} {args : List (Bool × Sem Value)} {keywords : List (Option Str × Sem Value)} {Q : Value → Shared → Prop}
    (hplain : args.any (·.1) = false) (hkw : keywords.any (·.1.isNone) = false)
    (h : wpAny M A (evalArgs (.type T) true args keywords) (fun a s₁ => wpAny M A (call (.type T) (first ++ a.pos) a.kw) Q E s₁) E s) :
    wpAny M A (callWith pos (.type T) first args keywords) Q E s := by
  unfold callWith
  refine wpAny_bind (wpAny_holding (wpAny_mono h (fun a s₁ h₁ => wpAny_bind (wpAny_standAt ?_)) fun _ _ x => x))
  simp only [hplain, hkw, Bool.or_false]
  refine wpAny_bind (wpAny_pure ?_)
  exact wpAny_bind (wpAny_mono h₁ (fun r s₂ hr => wpAny_bind (wpAny_holding (wpAny_point (wpAny_pure hr)))) fun _ _ x => x)
end
section
variable {X : Cx} {e e2 : Expr} {m m2 : ME} {pos : Pos}
def miEnumK (m m2 : ME) : MI := fun r G N => m r G fun t G1 => m2 r G1 fun u G2 => ∃ ts c, srcT G2 t ts ∧ u = .int c ∧ 0 ≤ c ∧ c ≤ 1000000 ∧ N ⟨enumT c ts, heldT t ts⟩ G2
theorem i_enumK {p tpos kp : Pos} {elts : List Expr} {kk : Nat} (hgl : Gl X "enumerate") (hm : X.mg "enumerate" = none) (he : OE X e m) (he2 : OE X e2 m2) (hst : starEach [e] X.env = (false, eval e X.env) :: starEach [] X.env := by rfl)
    (hev : eval (.Call (.Name "enumerate" p) [e] [⟨some "start", e2, kp⟩] pos) X.env = (do callWith pos (← eval (.Name "enumerate" p) X.env) [] (backTo pos (starEach [e] X.env)) (backToKw pos (keywordEach [⟨some "start", e2, kp⟩] X.env))) := by rfl) :
    OI X (.Tuple elts kk tpos) (.Call (.Name "enumerate" p) [e] [⟨some "start", e2, kp⟩] pos) (miEnumK m m2) := by
  refine ⟨⟨fun pins s σ H R I q => ?_⟩⟩
  obtain ⟨r, G, N, hs, hg, k, f⟩ := q
  rw [hev]
  refine wpAny_bind (ld_blt I hgl hm PyProof.Rows.boot_enumerate (callWith_typeKw (by rw [hst]; rfl) rfl (evalArgs_kw2 rfl (PyProof.Rows.args_cons (thn (he.ok.run pins s σ H (fun x H1 => ∃ t G1, Rp X.K H1 x t ∧ RG X.K H1 G1 ∧ Le H H1 ∧ m2 r G1 fun u G2 => ∃ ts c, srcT G2 t ts ∧ u = .int c ∧ 0 ≤ c ∧ c ≤ 1000000 ∧ N ⟨enumT c ts, heldT t ts⟩ G2) I ⟨r, G, _, hs, hg, k, fun t G1 H1 x k1 l1 g1 r1 => ⟨t, G1, r1, g1, l1, k1⟩⟩) fun v s1 ⟨x, H1, I1, rv, t, G1, rx, g1, l1, k1⟩ => PyProof.Rows.args_nil ?_) hst) hst)))
  refine kwAll_cons (thn (he2.ok.run pins s1 σ H1 (fun y H2 => ∃ G2 ts c, y = .int c ∧ RG X.K H2 G2 ∧ Le H1 H2 ∧ srcT G2 t ts ∧ 0 ≤ c ∧ c ≤ 1000000 ∧ N ⟨enumT c ts, heldT t ts⟩ G2) I1 ⟨r, G1, _, hs.le l1, g1, k1, fun u G2 H2 y k2 l2 g2 r2 => ?_⟩) fun v2 s2 ⟨y, H2, I2, rv2, G2, ts, c, ey, g2, l2, hsrc, hc0, hc1, hN⟩ => kwAll_nil ?_)
  · obtain ⟨ts, c, h1, rfl, h2, h3, h4⟩ := k2
    exact ⟨G2, ts, c, r2, g2, l2, h1, h2, h3, h4⟩
  subst ey
  obtain ⟨tk, rfl⟩ := rv2
  obtain ⟨sk, rfl, stay⟩ := hsrc.sk g2 (rx.le l2) rv
  obtain ⟨vs, hq, _⟩ := stay H2 G2 (Le.refl _) g2 hsrc.held
  obtain ⟨OK, B, ok⟩ := Sk.begins I2 hq
  have lt := Sk.lt I2 hq
  refine enum_begins_start B ok (by omega) (by omega) fun h1 he1 hit _ hk => wpAny_pyIter_enum he1 ?_
  have I3 : Inv X pins σ H2 { s2 with heap := h1 } := I2.kept (t' := s2.toks) hk
  refine ⟨s2.heap.objs.size + 1, [s2.heap.objs.size + 1, s2.heap.objs.size], _, ItES X.K sk c, H2, rfl, I3, turn_enumS (k := sk) (c := c) (Nat.succ_ne_self _) (fun z => absurd (lt _ z) (Nat.not_lt.mpr (Nat.le_succ _))) (fun z => absurd (lt _ z) (Nat.lt_irrefl _)), ⟨⟨_, by simpa using he1⟩, sk.at_new hit⟩, fun b hb => ?_, f _ G2 H2 _ hN (l1.trans l2) g2 (walks_enum stay)⟩
  have hle : s2.heap.objs.size ≤ b := by
    rcases (show b = s2.heap.objs.size + 1 ∨ b = s2.heap.objs.size by simpa using hb) with q | q
    · rw [q]; exact Nat.le_succ _
    · rw [q]; exact Nat.le_refl _
  exact I2.fpOk hle (I2.hok.fresh hle)
end
/-! ### x += y, numbers -/
section
variable {X : Cx} {e : Expr} {m : ME} {pos : Pos}
def msAugI (i : Nat) (m : ME) : MS := fun M r G => ∃ x, r[i]? = some (some (.int x)) ∧ m r G fun t G1 => ∃ y, t = .int y ∧ M.nx (r.set i (some (.int (x + y)))) G1
theorem s_augI {i : Nat} {x : Str} {pos' : Pos} (hN : X.N.Nodup) (hi : X.N[i]? = some x) (hx : Loc X.env.scope x) (he : OE X e m) (hf : X.fn x = true ∨ X.env.scope.names.lookup x = some .local := by first | exact .inl rfl | exact .inr rfl | assumption) :
    OS X (.AugAssign (.Name x pos') .Add e pos) (msAugI i m) := ⟨(ps_aug hN hi hx he.ok ip_add hf).imp fun D σ H q => by
  obtain ⟨r, G, M, hs, hg, ⟨x, hx, k⟩, f, _⟩ := q
  obtain ⟨v, hv, rv⟩ := hs.2 _ _ hx
  refine ⟨v, hv, r, G, _, hs, hg, k, fun t G1 H1 w k1 l1 g1 r1 => ?_⟩
  obtain ⟨y, rfl, k2⟩ := k1
  exact ⟨x, y, rv, r1, f _ G1 _ H1 k2 l1 ((hs.le l1).set i rfl) g1⟩⟩
end
end Mi
/-! ### d.get(t), of an empty dict whatever t -/
namespace Mi
open PySem L2
section
variable {X : Cx} {pins : List (Addr × Obj)} {σ : St} {H : Hp} {s : Shared} {a : Addr} {u : Value} {A : Around} {E : Value → Shared → Prop}
def DGetE (H : Hp) (a : Addr) (y : V) (o : Option V) : Prop := DGet H a y o ∨ (H a = some (.dK []) ∧ o = none ∧ ∃ (b : Addr) (k : List Key), y = .ref b ∧ H b = some (.tup (k.map kV)))
theorem d_get1E {Q : Value → Shared → Prop} {y : V} {o : Option V} (hu : A.units + 1 < cLine) (I : Inv X pins σ H s) (g : DGetE H a y o) (ry : RelV y u) (h : ∀ w' s', Inv X pins σ H s' → RelV (o.getD .non) w' → Q w' s') :
    wpAny (model X.prog X.w) A (call (.builtin "dict.get") [.ref a, u]) Q E s := by
  rcases g with g | ⟨ea, rfl, b, k, rfl, eb⟩
  · exact d_get1 hu I g ry h
  · cases (show u = Value.ref b from ry)
    obtain ⟨z, hd, vs, r0, dd⟩ := dk_of I.hok ea
    cases r0
    obtain ⟨ob, es, ep, ho, hc, hdd, hk, hp, hn⟩ := id dd
    have he : es.toList = [] := by
      have := hp.length
      simpa using this
    have dh : s.heap.DictOfH (tupleKind (mixKind X.prog X.w)) a [] := ⟨ob, es, ep, ho, hc, hdd, he, fun x hx => (List.not_mem_nil hx).elim, List.nodup_nil⟩
    refine call_meetsIn PySem.F.slot_dict_get dd.typeIs PySem.F.entry_dict_get (PySem.F.args_dict_get_2 _ _) (meetsH_dict_get (tupleKind (mixKind X.prog X.w)) a b hd) ⟨tupleKind_room_in1 hu, k, [], key_of I.hok eb, dh, h _ _ (I.tok _) rfl⟩
def tDGet1E (td ty : TE) : TE := fun σ H Q => td σ H fun x H1 => ∃ a, x = .ref a ∧ IsD H1 a ∧ ty σ H1 fun y H2 => ∃ o, DGetE H2 a y o ∧ Q (o.getD .non) H2
end
section
variable {X : Cx} {o e : Expr} {apos cpos : Pos} {td ty : TE} {mo me : ME}
theorem pe_dget1E (hu : X.A.units + 1 < cLine) (ho : PE X o td) (he : PE X e ty) (m : M1 X o "get" apos e cpos) : PE X (.Call (.Attribute o "get" apos) [e] [] cpos) (tDGet1E td ty) := by
  refine ⟨fun pins s σ H Q I h => ?_⟩
  refine wpAny_Call_method m.base m.few m.line PySem.F.plainAttrs_dict PySem.F.slot_dict_get PySem.F.type_dict_get (thn (ho.run pins s σ H _ I h) fun u s1 ⟨x, H1, I1, rx, a, ex, d, q1⟩ => ?_)
  subst ex
  obtain rfl : u = Value.ref a := rx
  obtain ⟨t1, t2, _⟩ := isD_at I1 d
  refine ⟨t1, t2, ?_⟩
  rw [m.trees]
  refine Calls.callWith_builtin rfl (Calls.evalArgs_plain (Calls.spliced_cons (thn (he.run pins s1 σ H1 _ I1 q1) fun iv s2 ⟨y, H2, I2, ry, ov, g, q2⟩ => Calls.spliced_nil ?_)))
  exact d_get1E hu I2 g ry fun w' s3 I3 rw' => ⟨_, H2, I3, rw', q2⟩
def gtTE (G : Gp) (a : Addr) (t : T) (o : Option T) : Prop := gtT G a t o ∨ (G a = some (.dK []) ∧ o = none ∧ ∃ ks : List Key, t = .pr (ks.map kT))
def mGet1E (mo me : ME) : ME := fun r G R => mo r G fun s G1 => ∃ a, s = .ref a ∧ isDct G1 a ∧ me r G1 fun t G2 => ∃ u, gtTE G2 a t u ∧ R (u.getD .non) G2
theorem o_get1E (hu : X.A.units + 1 < cLine) (ho : OE X o mo) (he : OE X e me) (m : M1 X o "get" apos e cpos) : OE X (.Call (.Attribute o "get" apos) [e] [] cpos) (mGet1E mo me) := ⟨(pe_dget1E hu ho.ok he.ok m).imp fun σ H Q q => by
  obtain ⟨r, G, R, hs, hg, k, f⟩ := q
  refine ⟨r, G, _, hs, hg, k, fun s G1 H1 x k1 l1 g1 r1 => ?_⟩
  obtain ⟨a, rfl, hd, k1⟩ := k1
  refine ⟨a, r1, hd.isD g1, r, G1, _, hs.le l1, g1, k1, fun t G2 H2 y k2 l2 g2 r2 => ?_⟩
  obtain ⟨u, h, k3⟩ := k2
  rcases h with h | ⟨ea, rfl, ks, rfl⟩
  · obtain ⟨ov, d, ro⟩ := h.get g2 r2
    refine ⟨ov, Or.inl d, (f.le (l1.trans l2)).val g2 k3 ?_⟩
    cases ov <;> cases u <;> first | exact ro | exact ro.elim | rfl
  · obtain ⟨v0, ea2, r0⟩ := g2 _ _ ea
    have e0 : v0 = [] := r0.nil_r
    subst e0
    obtain ⟨b, ws, rfl, hb, _, rw'⟩ := r2
    rw [kTs_rp rw'] at hb
    exact ⟨none, Or.inr ⟨ea2, rfl, b, ks, rfl, hb⟩, (f.le (l1.trans l2)).val g2 k3 rfl⟩⟩
end
end Mi

set_option Elab.async false
set_option linter.all false
set_option maxRecDepth 100000
/-! ### sorted(rows, key=lambda row: row[0]) -/
namespace Mi
open PySem PySem.W PyProof.Rows
section
variable {prog : Program} {w : World} {A : Around} {s : Shared}
theorem row0_turn {f t c' : Addr} {q y z : Str} {params : Arguments} {scope : Scope} {pm ctv : Value} {its : Array Value} {tk : Tok} {kd : Nat} {yp ip bp : Pos}
    (hf : s.heap.get? f = some (kla_obj "<lambda>" q params (.Subscript (.Name y yp) (.Constant (.int 0) kd ip) bp) scope [] pm c' ctv)) (hc : s.heap.CodeRec (.ref c') q) (nl : s.heap.NoLimit)
    (hrow : IsTup s.heap t its) (h0 : its[0]? = some (.str z tk)) (room : A.depth < recursionLimit) (hco : scope.isCoroutine = false) (hgen : scope.isGenerator = false) (hk : scope.kind = .function) (hnm : scope.names = [(y, .local)])
    (hy : (y == ("__debug__" : Str)) = false) (hbind : bindArgs (kla_fn "<lambda>" q params (.Subscript (.Name y yp) (.Constant (.int 0) kd ip) bp) scope [] pm (.ref c') ctv) ⟨[.ref t], []⟩ = pure [(y, .ref t)]) :
    wpAny (model prog w) A (call (.ref f) [.ref t]) (KeyPure (.str z) s) (fun _ _ => False) s := by
  have look : scope.names.lookup y = some .local := by rw [hnm]; simp [List.lookup]
  refine wpAny_call (kla_callFunE room hf rfl hco hgen rfl hc ?_)
  rw [hbind]
  refine wpAny_pure (wpAny_newFunctionEnv (fun x hx => ?_) (fun x hx => ?_) (fun h₁ hns hsb => ⟨nl.fresh _ hsb, ?_⟩) hk)
  · rw [hnm, List.mem_singleton] at hx
    subst hx
    exact fun z => nomatch z
  · rw [List.mem_singleton] at hx
    subst hx
    exact look
  have kp : ∀ b o, s.heap.get? b = some o → h₁.get? b = some o := fun b o e => hsb.extBut b o (Nat.ne_of_lt (Heap.lt_size e)) (Heap.get?_push_of_some _ e)
  refine kla_codeExpr ?_
  refine wpAny_Subscript_Constant_late ?_
  rw [arm_eval_Name, hy]
  refine wpAny_bind (wpAny_standAt ?_)
  rw [if_neg Bool.false_ne_true]
  refine wpAny_loadName_local (v := .ref t) hk look hns (by simp [List.lookup]) ?_
  rw [arm_eval_Constant]
  refine wpAny_mkInt ?_
  refine ⟨"tuple", "tuple.__getitem__", slot_tuple_getitem.lookup, (hrow.keeps kp).typeIs, getItem_tuple (hrow.keeps kp) (by decide) (by decide) (j := 0) ?_ h0 ?_⟩
  · have l := (Array.getElem?_eq_some_iff.mp h0).1
    exact seqIndex_of (by decide) (by omega)
  · exact ⟨h₁, _, rfl, kp, .str z tk⟩
end
end Mi
namespace Mi
open PySem PySem.W PyProof.Rows L2 LamX
section
variable {X : Cx}
def keyLe (a b : V × Str) : Bool := dataLe false (fun p : V × Str => PyData.str p.2) a b
/-- rows sorted by the text that stands first in each -/
def tSortKey0 (P : Addr) (q : Str) (te : TE) (K : PySem.W.Frag) : TE := fun σ H Q => te σ H fun x H1 => ∃ (a : Addr) (bs : List (V × Str)), x = .ref a ∧ SqL K H1 a (bs.map (·.1)) ∧ (∀ p ∈ bs, ∃ t r, p.1 = .ref t ∧ SqT K H1 t (.str p.2 :: r)) ∧
  ∀ n : Nat, (∀ b, H1 b ≠ none → b < n) → ∃ Ts : List (Addr × Str), (P, q) ∈ Ts ∧ (∀ p ∈ Ts, p.1 = P → p.2 = q) ∧ Tabs Ts H1 ∧ ∀ H2, ExtN H1 H2 → Tabs Ts H2 → ∀ p, H2 p = none → Q (.ref p) (upd H2 p (.lst ((bs.mergeSort keyLe).map (·.1))))
theorem pe_sortKey0 {k : Nat} {e : Expr} {te : TE} {p pos kp lpos yp ip bp : Pos} {y : Str} {kd : Nat} {scope : Scope} {params : Arguments} {c P : Addr} (hr : Room k X.A)
    (hg : Gl X "sorted") (hm : X.mg "sorted" = none) (he : PE X e te) (TB : TabB X.base X.mg c P) (hcode : X.env.code = .ref c) (hdef : defaultsOf params X.env = ([], []))
    (hco : scope.isCoroutine = false) (hgen : scope.isGenerator = false) (hk : scope.kind = .function) (hnm : scope.names = [(y, .local)]) (hy : (y == ("__debug__" : Str)) = false)
    (hbind : ∀ (q : Str) (pm cv ctv v : Value), bindArgs (kla_fn "<lambda>" q params (.Subscript (.Name y yp) (.Constant (.int 0) kd ip) bp) scope [] pm cv ctv) ⟨[v], []⟩ = pure [(y, v)])
    (hst : starEach [e] X.env = (false, eval e X.env) :: starEach [] X.env := by rfl)
    (hev : eval (.Call (.Name "sorted" p) [e] [⟨some "key", .Lambda params (.Subscript (.Name y yp) (.Constant (.int 0) kd ip) bp) scope lpos, kp⟩] pos) X.env = (do callWith pos (← eval (.Name "sorted" p) X.env) [] (backTo pos (starEach [e] X.env)) (backToKw pos (keywordEach [⟨some "key", .Lambda params (.Subscript (.Name y yp) (.Constant (.int 0) kd ip) bp) scope lpos, kp⟩] X.env))) := by rfl) :
    PE X (.Call (.Name "sorted" p) [e] [⟨some "key", .Lambda params (.Subscript (.Name y yp) (.Constant (.int 0) kd ip) bp) scope lpos, kp⟩] pos) (tSortKey0 P (X.env.qual ++ "<lambda>") te X.K) := by
  refine ⟨fun pins s σ H Q I h => ?_⟩
  rw [hev]
  refine wpAny_bind (ld_blt I hg hm boot_sorted ?_)
  refine callWith_kw (args_cons (thn (he.run pins s σ H _ I h) fun u s1 ⟨x, H1, I1, rx, a, bs, ex, hq, hrow, q⟩ => args_nil ?_) hst) (by rw [hst]; rfl) (by rw [hst]; rfl) rfl rfl
  subst ex
  obtain rfl : u = Value.ref a := rx
  obtain ⟨Ts, tP, tu, hT, q⟩ := q s1.heap.objs.size fun b hb => Nat.lt_of_not_le fun z => hb (I1.hok.fresh z)
  refine kwAll_cons ?_
  have clo : cloFrom X.env.cells scope.names [] = [] := by rw [hnm]; rfl
  refine lam_make2 (T := Ts) I1 TB hcode tP tu hT hdef (fun y' hy' e' => by
    rw [hnm, List.mem_singleton] at hy'
    subst hy'
    cases e') fun f c' pm ctv H2 s2 I2 ex2 hT2 hf hfn hfr hc2 => kwAll_nil ?_
  rw [clo] at hf
  have hq2 : SqL X.K H2 a (bs.map (·.1)) := by
    rcases hq with (z | ⟨o, z⟩) | z
    · exact .inl (.inl (ex2 _ _ z fun ps w => nomatch w))
    · exact .inl (.inr ⟨o, ex2 _ _ z fun ps w => nomatch w⟩)
    · exact .inr z
  obtain ⟨its, rv, pl, hz⟩ := I2.list hq2
  have hl : its.length = bs.length := by rw [← rv.length, List.length_map]
  obtain ⟨⟨oc, vs, tq, hoc, hdc, hvc⟩, _, _⟩ := I2.hok c' _ hc2
  have each : EachIs (fun v (b : V × Str) => RelV b.1 v) its bs := by
    refine EachIs.of_zip hl fun p hp => ?_
    obtain ⟨i, hi⟩ := List.getElem?_of_mem hp
    rw [List.getElem?_zip_eq_some] at hi
    obtain ⟨v, hv, r⟩ := rv.get (show (bs.map (·.1))[i]? = some p.2.1 by rw [List.getElem?_map, hi.2]; rfl)
    rw [hi.1] at hv
    cases hv
    exact r
  refine sorted_key_data (R := fun v (b : V × Str) => RelV b.1 v) (fun b : V × Str => PyData.str b.2) pl.isList each (fun d hd d' hd' => ?_) (.inr fun d hd => ?_) (by rw [← hl]; rw [← rv.length]; exact hz) (fun x hx => ?_) (ksk_s1 _ _) (fun x => ksk_l1 _ _) (fun x => ksk_t1 _ _) (fun v x hR hx h tk kp => ?_) fun out cc h' tk kp fr hget hlen eo => ?_
  · obtain ⟨p1, _, rfl⟩ := List.mem_map.mp hd
    obtain ⟨p2, _, rfl⟩ := List.mem_map.mp hd'
    rfl
  · obtain ⟨p1, _, rfl⟩ := List.mem_map.mp hd
    exact ⟨fun z => (nomatch z), fun xs z => (nomatch z)⟩
  · have := hr.un
    show X.A.units + 2 + 0 < cLine
    omega
  · obtain ⟨t, rr, et, hs⟩ := hrow x hx
    have hs2 : SqT X.K H2 t (.str x.2 :: rr) := by
      rcases hs with (z | ⟨o, z⟩) | z
      · exact .inl (.inl (ex2 _ _ z fun ps w => nomatch w))
      · exact .inl (.inr ⟨o, ex2 _ _ z fun ps w => nomatch w⟩)
      · exact .inr z
    obtain ⟨its2, r2, ⟨o, eo2, hc3, n2, hd⟩, _⟩ := I2.tuple hs2
    rw [et] at hR
    obtain rfl : v = Value.ref t := hR
    obtain ⟨v0, ev0, rel0⟩ := r2.get (show (V.str x.2 :: rr)[0]? = some (.str x.2) from rfl)
    obtain ⟨tz, rfl⟩ := rel0
    exact row0_turn (A := X.A.in1.in1) (its := its2.toArray) (tk := tz) (kp _ _ hf) ⟨c', oc, vs, tq, rfl, kp _ _ hoc, hdc, hvc⟩ (I2.nolimit.keeps kp) ⟨o, kp _ _ eo2, hc3, n2, hd⟩ (by simpa using ev0) (by have := hr.dp; show X.A.depth < _; omega) hco hgen hk hnm hy (hbind _ _ _ _ _)
  · have vals : ∀ {bs' : List (V × Str)} {o' : List Value}, EachIs (fun v (b : V × Str) => RelV b.1 v) o' bs' → Vals (bs'.map (·.1)) o' := fun h => by
      induction h with
      | nil => exact .nil
      | cons r _ ih => exact .cons r ih
    have v2 : Vals ((bs.mergeSort keyLe).map (·.1)) out := vals eo
    have hlen2 : ((bs.mergeSort keyLe).map (·.1)).length ≤ sizeLine := by
      rw [v2.length, hlen, ← List.length_map (f := (·.1)) (as := bs)]
      exact hz
    exact ⟨.ref _, _, I2.laid (o := .lst ((bs.mergeSort keyLe).map (·.1))) (t' := tk) kp (Nat.le_succ _) ⟨hlen2, _, cc, v2, hget⟩, rfl, q H2 ex2 hT2 _ (I2.hok.fresh (Nat.le_succ _))⟩

/-! ### the same through a mirror -/
class Tb where
  at_ : Nat → Addr
  name : Nat → Str
  /-- where the module's defs lie -/
  gf : Str → Addr := fun _ => 0
def keyLeT (a b : T × Str) : Bool := dataLe false (fun p : T × Str => PyData.str p.2) a b
def keyLeZ (a b : V × T × Str) : Bool := dataLe false (fun p : V × T × Str => PyData.str p.2.2) a b
def mSortK0 (P : Addr) (q : Str) (m : ME) : ME := fun r G R => m r G fun t G1 => ∃ (a : Addr) (bs : List (T × Str)), t = .ref a ∧ G1 a = some (.lst (bs.map (·.1))) ∧ (∀ p ∈ bs, ∃ rest, p.1 = .tup (.str p.2 :: rest)) ∧ G1 P = some (.tab q) ∧
  ∀ p, G1 p = none → R (.ref p) (Mi.put G1 p (.lst ((bs.mergeSort keyLeT).map (·.1))))
theorem Le.extN {H H' : Hp} (e : ExtN H H') : Le H H' := ⟨⟨fun b xs h => e b _ h (fun ps z => nomatch z), fun b o xs h => e b _ h (fun ps z => nomatch z), fun b o xs h => e b _ h (fun ps z => nomatch z)⟩, fun b o xs h => e b _ h (fun ps z => nomatch z)⟩
theorem RG.extN {K : PySem.W.Frag} {H H' : Hp} {G : Gp} {Ts : List (Addr × Str)} (g : RG K H G) (e : ExtN H H') (hT : Tabs Ts H') (all : ∀ a q, G a = some (.tab q) → (a, q) ∈ Ts) : RG K H' G := fun a c h => by
  have l := Le.extN e
  cases c with
  | lst ts => obtain ⟨vs, e1, r⟩ := g _ _ h; exact ⟨vs, e _ _ e1 (fun ps z => nomatch z), r.le l⟩
  | dK kvs => obtain ⟨vs, e1, r⟩ := g _ _ h; exact ⟨vs, e _ _ e1 (fun ps z => nomatch z), r.le l⟩
  | dT kvs => obtain ⟨vs, e1, r⟩ := g _ _ h; exact ⟨vs, e _ _ e1 (fun ps z => nomatch z), r.le l⟩
  | tab q => exact hT _ (all _ _ h)
  | lk kvs => obtain ⟨od, vs, e1, r⟩ := g _ _ h; exact ⟨od, vs, e _ _ e1 (fun ps z => nomatch z), r.le l⟩
  | ins C fs => obtain ⟨dx, vs, e1, r⟩ := g _ _ h; exact ⟨dx, vs, e _ _ e1 (fun ps z => nomatch z), r.le l⟩
  | fnc L w =>
    obtain ⟨c, c', o', u, v, h1, h2, h3, h4, h5, h6⟩ := g _ _ h
    exact ⟨c, c', o', u, v, e _ _ h1 (fun ps z => nomatch z), e _ _ h2 (fun ps z => codeO_ne ps z), e _ _ h3 (fun ps z => nomatch z), h4, h5, h6.le l⟩
  | fnp L c =>
    obtain ⟨c', h1, h2⟩ := g _ _ h
    exact ⟨c', e _ _ h1 (fun ps z => nomatch z), e _ _ h2 (fun ps z => codeO_ne ps z)⟩
theorem zip_rows {K : PySem.W.Frag} {H : Hp} : ∀ {bs : List (T × Str)} {vs : List V}, Rps K H vs (bs.map (·.1)) → ∃ zs : List (V × T × Str), zs.map (·.1) = vs ∧ zs.map (·.2) = bs ∧ ∀ z ∈ zs, Rp K H z.1 z.2.1
  | [], vs, h => by
    have h : vs = [] := h
    subst h
    exact ⟨[], rfl, rfl, fun z hz => by cases hz⟩
  | b :: bs, vs, h => by
    obtain ⟨v, r, rfl, h1, h2⟩ := h
    obtain ⟨zs, e1, e2, h3⟩ := zip_rows h2
    refine ⟨(v, b) :: zs, by rw [List.map_cons, e1], by rw [List.map_cons, e2], fun z hz => ?_⟩
    rcases List.mem_cons.mp hz with rfl | hz
    · exact h1
    · exact h3 z hz
theorem rps_zip {K : PySem.W.Frag} {H : Hp} : ∀ {zs : List (V × T × Str)}, (∀ z ∈ zs, Rp K H z.1 z.2.1) → Rps K H (zs.map (·.1)) (zs.map (·.2.1))
  | [], _ => rfl
  | z :: zs, h => ⟨z.1, _, rfl, h z List.mem_cons_self, rps_zip fun y hy => h y (List.mem_cons_of_mem _ hy)⟩
theorem o_sortK0 {k : Nat} {e : Expr} {m : ME} {p pos kp lpos yp ip bp : Pos} {y : Str} {kd : Nat} {scope : Scope} {params : Arguments} {c P : Addr} {q : Str} (hr : Room k X.A)
    (hg : Gl X "sorted") (hm : X.mg "sorted" = none) (he : OE X e m) (TB : TabB X.base X.mg c P) (hcode : X.env.code = .ref c) (hq : X.env.qual ++ "<lambda>" = q) (hdef : defaultsOf params X.env = ([], []))
    (hco : scope.isCoroutine = false) (hgen : scope.isGenerator = false) (hk : scope.kind = .function) (hnm : scope.names = [(y, .local)]) (hy : (y == ("__debug__" : Str)) = false)
    (hbind : ∀ (q : Str) (pm cv ctv v : Value), bindArgs (kla_fn "<lambda>" q params (.Subscript (.Name y yp) (.Constant (.int 0) kd ip) bp) scope [] pm cv ctv) ⟨[v], []⟩ = pure [(y, v)])
    (hst : starEach [e] X.env = (false, eval e X.env) :: starEach [] X.env := by rfl)
    (hev : eval (.Call (.Name "sorted" p) [e] [⟨some "key", .Lambda params (.Subscript (.Name y yp) (.Constant (.int 0) kd ip) bp) scope lpos, kp⟩] pos) X.env = (do callWith pos (← eval (.Name "sorted" p) X.env) [] (backTo pos (starEach [e] X.env)) (backToKw pos (keywordEach [⟨some "key", .Lambda params (.Subscript (.Name y yp) (.Constant (.int 0) kd ip) bp) scope lpos, kp⟩] X.env))) := by rfl) :
    OE X (.Call (.Name "sorted" p) [e] [⟨some "key", .Lambda params (.Subscript (.Name y yp) (.Constant (.int 0) kd ip) bp) scope lpos, kp⟩] pos) (mSortK0 P q m) := ⟨(pe_sortKey0 hr hg hm he.ok TB hcode hdef hco hgen hk hnm hy hbind hst hev).imp fun σ H Q qq => by
  obtain ⟨r, G, R, hs, hg, k, f⟩ := qq
  refine ⟨r, G, _, hs, hg, k, fun t G1 H1 x k1 l1 g1 r1 => ?_⟩
  obtain ⟨a, bs, rfl, ea, hrow, eP, k2⟩ := k1
  obtain ⟨vs, e1, rv⟩ := g1 _ _ ea
  obtain ⟨zs, z1, z2, z3⟩ := zip_rows rv
  have cells : ∀ b q', G1 b = some (.tab q') → TabS H1 b q' := fun b q' h => g1 _ _ h
  have sortV : ∀ (zs : List (V × T × Str)), ((zs.map fun z => (z.1, z.2.2)).mergeSort keyLe) = (zs.mergeSort keyLeZ).map fun z => (z.1, z.2.2) := fun zs => (List.map_mergeSort (r := keyLeZ) (s := keyLe) (f := fun z : V × T × Str => (z.1, z.2.2)) (l := zs) fun _ _ _ _ => rfl).symm
  have sortT : ∀ (zs : List (V × T × Str)), ((zs.map (·.2)).mergeSort keyLeT) = (zs.mergeSort keyLeZ).map (·.2) := fun zs => (List.map_mergeSort (r := keyLeZ) (s := keyLeT) (f := fun z : V × T × Str => z.2) (l := zs) fun _ _ _ _ => rfl).symm
  refine ⟨a, zs.map fun z => (z.1, z.2.2), r1, by rw [List.map_map]; exact .inl (.inl (by rw [e1, ← z1]; rfl)), fun p hp => ?_, fun n hn => ⟨(List.range n).filterMap fun b => match G1 b with | some (.tab q') => some (b, q') | _ => none, ?_, ?_, ?_, fun H2 ex hT p hp => ?_⟩⟩
  · obtain ⟨z, hz, rfl⟩ := List.mem_map.mp hp
    obtain ⟨rest, er⟩ := hrow z.2 (by rw [← z2]; exact List.mem_map.mpr ⟨z, hz, rfl⟩)
    have rz := z3 z hz
    rw [er] at rz
    obtain ⟨t, ws, et, ⟨ob, _, hqt⟩, _, rw'⟩ := rz
    obtain ⟨w0, r0, rfl, h0, _⟩ := rw'
    have h0 : w0 = .str z.2.2 := h0
    subst h0
    exact ⟨t, r0, et, .inl (.inr ⟨ob, hqt⟩)⟩
  · obtain ⟨ps, hP, _⟩ := cells _ _ eP
    refine List.mem_filterMap.mpr ⟨P, List.mem_range.mpr (hn P (by rw [hP]; exact nofun)), ?_⟩
    rw [eP, hq]
  · intro p hp e
    obtain ⟨b, _, hb⟩ := List.mem_filterMap.mp hp
    split at hb
    · rename_i q' h'
      cases hb
      have e : b = P := e
      rw [e, eP] at h'
      cases h'
      exact hq.symm
    · cases hb
  · intro p hp
    obtain ⟨b, _, hb⟩ := List.mem_filterMap.mp hp
    split at hb
    · rename_i q' h'
      cases hb
      exact cells _ _ h'
    · cases hb
  · have g2 : RG X.K H2 G1 := g1.extN ex hT fun b q' h => by
      obtain ⟨ps, hb, _⟩ := cells _ _ h
      refine List.mem_filterMap.mpr ⟨b, List.mem_range.mpr (hn b (by rw [hb]; exact nofun)), ?_⟩
      rw [h]
    have l2 := Le.extN ex
    refine ((f.le l1).le l2).newL g2 hp (k2 p (g2.fresh hp)) ?_
    rw [sortV, ← z2, sortT, List.map_map, List.map_map]
    exact rps_zip fun z hz => (z3 z (List.mem_mergeSort.mp hz)).le l2⟩
end
end Mi

set_option Elab.async false
set_option linter.all false
set_option maxRecDepth 100000
set_option maxHeartbeats 2000000
/-! ### the head for a law of which one def makes a lambda -/
namespace Mi
open PySem L2 PySem.Spec PyProof.Rows LamX
def OnlyT (P : Addr) (H : Hp) : Prop := ∀ b, H b = none ∨ b = P ∨ ∃ o xs, H b = some (.frz o (.lst xs))
/-- the code object of a def and its table, in base -/
def TabF (base : Heap) (mg : Str → Option Value) (fd : FuncData) (P : Addr) : Prop := ∃ c, fd.code = .ref c ∧ TabB base mg c P
section
variable {P : Program} {w : World} {K : PySem.W.Frag} {mg mb : Str → Option Value} {base : Heap}
/-- a def that makes a lambda, by its body -/
theorem fn_okT {x qual : Str} {st : Stmt} {f tb : Addr} {fd : FuncData} {N ps : List Str} {k : Nat} {b : MS} (F : Fun K x qual st f fd) (S : FnScope N ps (defScope st)) (TB : TabF base mg fd tb)
    (hb : ∀ (c : Addr) (A : Around) (outer : List PySem.Env) (s : Shared) (H : Hp) (E : XK), TabB base mg c tb → Room k (A.deeper (PyProof.Rows.envOfC qual (defScope st) s.heap.objs.size f (.ref c))) → OSs (cxOf CX0 P w K mg base N qual (defScope st) f (.ref c) A outer s H E).nox (defBody st) b) :
    FnOk P w K mg base CX0 (k + 1) f fd ps (liM K (spOf N.length ps.length b)) := by
  obtain ⟨c0, ec, TB⟩ := TB
  obtain ⟨oc, od, kV, doc, pm, an, cdv, ct, osl, rfl, lk, hcd⟩ := F.ex
  have ec : cdv = .ref c0 := ec
  subst ec
  have ar : ∀ xs H Q E, liM K (spOf N.length ps.length b) xs H Q E → xs.length = ps.length := fun xs H Q E h => by
    obtain ⟨ts, G, R, r, hg, ⟨hl, _⟩, _⟩ := h
    rw [r.length]
    exact hl
  refine ⟨ar, ?_⟩
  intro A outer s H args us vs Q E hr e0 bd rv hsp
  have low := fun b o e => (e0.bs b o e).1
  have kin : K.In s.heap := e0.mod.kin.keeps low
  have kinds : ∀ y ∈ ps.zip us, (defScope st).names.lookup y.1 = some .local ∨ ((defScope st).names.lookup y.1 = some .cell ∧ ((cellsFrom (s.heap.objs.size + 1) (defScope st).names []).lookup y.1).isSome = true) := by
    rintro ⟨y, v⟩ hy
    exact (S.par y (List.of_mem_zip hy).1).imp id fun q => ⟨q, PySem.W.cellsFrom_some _ _ _ (.inl q)⟩
  refine codeAny_call_function hr.depth (kin _ _ lk) rfl S.co S.gen rfl (PySem.W.codeRec_of kin hcd) (bd _ _ _ _ (wpAny_newFunctionEnv_cells S.kind kinds ?_))
  intro env he s1 x1
  subst he
  refine ⟨(e0.mod.nolimit.keeps low).keeps x1.toInCall.keep, codeAny_func ?_⟩
  have body := ((hb c0 A outer s H E TB (hr.deeper _)).ok).nox
  have I0 : Inv (cxOf CX0 P w K mg base N qual (defScope st) f (.ref c0) A outer s H E) [] (L2.start N vs) H s1 := inv_start S hr.hd e0 (ar vs H Q E hsp) rv x1
  obtain ⟨ts, G, R, r, hg, ⟨hl, hbody⟩, fR⟩ := hsp
  have give : Gives K H (fwdT R) Q := fun t G' H' v ⟨G2, e, k⟩ l g rv => fR t G2 H' v k l (g.sub e) rv
  have rs := start_rs (N := N) r
  rw [hl] at rs
  have run := body.run [] s1 (L2.start N vs) H { nx := fun _ H' => Q .non H', rt := Q } I0 ⟨_, G, _, rs, hg, hbody, fun r' G' σ' H' k l hs g => give .non G' H' .non k l g rfl, give, fun _ _ _ _ z => z.elim, fun _ _ _ _ z => z.elim⟩
  refine wpAny_mono run (fun fl s2 h2 => ?_) fun e s2 h2 => h2
  cases fl with
  | ret u =>
    obtain ⟨v, σ', H', J, rvu, q⟩ := h2
    exact ⟨v, H', J.os, J.bare, J.base, J.hok, rvu, q⟩
  | next =>
    obtain ⟨σ', H', J, q⟩ := h2
    exact ⟨V.non, H', J.os, J.bare, J.base, J.hok, rfl, q⟩
  | brk => obtain ⟨_, _, _, q⟩ := h2; exact q.elim
  | cont => obtain ⟨_, _, _, q⟩ := h2; exact q.elim
section
variable {k : Nat} {fa a c T : Addr} {fd : FuncData} {x : Str} {pr : Sp} {z : Shared} {vs : List Value} {ns : List Int}
theorem head_coreT (hK : K.In z.heap) (hns : z.heap.Ns mainGlobals mg) (hb : z.heap.Ns builtinsNs mb) (hbb : ∀ x : Str, x ≠ "__name__" → mb x = bootBuiltins x) (hlim : z.heap.NoLimit) (hg : z.gens = #[])
    (hT : z.heap.get? T = some { cls := .none, data := .fields #[] }) (nT : K.lookup T = none) (C : PySem.W.CodeHd z.heap c T)
    (hbm : ∃ (bm : Addr) (ob : Obj), mg "__builtins__" = some (.ref bm) ∧ bm ≠ builtinsNs ∧ z.heap.get? bm = some ob ∧ ob.cls = .type "module" ∧ ob.dict = some builtinsNs ∧ ob.data = .plain)
    (ha : z.heap.get? a = some { cls := .type "list", data := .seq vs.toArray }) (hr : Room k callerA)
    (F : ∀ base : Heap, K.In base → base.Ns mainGlobals mg → TabB base mg c T → FnG P w K mg base k fa fd [x] pr) (hbind : ∀ (s : Shared) (u : Value), BindsTo s fd ⟨[u], []⟩ [(x, u)])
    (hsp : ∀ H : Hp, OnlyT T H → H T = some (.tbl #[]) → SqL K H a (ns.map V.int) → pr [.ref a] H (fun v _ => v = .bl true) E0)
    (H : Hp) (hO : OnlyT T H) (hH : H T = some (.tbl #[])) (hS : SqL K H a (ns.map V.int)) (ok : HOk P w H z.heap) (only : ∀ b, H b ≠ none → b = a ∨ b = T) (out : H a ≠ none → K.lookup a = none) :
    codeAny (model P w) callerA (.call (.ref fa) ⟨[.ref a], []⟩) (fun r s' => r = .ok (.ret (.bool true)) ∧ OldK z.heap s'.heap ∧ s'.os = z.os ∧ AllBare s'.gens) z := by
  have nd : ∀ {b : Addr} {o : Obj}, z.heap.get? b = some o → (∀ vs n, o.data ≠ .seq vs n) → o.data ≠ .fields #[] → H b = none := fun {b o} e h1 h2 => by
    cases q : H b with
    | none => rfl
    | some u =>
      rcases only b (by rw [q]; exact nofun) with y | y
      · rw [y, ha] at e
        cases e
        exact (h1 _ _ rfl).elim
      · rw [y, hT] at e
        cases e
        exact (h2 rfl).elim
  have kNs : ∀ {b : Addr} {m : Str → Option Value}, z.heap.Ns b m → (hidT z.heap H).Ns b m := by
    rintro b m ⟨o, es, ep, e, d, r⟩
    exact ⟨o, es, ep, hidT_get e (nd e (fun vs n y => by rw [d] at y; cases y) fun y => by rw [d] at y; cases y), d, r⟩
  have kK : K.In (hidT z.heap H) := by
    intro b o e
    refine hidT_get (hK b o e) ?_
    cases q : H b with
    | none => rfl
    | some u =>
      rcases only b (by rw [q]; exact nofun) with y | y
      · rw [y] at e q
        rw [out (by rw [q]; exact nofun)] at e
        cases e
      · rw [y, nT] at e
        cases e
  obtain ⟨mc, l1, l2⟩ := hlim
  have M : Mod K mg (hidT z.heap H) := ⟨kK, kNs hns, ⟨mb, kNs hb, hbb⟩, ⟨mc, kNs l1, l2⟩⟩
  have TB : TabB (hidT z.heap H) mg c T := by
    refine ⟨?_, ?_, fun y => ?_⟩
    · obtain ⟨o, us, file, tf, flags, tg, inF, text, tt, e1, r1, r2, r3, r4, r5, r6, r7, r8, hne⟩ := C
      refine ⟨o, us, file, tf, flags, tg, inF, text, tt, hidT_get e1 (nd e1 (fun vs n y => ?_) fun y => ?_), r1, r2, r3, r4, r5, r6, r7, r8, hne⟩
      · rw [r2] at y
        cases y
      · rw [r2] at y
        cases y
        simp at r3
    · obtain ⟨bm, ob, b1, b2, b3, b4, b5, b6⟩ := hbm
      refine ⟨bm, ob, b1, b2, fun y => ?_, fun y => ?_, hidT_get b3 (nd b3 (fun vs n y => ?_) fun y => ?_), b4, b5, b6⟩
      · obtain ⟨o, es, ep, e, hd, _⟩ := hns
        rw [y, e] at b3
        cases b3
        rw [hd] at b6
        cases b6
      · rw [y, hT] at b3
        cases b3
        cases b6
      · rw [b6] at y
        cases y
      · rw [b6] at y
        cases y
    · obtain ⟨o, es, ep, e, hd, _⟩ := hns
      rw [y, hT] at e
      cases e
      cases hd
  have e0 : Env0 P w K mg (hidT z.heap H) callerA [] z H := ⟨rfl, M, fun b o e => of_hidT e, Nat.le_of_eq (hidT_size _ _), trivial, fun b hb => (nomatch hb), ok, .of_eq hg⟩
  have run := (F _ kK (kNs hns) TB).goes callerA [] z H ⟨[.ref a], []⟩ [.ref a] [.ref a] (fun v _ => v = .bl true) E0 hr rfl e0 (hbind z (.ref a)) (.cons rfl .nil) (hsp H hO hH hS)
  refine codeAny_mono run fun r s' h => ?_
  cases r with
  | error e => exact h.elim
  | ok fl =>
    cases fl with
    | next => exact h.elim
    | brk => exact h.elim
    | cont => exact h.elim
    | ret u =>
      obtain ⟨v, H', os, bare, un, ok', rv, q⟩ := h
      cases (show v = .bl true from q)
      cases (show u = Value.bool true from rv)
      have key : ∀ b o, b ≠ T → z.heap.get? b = some o → s'.heap.get? b = some o := fun b o nb e => by
        rcases hO b with n0 | n0 | ⟨ob, xs, n1⟩
        · exact un.keep b o e n0 (fun y => nomatch y) (fun y => nomatch y)
        · exact absurd n0 nb
        · have h1 := (ok b _ n1).1
          have h2 := (ok' b _ (un.frzs b ob _ n1)).1
          rw [e] at h1
          cases h1
          exact h2
      obtain ⟨more, hm⟩ := un.tbls T #[] hH
      have hm2 : s'.heap.get? T = some { cls := .none, data := .fields (#[] ++ more) } := ok' T _ hm
      refine ⟨rfl, ⟨fun b o e => ?_, fun b o e => ?_⟩, os, bare⟩
      · by_cases hb : b = T
        · subst hb
          rw [hT] at e
          cases e
          exact .inr (.inl ⟨(C.tab hT).isCodeTable, rfl, #[], more, rfl, hm2⟩)
        · exact .inl (key b o hb e)
      · by_cases hb : b = T
        · subst hb
          exact ⟨_, hm2⟩
        · exact ⟨o, key b o hb e⟩
theorem head_callT (hK : K.In z.heap) (hns : z.heap.Ns mainGlobals mg) (hb : z.heap.Ns builtinsNs mb) (hbb : ∀ x : Str, x ≠ "__name__" → mb x = bootBuiltins x) (hlim : z.heap.NoLimit) (hg : z.gens = #[])
    (hT : z.heap.get? T = some { cls := .none, data := .fields #[] }) (nT : K.lookup T = none) (C : PySem.W.CodeHd z.heap c T)
    (hbm : ∃ (bm : Addr) (ob : Obj), mg "__builtins__" = some (.ref bm) ∧ bm ≠ builtinsNs ∧ z.heap.get? bm = some ob ∧ ob.cls = .type "module" ∧ ob.dict = some builtinsNs ∧ ob.data = .plain)
    (ha : z.heap.get? a = some { cls := .type "list", data := .seq vs.toArray }) (hi : IntsAre vs ns) (hl : ns.length ≤ sizeLine) (hr : Room k callerA)
    (F : ∀ base : Heap, K.In base → base.Ns mainGlobals mg → TabB base mg c T → FnG P w K mg base k fa fd [x] pr) (hbind : ∀ (s : Shared) (u : Value), BindsTo s fd ⟨[u], []⟩ [(x, u)])
    (hsp : ∀ H : Hp, OnlyT T H → H T = some (.tbl #[]) → SqL K H a (ns.map V.int) → pr [.ref a] H (fun v _ => v = .bl true) E0) :
    codeAny (model P w) callerA (.call (.ref fa) ⟨[.ref a], []⟩) (fun r s' => r = .ok (.ret (.bool true)) ∧ OldK z.heap s'.heap ∧ s'.os = z.os ∧ AllBare s'.gens) z := by
  have rel := vals_ints hi
  have aT : a ≠ T := fun y => by
    rw [y, hT] at ha
    cases ha
  cases hk : K.lookup a with
  | some o =>
    have e := hK a o hk
    rw [ha] at e
    cases e
    refine head_coreT (ns := ns) hK hns hb hbb hlim hg hT nT C hbm ha hr F hbind hsp (fun b => if b = T then some (.tbl #[]) else none) (fun b => ?_) (if_pos rfl) (.inr ?_) (fun b u n => ?_) (fun b n => ?_) fun n => ?_
    · by_cases y : b = T
      · exact .inr (.inl y)
      · exact .inl (if_neg y)
    · exact ⟨_, vs.toArray, _, hk, rfl, rfl, rfl, by rw [List.size_toArray, hi.length]; exact hl, by simpa using rel⟩
    · by_cases y : b = T
      · have n' := (if_pos y).symm.trans n
        cases n'
        rw [y]
        exact hT
      · have n' := (if_neg y).symm.trans n
        cases n'
    · by_cases y : b = T
      · exact .inr y
      · exact absurd (if_neg y) n
    · exact absurd (if_neg aT) n
  | none =>
    refine head_coreT (ns := ns) hK hns hb hbb hlim hg hT nT C hbm ha hr F hbind hsp (fun b => if b = a then some (.frz { cls := .type "list", data := .seq vs.toArray } (.lst (ns.map V.int))) else if b = T then some (.tbl #[]) else none) (fun b => ?_)
      ((if_neg (Ne.symm aT)).trans (if_pos rfl)) (.inl (.inr ⟨{ cls := .type "list", data := .seq vs.toArray }, if_pos rfl⟩)) (fun b u n => ?_) (fun b n => ?_) fun _ => hk
    · by_cases y : b = a
      · exact .inr (.inr ⟨_, _, if_pos y⟩)
      · by_cases y2 : b = T
        · exact .inr (.inl y2)
        · exact .inl ((if_neg y).trans (if_neg y2))
    · by_cases y : b = a
      · have n' := (if_pos y).symm.trans n
        cases n'
        rw [y]
        exact ⟨ha, by rw [List.length_map]; exact hl, vs, _, rel, ha⟩
      · have n1 := (if_neg y).symm.trans n
        by_cases y2 : b = T
        · have n' := (if_pos y2).symm.trans n1
          cases n'
          rw [y2]
          exact hT
        · have n' := (if_neg y2).symm.trans n1
          cases n'
    · by_cases y : b = a
      · exact .inl y
      · by_cases y2 : b = T
        · exact .inr y2
        · exact absurd ((if_neg y).trans (if_neg y2)) n
end
end
/-- what k_head leaves, from such a promise; xt: the def that makes the lambda -/
theorem walk_ofGT {l : PySem.W.OpenLaw} {n k : Nat} {q : Program} {loose : List Str} {XP : (Str → Option Value) → Heap → Prop} {YP : World → Heap → Prop} {d : DefRec} {K : Params → PySem.W.Frag} {sp : World → Addr → Sp} {x : Str}
    (hn : l.most = some n) (hn2 : n ≤ sizeLine) (hdf : d.params.defaults = []) (hr : Room k callerA) (hY : ∀ (w : World) (h : Heap), YP w h → (K w.params).In h)
    (F : ∀ (w : World) (mg : Str → Option Value) (fa : Addr) (h : Heap), (K w.params).In h → h.Ns mainGlobals mg → mg d.name = some (.ref fa) →
      ∃ (fd : FuncData) (xt : Str) (dt : DefRec) (c T : Addr), (recsOf q).find? (fun e => e.name == xt) = some dt ∧ PySem.W.tabIn (K w.params) xt = some (c, T) ∧ (K w.params).lookup T = none ∧ (∀ (s : Shared) (u : Value), BindsTo s fd ⟨[u], []⟩ [(x, u)]) ∧
        (∀ (H : Hp) (a : Addr) (ns : List Int), ns.length ≤ n → OnlyT T H → H T = some (.tbl #[]) → SqL (K w.params) H a (ns.map V.int) → sp w T [.ref a] H (fun v _ => v = .bl true) E0) ∧
        ∀ base : Heap, (K w.params).In base → base.Ns mainGlobals mg → TabB base mg c T → FnG l.prog w (K w.params) mg base k fa fd [x] (sp w T)) :
    PySem.W.WalkO q loose XP YP l.row.toRowW d [] (fun f vs => PySem.call f vs) :=
  Att.attach_call hn hdf fun w s₀ z mg mb fa o pm cd doc a vs ns G Y ho hd hcd hmg hobj hints hlen hg => by
    have kin := hY w _ Y
    obtain ⟨fd, xt, dt, c, T, h1, h2, nT, hb, hsp, hF⟩ := F w mg fa _ kin G.T.g hmg
    obtain ⟨C, hT⟩ := PySem.W.tab_of G.T kin h1 h2
    exact head_callT kin G.T.g G.T.b G.T.builtins G.T.nolimit hg hT nT C G.T.bmain hobj hints (Nat.le_trans hlen hn2) hr hF hb fun H hO hH hS => hsp H a ns hlen hO hH hS
end Mi

set_option Elab.async false
set_option linter.all false
set_option maxRecDepth 100000
namespace Mi
open PySem PySem.Spec PyProof.Rows L2
section
variable {X : Cx}
/-! ### dict(rows), rows a tuple -/
theorem pairsV_of {pins : List (Addr × Obj)} {σ : L2.St} {H : Hp} {s : Shared} (I : Inv X pins σ H s) : ∀ {ps : List Addr} {kvs : List (Key × V)}, Paired (fun p kv => SqT X.K H p [kV kv.1, kv.2]) ps kvs →
    ∃ (prs : List (Key × Value)) (pv : List (Value × Value)), KV kvs prs ∧ prs.length = ps.length ∧ pv.length = ps.length ∧ ∀ (j : Nat) (k v : Value), pv[j]? = some (k, v) → ∃ (b : Addr) (kk : Key), ps[j]? = some b ∧ IsTup s.heap b #[k, v] ∧ prs[j]? = some (kk, v) ∧ keyIs kk k = true
  | _, _, .nil => ⟨[], [], .nil, rfl, rfl, fun j k v e => by simp at e⟩
  | _, _, .cons (a := p) (b := kv) h t => by
    obtain ⟨prs, pv, r, hl, hl2, hp⟩ := pairsV_of I t
    obtain ⟨its, rv, ht, _⟩ := I.tuple h
    obtain ⟨u, y, ei, ru, ry⟩ := vals2 rv
    subst ei
    refine ⟨(kv.1, y) :: prs, (u, y) :: pv, .cons ⟨rfl, ry⟩ r, by rw [List.length_cons, List.length_cons, hl], by rw [List.length_cons, List.length_cons, hl2], fun j k v e => ?_⟩
    cases j with
    | zero =>
      have e' : (u, y) = (k, v) := Option.some.inj e
      cases e'
      exact ⟨p, kv.1, rfl, ht, rfl, kV_is (P := X.prog) (w := X.w) ru⟩
    | succ j => exact hp j k v e
theorem call_dictPT (hcalm : X.calm = true) : CallR X (.type "dict") (fun xs H Q => ∃ (a : Addr) (o : Obj) (ps : List Addr) (kvs : List (Key × V)), xs = [.ref a] ∧ o.dict = none ∧ H a = some (.frz o (.tup (ps.map V.ref))) ∧ Paired (fun p kv => SqT X.K H p [kV kv.1, kv.2]) ps kvs ∧
    ∀ p, H p = none → Q (.ref p) (upd H p (.dK (mergeK [] kvs)))) := by
  intro pins s σ H xs us Q I r q
  obtain ⟨a, o, ps, kvs, ex, hod, hq, hp, q⟩ := q
  subst ex
  obtain ⟨u, eu, rx⟩ := vals1 r
  subst eu
  cases rx
  obtain ⟨ho, hz, its, rv, o', ho', hc, n, hdat⟩ := (show ObjOk X.prog X.w H s.heap a (.frz o (.tup (ps.map V.ref))) from I.hok a _ hq)
  rw [ho] at ho'; cases ho'
  have ei := refs_at rv
  subst ei
  rw [List.length_map] at hz
  obtain ⟨prs, pv, rel, hl, hl2, hpr⟩ := pairsV_of I hp
  refine _root_.PySem.call_dict_pairs (knd := mixKind X.prog X.w) (kvs := prs) (PairArg.tuple a (ps.map Value.ref).toArray (fun j => ps.getD j 0) pv) (I.ok.hd hcalm) ⟨⟨o, n, ho, hc, hod, hdat⟩, by simp [hl2], fun j k v e => ?_⟩ ⟨hl.trans hl2.symm, fun i key v e => ?_⟩ (by rw [hl2]; exact hz) fun h' tk hd' k => ?_
  · obtain ⟨b, kk, e1, e2, e3, e4⟩ := hpr j k v e
    have e5 : ps.getD j 0 = b := by rw [List.getD_eq_getElem?_getD, e1]; rfl
    exact ⟨by simp [e1], .inl (by show s.heap.IsTuple (ps.getD j 0) _; rw [e5]; exact e2)⟩
  · obtain ⟨b, kk, e1, e2, e3, e4⟩ := hpr i key v e
    exact ⟨kk, e3, e4⟩
  · have hm : (s.heap.objs.size == sysModules) = false := beq_eq_false_iff_ne.mpr (Nat.ne_of_gt I.big)
    have hlen : (mergeK [] kvs).length ≤ sizeLine := by
      refine Nat.le_trans (length_mergeK kvs []) ?_
      rw [List.length_nil, Nat.zero_add, rel.length, hl]
      exact hz
    exact ⟨.ref s.heap.objs.size, upd H s.heap.objs.size (.dK (mergeK [] kvs)), I.laid (t' := tk) (fun b o e => k b o (by simp) e) (Nat.le_refl _) (show ObjOk X.prog X.w _ _ _ (.dK (mergeK [] kvs)) from ⟨hlen, hm, merged [] prs, KV.merge rel .nil, hd'⟩), rfl, q _ (I.hok.fresh (Nat.le_refl _))⟩
/-- the rows of a dict -/
inductive Rows : List T → List (Key × T) → Prop
  | nil : Rows [] []
  | cons {t u : T} {k : Key} {ts : List T} {kvs : List (Key × T)} (e : t = .tup [kT k, u] ∨ t = .pr [kT k, u]) (h : Rows ts kvs) : Rows (t :: ts) ((k, u) :: kvs)
theorem Rows.rp {K : PySem.W.Frag} {H : Hp} : ∀ {ts : List T} {kvs : List (Key × T)} {vs : List V}, Rows ts kvs → Rps K H vs ts → ∃ (ps : List Addr) (kv : List (Key × V)), vs = ps.map V.ref ∧ Paired (fun p kv => SqT K H p [kV kv.1, kv.2]) ps kv ∧ Rkv K H kv kvs
  | _, _, vs, .nil, h => by
    have h : vs = [] := h
    subst h
    exact ⟨[], [], rfl, .nil, rfl, rfl⟩
  | _, _, vs, .cons e hr, h => by
    obtain ⟨v, r, rfl, h1, h2⟩ := h
    obtain ⟨p, ws, rfl, hq, _, rw⟩ := two_sq e h1
    obtain ⟨a, q, rfl, ra, b, q2, rfl, rb, e2⟩ := rw
    have e2 : q2 = [] := e2
    subst e2
    have ea := kT_rp ra
    subst ea
    obtain ⟨ps, kv, rfl, hp, hk⟩ := Rows.rp hr h2
    exact ⟨p :: ps, (_, b) :: kv, rfl, .cons hq hp, Rkv.cons rb hk⟩
def omDictP : Sm := fun ts G R => ∃ t rows kvs, ts = [t] ∧ (t = .tup rows ∨ isL G t rows) ∧ Rows rows kvs ∧ ∀ p, G p = none → R (.ref p) (Mi.put G p (.dK (mergeT [] kvs)))
theorem c_dictP (hcalm : X.calm = true) : CallR X (.type "dict") (liC X.K omDictP) := ((call_dictPT hcalm).or (call_dictP hcalm)).imp fun xs H Q h => by
  obtain ⟨ts, G, R, rv, hg, ⟨t, rows, kvs, rfl, ht, hr, k⟩, f⟩ := h
  obtain ⟨v, rfl, r⟩ := rv.get1
  rcases ht with rfl | ht
  · obtain ⟨p, vs, rfl, ⟨o, ho, hq⟩, _, rv⟩ := r
    obtain ⟨ps, kv, rfl, hp, hk⟩ := hr.rp rv
    exact .inl ⟨p, o, ps, kv, rfl, ho, hq, hp, fun p hp => f.newC hg hp (k p (hg.fresh hp)) ⟨_, upd_same, (Rkv.merge (vs := []) (ts := []) hk ⟨rfl, rfl⟩).le (Le.new hp)⟩⟩
  · obtain ⟨p, vs, rfl, hq, rv⟩ := ht.seq hg r
    obtain ⟨ps, kv, rfl, hp, hk⟩ := hr.rp rv
    exact .inr ⟨p, ps, kv, rfl, hq, hp, fun p hp => f.newC hg hp (k p (hg.fresh hp)) ⟨_, upd_same, (Rkv.merge (vs := []) (ts := []) hk ⟨rfl, rfl⟩).le (Le.new hp)⟩⟩

/-! ### is True, is False -/
def oIsB : O2 := fun s t G R => ∃ a b, s = .bl a ∧ t = .bl b ∧ R (.bl (decide (a = b))) G
def oNotB : O2 := fun s t G R => ∃ a b, s = .bl a ∧ t = .bl b ∧ R (.bl (!decide (a = b))) G
theorem op_oIsB : OpR X (compareOp .Is) (liO2 X.K oIsB) := op_is_bl.imp fun x y H Q h => by
  obtain ⟨s, t, G, R, rx, ry, hg, ⟨a, b, rfl, rfl, k⟩, f⟩ := h
  cases rx; cases ry
  exact ⟨a, b, rfl, rfl, f.val hg k rfl⟩
theorem op_oNotB : OpR X (compareOp .IsNot) (liO2 X.K oNotB) := op_isnot_bl.imp fun x y H Q h => by
  obtain ⟨s, t, G, R, rx, ry, hg, ⟨a, b, rfl, rfl, k⟩, f⟩ := h
  cases rx; cases ry
  exact ⟨a, b, rfl, rfl, f.val hg k rfl⟩

/-! ### for k in d, d a dict that isn't changed within -/
def msForK (i : Nat) (g : MG) (s : MS) : MS := fun M r G => ∃ d kvs, r[i]? = some (some (.ref d)) ∧ G d = some (.dK kvs) ∧ ∃ W : Nat → Mi.Env → Gp → Prop, W 0 r (Mi.put G d (.lk kvs)) ∧ (∀ n r G, W n r G → G d = some (.lk kvs)) ∧
  (∀ n k u r G, kvs[n]? = some (k, u) → W n r G → g (kT k) r G (s { nx := fwd (W (n + 1)), ct := fwd (W (n + 1)), bk := fun r G => G d = some (.lk kvs) ∧ M.nx r (Mi.put G d (.dK kvs)), rt := fun t G => G d = some (.lk kvs) ∧ M.rt t (Mi.put G d (.dK kvs)) })) ∧
  ∀ r G, W kvs.length r G → M.nx r (Mi.put G d (.dK kvs))
theorem Le.unlock {H H' : Hp} {d : Addr} {od : Obj} {vs : List (Key × V)} (hd : H d = some (.dK vs)) (l : Le (upd H d (.frz od (.dK vs))) H') : Le H (upd H' d (.dK vs)) := by
  have ne : ∀ {b : Addr} {o : HO}, H b = some o → (∀ k, o ≠ .dK k) → b ≠ d := fun h n z => by subst z; rw [hd] at h; cases h; exact n _ rfl
  refine ⟨⟨fun b xs e => ?_, fun b u xs e => ?_, fun b u xs e => ?_⟩, fun b u xs e => ?_⟩
  · have n := ne e (fun _ z => nomatch z)
    rw [upd_ne n]; exact l.1.1 _ _ (by rw [upd_ne n]; exact e)
  · have n := ne e (fun _ z => nomatch z)
    rw [upd_ne n]; exact l.1.2.1 _ _ _ (by rw [upd_ne n]; exact e)
  · have n := ne e (fun _ z => nomatch z)
    rw [upd_ne n]; exact l.1.2.2 _ _ _ (by rw [upd_ne n]; exact e)
  · have n := ne e (fun _ z => nomatch z)
    rw [upd_ne n]; exact l.2 _ _ _ (by rw [upd_ne n]; exact e)
theorem LeW.unlock {H' : Hp} {d : Addr} {od : Obj} {vs : List (Key × V)} (hd : H' d = some (.frz od (.dK vs))) : LeW H' (upd H' d (.dK vs)) := by
  have ne : ∀ {b : Addr} {o : HO}, H' b = some o → (∀ k, o ≠ .frz od (.dK k)) → b ≠ d := fun h n z => by subst z; rw [hd] at h; cases h; exact n _ rfl
  refine ⟨fun b xs e => ?_, fun b u xs e => ?_, fun b u xs e => ?_⟩
  · rw [upd_ne (ne e (fun _ z => nomatch z))]; exact e
  · rw [upd_ne (ne e (fun _ z => by cases z))]; exact e
  · rw [upd_ne (ne e (fun _ z => by cases z))]; exact e
theorem RG.unlock {K : PySem.W.Frag} {H' : Hp} {G : Gp} {d : Addr} {od : Obj} {vs : List (Key × V)} {kvs : List (Key × T)} (hd : H' d = some (.frz od (.dK vs))) (hg : RG K H' G) (r : Rkv K H' vs kvs) : RG K (upd H' d (.dK vs)) (Mi.put G d (.dK kvs)) := fun b c e => by
  have l := LeW.unlock hd
  by_cases hb : b = d
  · subst hb
    rw [put_same] at e; cases e
    exact ⟨vs, upd_same, r.1, r.2.leW l⟩
  · rw [put_ne hb] at e
    have h := hg b c e
    cases c with
    | lst ts => obtain ⟨vs, e, r⟩ := h; exact ⟨vs, by rw [upd_ne hb]; exact e, r.leW l⟩
    | dK kvs => obtain ⟨vs, e, r⟩ := h; exact ⟨vs, by rw [upd_ne hb]; exact e, r.1, r.2.leW l⟩
    | dT kvs => obtain ⟨vs, e, r⟩ := h; exact ⟨vs, by rw [upd_ne hb]; exact e, r.1, r.2.leW l⟩
    | lk kvs => obtain ⟨od, vs, e, r⟩ := h; exact ⟨od, vs, by rw [upd_ne hb]; exact e, r.1, r.2.leW l⟩
    | ins C fs => obtain ⟨dx, vs, e, r⟩ := h; exact ⟨dx, vs, by rw [upd_ne hb]; exact e, r.1, r.2.leW l⟩
    | fnc L w' =>
      obtain ⟨c, c', o', u, v, h1, h2, h3, h4, h5, h6⟩ := h
      exact ⟨c, c', o', u, v, by rw [upd_ne hb]; exact h1, by rw [upd_ne (fun z => by rw [z, hd] at h2; cases h2)]; exact h2, by rw [upd_ne (fun z => by rw [z, hd] at h3; cases h3)]; exact h3, h4, h5, h6.leW l⟩
    | fnp L c =>
      obtain ⟨c', h1, h2⟩ := h
      exact ⟨c', by rw [upd_ne hb]; exact h1, by rw [upd_ne (fun z => by rw [z, hd] at h2; cases h2)]; exact h2⟩
    | tab q =>
      obtain ⟨ps, h1, h2, h3⟩ := h
      refine ⟨ps, by rw [upd_ne hb]; exact h1, h2, fun pos cv hc => ?_⟩
      obtain ⟨c, e1, e2⟩ := h3 pos cv hc
      exact ⟨c, e1, by rw [upd_ne (fun z => by rw [z, hd] at e2; cases e2)]; exact e2⟩
theorem RS.leW {K : PySem.W.Frag} {H H' : Hp} {σ : L2.St} {r : Mi.Env} (e : LeW H H') (h : RS K H σ r) : RS K H' σ r := ⟨h.1, fun i t q => by
  obtain ⟨v, a, b⟩ := h.2 i t q
  exact ⟨v, a, b.leW e⟩⟩
theorem s_forK {i : Nat} {x : Str} {xp pos : Pos} {tg : Expr} {body : List Stmt} {g : MG} {s1 : MS} (hp : PassesOwn (model X.prog X.w) X.A X.env X.xe) (hc : X.calm = true) (hi : PE X (.Name x xp) (tVar i)) (hg : OG X tg g) (hb : OSs X body s1)
    (hs : ∀ y, foldedSetIterable (.Name x xp) X.env y = pure y := by intro _; rfl) : OS X (.For tg (.Name x xp) body [] pos) (msForK i g s1) :=
  ⟨(ps_lock (ps_for hp hc (pi_keys hi) hg.ok hb.ok hs)).imp fun D σ H q => by
    obtain ⟨r, G, M, hs, hg, ⟨d, kvs, er, eG, W, w0, wh, turn, done⟩, f1, f2, f3, f4⟩ := q
    obtain ⟨v0, ev, rv0⟩ := hs.2 i _ er
    have rv0 : v0 = .ref d := rv0
    subst rv0
    obtain ⟨vs, eH, rk⟩ := hg d _ eG
    refine ⟨d, .dK vs, eH, trivial, fun od => ?_⟩
    have nt : NoTup (H d) := by rw [eH]; trivial
    have l1 : Le H (upd H d (.frz od (.dK vs))) := Le.wr nt
    have g1 : RG X.K (upd H d (.frz od (.dK vs))) (Mi.put G d (.lk kvs)) := hg.wr nt ⟨od, vs, upd_same, rk.le l1⟩
    have len : vs.length = kvs.length := by
      have := congrArg List.length rk.1
      simpa using this
    refine ⟨.ref d, ev, d, od, rfl, .inl ⟨vs, upd_same, ?_⟩⟩
    have back : ∀ {H' : Hp} {G' : Gp}, H' d = some (.frz od (.dK vs)) → G' d = some (.lk kvs) → RG X.K H' G' → RG X.K (upd H' d (.dK vs)) (Mi.put G' d (.dK kvs)) := fun {H' G'} e1 e2 g => by
      obtain ⟨od', vs', e3, r3⟩ := g _ _ e2
      rw [e1] at e3; cases e3
      exact RG.unlock e1 g r3
    refine ⟨fun n m σ' H' => m = kvs.length - n ∧ n ≤ kvs.length ∧ H' d = some (.frz od (.dK vs)) ∧ ∃ r' G', RS X.K H' σ' r' ∧ RG X.K H' G' ∧ Le (upd H d (.frz od (.dK vs))) H' ∧ W n r' G', ⟨kvs.length, rfl, Nat.zero_le _, upd_same, r, _, hs.le l1, g1, Le.refl _, w0⟩, ?_⟩
    rintro n m σ2 H2 ⟨rfl, hn, hd2, r2, G2, hs2, g2, l2, w2⟩
    by_cases hlt : n < kvs.length
    · refine .inr ⟨⟨hd2, by rw [len]; exact hlt⟩, fun σ' H' => (kvs.length - (n + 1)) = kvs.length - (n + 1) ∧ n + 1 ≤ kvs.length ∧ H' d = some (.frz od (.dK vs)) ∧ ∃ r' G', RS X.K H' σ' r' ∧ RG X.K H' G' ∧ Le (upd H d (.frz od (.dK vs))) H' ∧ W (n + 1) r' G', fun σ' H' z => ⟨kvs.length - (n + 1), by omega, z⟩, ?_⟩
      rintro x H3 ⟨rfl, k, v, ekv, rfl⟩
      have ek : kvs[n]?.map (·.1) = some k := by
        have := congrArg (fun l => l[n]?) rk.1
        simp only [List.getElem?_map] at this
        rw [← this, ekv]; rfl
      obtain ⟨⟨k', u⟩, ekk, ek2⟩ := Option.map_eq_some_iff.mp ek
      have ek2 : k' = k := ek2
      subst ek2
      refine ⟨kT k', r2, G2, _, ?_, hs2, g2, turn n k' u r2 G2 ekk w2, fun r4 G4 σ4 H4 k4 l4 hs4 g4 => ?_⟩
      · cases k' <;> exact rfl
      have la := l2.trans l4
      have hd4 := l4.2 _ _ _ hd2
      have fw : GivesN X.K H4 (fwd (W (n + 1))) (fun σ' H' => (kvs.length - (n + 1)) = kvs.length - (n + 1) ∧ n + 1 ≤ kvs.length ∧ H' d = some (.frz od (.dK vs)) ∧ ∃ r' G', RS X.K H' σ' r' ∧ RG X.K H' G' ∧ Le (upd H d (.frz od (.dK vs))) H' ∧ W (n + 1) r' G') := fun r5 G5 σ5 H5 ⟨r6, G6, e1, e2, w6⟩ l5 hs5 g5 =>
        ⟨rfl, hlt, l5.2 _ _ _ hd4, r6, G6, hs5.sub e1, g5.sub e2, la.trans l5, w6⟩
      refine ⟨r4, G4, _, hs4, g4, k4, fw, ?_, ?_, fw⟩
      · intro t5 G5 H5 v5 ⟨e5, k5⟩ l5 g5 r5
        have hd5 := l5.2 _ _ _ hd4
        exact ⟨hd5, f2 t5 _ _ v5 k5 (Le.unlock eH (la.trans l5)) (back hd5 e5 g5) (r5.leW (LeW.unlock hd5))⟩
      · intro r5 G5 σ5 H5 ⟨e5, k5⟩ l5 hs5 g5
        have hd5 := l5.2 _ _ _ hd4
        exact ⟨hd5, f1 r5 _ σ5 _ k5 (Le.unlock eH (la.trans l5)) (hs5.leW (LeW.unlock hd5)) (back hd5 e5 g5)⟩
    · have hn2 : n = kvs.length := by omega
      subst hn2
      exact .inl ⟨⟨hd2, by rw [len]; exact Nat.le_refl _⟩, hd2, f1 r2 _ σ2 _ (done r2 G2 w2) (Le.unlock eH l2) (hs2.leW (LeW.unlock hd2)) (back hd2 (wh _ _ _ w2) g2)⟩⟩
end
end Mi

set_option Elab.async false
set_option linter.all false
set_option maxRecDepth 100000
set_option maxHeartbeats 2000000
/-! ### lambdas that are handed on: one captured name -/
namespace Mi
open PySem PySem.Spec PyProof.Rows L2 LamX
section
variable {X : Cx} {pins : List (Addr × Obj)} {σ : L2.St} {H : Hp} {s : Shared}
theorem inv_lam {L : LamT} {c c' : Addr} {t' : Nat} {pm ctv : Value} (I : Inv X pins σ H s) :
    Inv X pins σ (upd H s.heap.objs.size (LamO s.heap.objs.size L c c')) { s with heap := s.heap.push (PySem.W.kla_obj "<lambda>" L.qual L.params L.body L.scope [(L.fv, c)] pm c' ctv), toks := t' } := by
  have e : (s.heap.push (PySem.W.kla_obj "<lambda>" L.qual L.params L.body L.scope [(L.fv, c)] pm c' ctv)).get? s.heap.objs.size = some (PySem.W.kla_obj "<lambda>" L.qual L.params L.body L.scope [(L.fv, c)] pm c' ctv) := Heap.get?_push_size _ rfl
  refine I.laid (a := s.heap.objs.size) (fun b u e => Heap.get?_push_of_some _ e) (Nat.le_refl _) ?_
  exact ⟨⟨pm, ctv, e⟩, ⟨_, e⟩, fun h1 h2 ⟨p, t, z⟩ st => ⟨p, t, st _ z⟩⟩
/-- a lambda is made; its object is known -/
theorem lam_make3 {T : List (Addr × Str)} {L : LamT} {c P cl : Addr} {pos : Pos} {E : Value → Shared → Prop} {Q : Value → Shared → Prop} (I : Inv X pins σ H s) (TB : TabB X.base X.mg c P) (hcode : X.env.code = .ref c)
    (hq : X.env.qual ++ "<lambda>" = L.qual) (hm : (P, L.qual) ∈ T) (hu : ∀ p ∈ T, p.1 = P → p.2 = L.qual) (hT : Tabs T H) (hdef : defaultsOf L.params X.env = ([], []))
    (hfree : ∀ y ∈ L.scope.names, y.2 = .free → ∃ c, X.env.cells.lookup y.1 = some c) (hcl : cloFrom X.env.cells L.scope.names [] = [(L.fv, cl)])
    (h : ∀ (f c' : Addr) (H1 : Hp) (s' : Shared), Inv X pins σ (upd H1 f (LamO f L cl c')) s' → ExtN H H1 → Tabs T H1 → H1 f = none → H1 c' = some (CodeO c' L.qual) → Q (.ref f) s') :
    wpAny (model X.prog X.w) X.A (eval (.Lambda L.params L.body L.scope pos) X.env) Q E s := by
  obtain ⟨ps, hP, ht, ha⟩ := hT _ hm
  refine PySem.W.kla_eval hdef ?_
  rw [hq]
  have bP : s.heap.BuiltinsAt X.mg P := TB.bm.keeps I.bk
  have hP' : s.heap.get? P = some { cls := .none, data := .fields ps } := I.hok P _ hP
  cases hc : codeAmong pos ps.toList with
  | none =>
    refine PySem.W.kla_makeFunction (mg := X.mg) (c := c) (P := P) (ps := ps) (closure_ok hfree) I.ok.glob (I.mod.glob.keeps I.bk) hcode (TB.code.keeps I.bk) hP' ht hc TB.gP bP fun c' ctv h' tk hx hge hlt hrec htb => ?_
    rw [hcl]
    obtain ⟨c2, oc, vs, t, e2, hoc, hd, hv⟩ := hrec
    cases e2
    have nC : H c' = none := I.hok.fresh hge
    have I1 := inv_table (t' := tk) (more := #[rawInt pos.line, rawInt pos.col, .ref c']) (h' := h') I hP (fun b o hb e => hx b o hb e) htb hge ⟨oc, vs, t, hoc, hd, hv⟩
    have hE : ExtN H (upd (upd H P (.tbl (ps ++ #[rawInt pos.line, rawInt pos.col, .ref c']))) c' (CodeO c' L.qual)) := fun b o e n => by
      rw [upd_ne (ne_of_none e nC), upd_ne (fun z => n ps (Option.some.inj (e.symm.trans (by rw [z]; exact hP))))]
      exact e
    have eL : (ps ++ #[rawInt pos.line, rawInt pos.col, .ref c']).toList = ps.toList ++ [rawInt pos.line, rawInt pos.col, .ref c'] := by simp
    refine h h'.objs.size c' _ _ (inv_lam I1) hE (fun p hp => ?_) (I1.hok.fresh (Nat.le_refl _)) upd_same
    by_cases hb : p.1 = P
    · rw [hu p hp hb, hb]
      refine ⟨_, by rw [upd_ne (ne_of_none hP nC), upd_same], by rw [eL]; exact PySem.TriplesOk_snoc _ _ _ _ ht, fun p' cv hcv => ?_⟩
      rw [eL] at hcv
      rcases among_app _ ht hcv with z | z
      · obtain ⟨c0, e1, e2⟩ := ha p' cv z
        exact ⟨c0, e1, hE _ _ e2 codeO_ne⟩
      · exact ⟨c', z, upd_same⟩
    · obtain ⟨ps', a1, a2, a3⟩ := hT p hp
      refine ⟨ps', by rw [upd_ne (ne_of_none a1 nC), upd_ne hb]; exact a1, a2, fun p' cv hcv => ?_⟩
      obtain ⟨c0, e1, e2⟩ := a3 p' cv hcv
      exact ⟨c0, e1, hE _ _ e2 codeO_ne⟩
  | some cv =>
    obtain ⟨c', e, hco⟩ := ha pos cv hc
    subst e
    refine PySem.W.kla_makeFunctionHit (mg := X.mg) (c := c) (P := P) (ps := ps) (closure_ok hfree) I.ok.glob (I.mod.glob.keeps I.bk) hcode (TB.code.keeps I.bk) hP' ht hc bP fun ctv h' tk hx hsz => ?_
    rw [hcl]
    have I1 : Inv X pins σ H { s with heap := h', toks := tk } := I.kept hx
    exact h h'.objs.size c' _ _ (inv_lam I1) (ExtN.refl H) hT (I1.hok.fresh (Nat.le_refl _)) hco
end
/-! ### the lambda called -/
def nfOf (L : LamT) (c c' : Addr) : NdefX.NF := ⟨"<lambda>", L.qual, L.params, [], L.scope, [(L.fv, c)], c'⟩
section
variable {P : Program} {w : World} {K : PySem.W.Frag} {mg : Str → Option Value} {base : Heap}
theorem lam_run {L : LamT} {f c c' : Addr} {k : Nat} {A : Around} {outer : List PySem.Env} {s : Shared} {H : Hp} {us : List Value} {vs : List V} {v : V} {u : Value} {Q : VK} {t : TE} (S : NdefX.NScope (L.ps ++ [L.fv]) L.ps [L.fv] L.scope)
    (hr : Room (k + 1) A) (e0 : Env0 P w K mg base A outer s H) (hf : H f = some (LamO f L c c')) (hc : H c' = some (CodeO c' L.qual)) (hn : H c = none) (cell : s.heap.IsCell c (some u)) (rv : RelV v u)
    (hb : ∀ (cl : List (Str × Addr)) (pm cv ctv : Value) (us : List Value), us.length = L.ps.length → bindArgs (PySem.W.kla_fn "<lambda>" L.qual L.params L.body L.scope cl pm cv ctv) ⟨us, []⟩ = pure (L.ps.zip us))
    (hl : vs.length = L.ps.length) (r : Vals vs us)
    (hbody : ∀ (A : Around) (outer : List PySem.Env) (s : Shared) (H : Hp) (E : XK), Room k (A.deeper (NdefX.envF (nfOf L c c') f s.heap.objs.size)) → PE (NdefX.ncx CX0 P w K mg base (L.ps ++ [L.fv]) (nfOf L c c') f A outer s H E) L.body t)
    (ht : t (vs.map some ++ [some v]) H Q) : codeAny (model P w) A (.call (.ref f) ⟨us, []⟩) (CR CX0 outer P w H s Q E0) s := by
  have lim : s.heap.NoLimit := e0.mod.nolimit.keeps fun b o e => (e0.bs b o e).1
  obtain ⟨⟨pm, ctv, ho⟩, _, _⟩ := e0.hok f _ hf
  obtain ⟨⟨oc, ws, tc, h1, h2, h3⟩, _, _⟩ := e0.hok c' _ hc
  refine PySem.W.kla_callFunE hr.depth ho rfl S.co S.gen rfl ⟨c', oc, ws, tc, rfl, h1, h2, h3⟩ ?_
  rw [hb _ _ _ _ us (by rw [← r.length]; exact hl)]
  refine wpAny_pure (wpAny_newFunctionEnv S.nocell (fun ⟨n, _⟩ hy => S.par n (List.of_mem_zip hy).1) (fun h₁ hns hsb => ⟨lim.fresh _ hsb, ?_⟩) S.kind)
  show codeAny _ _ (.expr L.body (NdefX.envF (nfOf L c c') f s.heap.objs.size)) _ _
  have kp : ∀ b o, s.heap.get? b = some o → h₁.get? b = some o := fun b o e => hsb.extBut b o (Nat.ne_of_lt (Heap.lt_size e)) (Heap.get?_push_of_some _ e)
  have lk : ∀ y d, ([(L.fv, c)] : List (Str × Addr)).lookup y = some d → y = L.fv ∧ d = c := fun y d e => by
    unfold List.lookup at e
    split at e
    · rename_i q
      cases e
      exact ⟨beq_iff_eq.mp q, rfl⟩
    · cases e
  have C : NdefX.CellsAt [(L.fv, c)] [L.fv] [some v] s.heap H := by
    refine ⟨rfl, fun y d e => ?_, fun x y d e1 e2 => (lk x d e1).1.trans (lk y d e2).1.symm, fun i y e => ?_⟩
    · obtain ⟨_, rfl⟩ := lk y d e
      exact ⟨hn, _, cell⟩
    · cases i with
      | zero =>
        have e : L.fv = y := by simpa using e
        subst e
        refine ⟨c, by unfold List.lookup; rw [beq_self_eq_true], fun v' e' => ?_⟩
        have e' : v = v' := by simpa using e'
        subst e'
        exact ⟨u, rv, cell⟩
      | succ i => simp at e
  have I : Inv (NdefX.ncx CX0 P w K mg base (L.ps ++ [L.fv]) (nfOf L c c') f A outer s H E0) [] (NdefX.startF (L.ps ++ [L.fv]) vs [some v]) H { s with heap := h₁, toks := s.toks + (L.ps.zip us).length } :=
    NdefX.inv_startN (F := nfOf L c c') S hr.hd e0 hl r C hns kp
  have est : NdefX.startF (L.ps ++ [L.fv]) vs [some v] = vs.map some ++ [some v] := by
    unfold NdefX.startF
    have : (L.ps ++ [L.fv]).length - vs.length - [some v].length = 0 := by rw [List.length_append, hl]; show L.ps.length + 1 - L.ps.length - 1 = 0; omega
    rw [this]
    rfl
  rw [est] at I
  refine PySem.W.kla_codeExpr (wpAny_mono ((hbody A outer s H E0 (hr.deeper _)).run [] _ _ H Q I ht) (fun v s' hq => ?_) fun e s' hq => hq)
  obtain ⟨w', H', J', rv, q⟩ := hq
  exact ⟨w', H', J'.os, J'.bare, J'.base, J'.hok, rv, q⟩
end
/-! ### a captured cell, known and forgotten -/
def noF (G : Gp) : Gp := fun a => match G a with
  | some (.fnc _ _) => none
  | x => x
theorem noF_of {G : Gp} {a : Addr} {c : C} (h : noF G a = some c) : G a = some c ∧ ∀ L w, c ≠ .fnc L w := by
  unfold noF at h
  split at h
  · cases h
  · rename_i n
    exact ⟨h, fun L w z => n L w (by rw [h, z])⟩
theorem noF_at {G : Gp} {a : Addr} {c : C} (h : G a = some c) (n : ∀ L w, c ≠ .fnc L w) : noF G a = some c := by
  unfold noF
  split
  · rename_i L w e
    rw [h] at e
    cases e
    exact absurd rfl (n L w)
  · exact h
section
variable {K : PySem.W.Frag} {H : Hp} {G : Gp} {c f : Addr} {o : Obj}
theorem Le.drop (hc : H c = some (.frz o (.own f))) : Le H (delH H c) := by
  have ne : ∀ {b : Addr} {x : HO}, H b = some x → x ≠ .frz o (.own f) → b ≠ c := fun {b x} e n z => by
    rw [z, hc] at e
    cases e
    exact n rfl
  refine ⟨⟨fun b xs e => ?_, fun b u xs e => ?_, fun b u xs e => ?_⟩, fun b u xs e => ?_⟩ <;> (rw [delH_ne (ne e (fun z => nomatch z))]; exact e)
theorem RG.drop (g : RG K H G) (hc : H c = some (.frz o (.own f))) : RG K (delH H c) (noF G) := fun a x e => by
  obtain ⟨e, n⟩ := noF_of e
  have l := Le.drop hc
  have ne : ∀ {b : Addr} {x : HO}, H b = some x → x ≠ .frz o (.own f) → b ≠ c := fun {b x} e n z => by
    rw [z, hc] at e
    cases e
    exact n rfl
  have h := g a x e
  cases x with
  | lst ts => obtain ⟨vs, e, r⟩ := h; exact ⟨vs, by rw [delH_ne (ne e (fun z => nomatch z))]; exact e, r.le l⟩
  | dK kvs => obtain ⟨vs, e, r⟩ := h; exact ⟨vs, by rw [delH_ne (ne e (fun z => nomatch z))]; exact e, r.le l⟩
  | dT kvs => obtain ⟨vs, e, r⟩ := h; exact ⟨vs, by rw [delH_ne (ne e (fun z => nomatch z))]; exact e, r.le l⟩
  | tab q =>
    obtain ⟨ps, h1, h2, h3⟩ := h
    refine ⟨ps, by rw [delH_ne (ne h1 (fun z => nomatch z))]; exact h1, h2, fun pos cv hv => ?_⟩
    obtain ⟨d, e1, e2⟩ := h3 pos cv hv
    exact ⟨d, e1, by rw [delH_ne (ne e2 (fun z => by unfold CodeO at z; cases z))]; exact e2⟩
  | lk kvs => obtain ⟨od, vs, e, r⟩ := h; exact ⟨od, vs, by rw [delH_ne (ne e (fun z => by cases z))]; exact e, r.le l⟩
  | ins C fs => obtain ⟨dx, vs, e, r⟩ := h; exact ⟨dx, vs, by rw [delH_ne (ne e (fun z => nomatch z))]; exact e, r.le l⟩
  | fnc L w => exact absurd rfl (n L w)
  | fnp L d =>
    obtain ⟨c', h1, h2⟩ := h
    exact ⟨c', by rw [delH_ne (ne h1 (fun z => nomatch z))]; exact h1, by rw [delH_ne (ne h2 (fun z => by unfold CodeO at z; cases z))]; exact h2⟩
end
section
variable {P : Program} {w : World} {K : PySem.W.Frag} {mg : Str → Option Value} {base : Heap} {A : Around} {outer : List PySem.Env} {s : Shared} {H : Hp} {c f : Addr} {o : Obj}
theorem hok_del {h : Heap} (x : HOk P w H h) (hc : H c = some (.frz o (.own f))) : HOk P w (delH H c) h := fun b u e => by
  by_cases hb : b = c
  · rw [hb, delH_same] at e; cases e
  · rw [delH_ne hb] at e
    refine (x b u e).stay (fun _ _ _ q => q) (fun d q => ?_) fun d xs q => ?_
    · rw [delH_ne (fun z => by rw [z, hc] at q; cases q)]; exact q
    · rw [delH_ne (fun z => by rw [z, hc] at q; cases q)]; exact q
theorem hok_frz {h : Heap} (x : HOk P w H h) (hn : H c = none) (ho : h.get? c = some o) : HOk P w (upd H c (.frz o (.own f))) h := x.laidN (fun _ _ q => q) hn ⟨ho, o, ho⟩
theorem env0_frz (e0 : Env0 P w K mg base A outer s H) (hn : H c = none) (ho : s.heap.get? c = some o) (hb : ∀ o, base.get? c ≠ some o) (hf : c ∉ frs outer) : Env0 P w K mg base A outer s (upd H c (.frz o (.own f))) :=
  ⟨e0.frames, e0.mod, fun b u e => ⟨(e0.bs b u e).1, by rw [upd_ne (fun z => hb u (by rw [← z]; exact e))]; exact (e0.bs b u e).2⟩, e0.bsz, e0.funs, fun b q => by rw [upd_ne (fun z => hf (by rw [← z]; exact q))]; exact e0.frf b q, hok_frz e0.hok hn ho, e0.bare⟩
theorem env0_del (e0 : Env0 P w K mg base A outer s H) (hc : H c = some (.frz o (.own f))) : Env0 P w K mg base A outer s (delH H c) := by
  have del : ∀ {b : Addr}, H b = none → delH H c b = none := fun {b} e => by
    by_cases hb : b = c
    · rw [hb, delH_same]
    · rw [delH_ne hb]; exact e
  exact ⟨e0.frames, e0.mod, fun b u e => ⟨(e0.bs b u e).1, del (e0.bs b u e).2⟩, e0.bsz, e0.funs, fun b q => del (e0.frf b q), hok_del e0.hok hc, e0.bare⟩
/-- a call with the cell known; behind it, the cell is forgotten -/
theorem ce_frz {Q Q' : VK} {u : Value} {s' : Shared} (hn : H c = none) (ho : s.heap.get? c = some o) (hf : c ∉ frs outer) (h : CE outer P w (upd H c (.frz o (.own f))) s Q u s')
    (k : ∀ v H2, Q v H2 → H2 c = some (.frz o (.own f)) → Q' v (delH H2 c)) : CE outer P w H s Q' u s' := by
  obtain ⟨v, H2, os, bare, un, hok, r, q⟩ := h
  have hc2 : H2 c = some (.frz o (.own f)) := un.frzs c _ _ upd_same
  have ho2 : s'.heap.get? c = some o := (hok c _ hc2).1
  refine ⟨v, delH H2 c, os, bare, ⟨fun b x e n hb hx => ?_, fun b x e n hb hx => ?_, fun b x e n hx => ?_, un.there, fun b xs e => ?_, fun b x y e => ?_, fun b ps e => ?_⟩, hok_del hok hc2, r, k v H2 q hc2⟩
  · by_cases hbc : b = c
    · rw [hbc, ho] at e; cases e; rw [hbc]; exact ho2
    · exact un.keep b x e (by rw [upd_ne hbc]; exact n) hb hx
  · exact un.slot b x e (by rw [upd_ne (fun z => hf (by rw [← z]; exact hb))]; exact n) hb hx
  · by_cases hbc : b = c
    · rw [hbc]; exact delH_same
    · rw [delH_ne hbc]; exact un.free b x e (by rw [upd_ne hbc]; exact n) hx
  · have hbc : b ≠ c := fun z => by rw [z, hn] at e; cases e
    rw [delH_ne hbc]; exact un.tups b xs (by rw [upd_ne hbc]; exact e)
  · have hbc : b ≠ c := fun z => by rw [z, hn] at e; cases e
    rw [delH_ne hbc]; exact un.frzs b x y (by rw [upd_ne hbc]; exact e)
  · have hbc : b ≠ c := fun z => by rw [z, hn] at e; cases e
    rw [delH_ne hbc]; exact un.tbls b ps (by rw [upd_ne hbc]; exact e)
/-- a call with the cell forgotten; behind it, it is known again -/
theorem ce_del {Q Q' : VK} {u : Value} {s' : Shared} (hc : H c = some (.frz o (.own f))) (ho : s.heap.get? c = some o) (hf : c ∉ frs outer) (h : CE outer P w (delH H c) s Q u s')
    (k : ∀ v H2, Q v H2 → H2 c = none → Q' v (upd H2 c (.frz o (.own f)))) : CE outer P w H s Q' u s' := by
  obtain ⟨v, H2, os, bare, un, hok, r, q⟩ := h
  have hc2 : H2 c = none := un.free c o ho delH_same (by simp)
  have ho2 : s'.heap.get? c = some o := un.keep c o ho delH_same hf (by simp)
  have ne : ∀ {b : Addr}, H b = none → b ≠ c := fun {b} e z => by rw [z, hc] at e; cases e
  refine ⟨v, upd H2 c (.frz o (.own f)), os, bare, ⟨fun b x e n hb hx => ?_, fun b x e n hb hx => ?_, fun b x e n hx => ?_, un.there, fun b xs e => ?_, fun b x y e => ?_, fun b ps e => ?_⟩, hok_frz hok hc2 ho2, r, k v H2 q hc2⟩
  · exact un.keep b x e (by rw [delH_ne (ne n)]; exact n) hb hx
  · exact un.slot b x e (by rw [delH_ne (ne n)]; exact n) hb hx
  · rw [upd_ne (ne n)]; exact un.free b x e (by rw [delH_ne (ne n)]; exact n) hx
  · have hbc : b ≠ c := fun z => by rw [z, hc] at e; cases e
    rw [upd_ne hbc]; exact un.tups b xs (by rw [delH_ne hbc]; exact e)
  · by_cases hbc : b = c
    · rw [hbc] at e ⊢
      rw [hc] at e; cases e
      exact upd_same
    · rw [upd_ne hbc]; exact un.frzs b x y (by rw [delH_ne hbc]; exact e)
  · have hbc : b ≠ c := fun z => by rw [z, hc] at e; cases e
    rw [upd_ne hbc]; exact un.tbls b ps (by rw [delH_ne hbc]; exact e)
end
/-! ### a local name that holds a def or a lambda is called -/
/-- what a lambda does -/
structure LamOk (P : Program) (w : World) (K : PySem.W.Frag) (mg : Str → Option Value) (base : Heap) (k : Nat) (L : LamT) (mb : ME) : Prop where
  scope : NdefX.NScope (L.ps ++ [L.fv]) L.ps [L.fv] L.scope
  bind : ∀ (cl : List (Str × Addr)) (pm cv ctv : Value) (us : List Value), us.length = L.ps.length → bindArgs (PySem.W.kla_fn "<lambda>" L.qual L.params L.body L.scope cl pm cv ctv) ⟨us, []⟩ = pure (L.ps.zip us)
  body : ∀ (f c c' : Addr) (A : Around) (outer : List PySem.Env) (s : Shared) (H : Hp) (E : XK), Room k (A.deeper (NdefX.envF (nfOf L c c') f s.heap.objs.size)) → OE (NdefX.ncx CX0 P w K mg base (L.ps ++ [L.fv]) (nfOf L c c') f A outer s H E) L.body mb
def mCallV [Tb] (i : Nat) (S : List (Str × Sm)) (Ls : List (LamT × ME)) (mas : MA) : ME := fun r G R =>
  (∃ nm sp, r[i]? = some (some (.ref (Tb.gf nm))) ∧ (nm, sp) ∈ S ∧ mas r G fun ts G1 => sp ts G1 R) ∨
  (∃ f L mb w, r[i]? = some (some (.ref f)) ∧ (L, mb) ∈ Ls ∧ G f = some (.fnc L w) ∧ mas r G fun ts G1 => G1 f = some (.fnc L w) ∧ ts.length = L.ps.length ∧ ∀ c, mb (ts.map some ++ [some w]) (Mi.put (noF G1) f (.fnp L c)) fun t G2 => G2 f = some (.fnp L c) ∧ R t (Mi.put G2 f (.fnc L w)))
structure DefOk [Tb] (P : Program) (w : World) (K : PySem.W.Frag) (mg : Str → Option Value) (base : Heap) (k : Nat) (nm : Str) (sp : Sm) : Prop where
  ex : ∃ (f : Addr) (fd : FuncData) (ps : List Str), f = Tb.gf nm ∧ FnOk P w K mg base CX0 k f fd ps (liM K sp) ∧ PySem.W.keepIn K (.ref f) = true ∧ Binds K fd ps []
section
variable [Tb] {X : Cx} {k i : Nat} {x : Str} {p pos : Pos} {e : Expr} {es : List Expr} {mas : MA} {S : List (Str × Sm)} {Ls : List (LamT × ME)}
theorem o_callV (hS : ∀ nm sp, (nm, sp) ∈ S → DefOk X.prog X.w X.K X.mg X.base k nm sp) (hL : ∀ L mb, (L, mb) ∈ Ls → ∃ k', k = k' + 1 ∧ LamOk X.prog X.w X.K X.mg X.base k' L mb) (hr : Room k X.A) (hv : PE X (.Name x p) (fun σ H Q => ∃ v, σ[i]? = some (some v) ∧ Q v H))
    (ha : OA X (e :: es) mas)
    (he : starEach (e :: es) X.env = (false, eval e X.env) :: starEach es X.env := by rfl) (hpl : (backTo pos (starEach es X.env)).any (·.1) = false := by rfl) : OE X (.Call (.Name x p) (e :: es) [] pos) (mCallV i S Ls mas) := by
  refine ⟨⟨fun pins s σ H Q I h => ?_⟩⟩
  obtain ⟨r, G, R, hs, hg, h, hR⟩ := h
  rcases h with ⟨nm, sp, hi, hm, h⟩ | ⟨f, L, mb, w, hi, hm, hf, h⟩
  · obtain ⟨v, hv1, rfl⟩ := hs.2 i _ hi
    obtain ⟨a, fd, ps, ha0, F, hk, hb⟩ := (hS nm sp hm).ex
    rw [← ha0] at hv1
    refine wpAny_Call_Name_kw (thn (hv.run pins s σ H (fun v H1 => v = .ref a ∧ H1 = H) I ⟨.ref a, hv1, rfl, rfl⟩) fun u s1 ⟨v, H1, I1, r1, q1⟩ => ?_)
    obtain ⟨rfl, rfl⟩ := q1
    cases r1
    refine PySem.W.callWith_K (h₀ := X.base) I.ok.mod.kin hk (thn (ha.ok.run pos pins s1 σ _ (fun vs H1 => liM X.K sp (vs ++ []) H1 Q E0) I1 ⟨r, G, _, hs, hg, h, fun ts G1 H2 vs k1 l1 g1 r1 => ⟨ts, G1, R, by rw [List.append_nil]; exact r1, g1, k1, hR.le l1⟩⟩) fun us s2 ⟨vs, H2, I2, rr, q⟩ => ⟨I2.kIn, ?_⟩) he hpl
    exact run_fn (E := E0) F hr hb .nil pass0 I2 rr q
  · obtain ⟨v, hv1, rfl⟩ := hs.2 i _ hi
    obtain ⟨k', ek, O⟩ := hL L mb hm
    subst ek
    refine wpAny_Call_Name_kw (thn (hv.run pins s σ H (fun v H1 => v = .ref f ∧ H1 = H) I ⟨.ref f, hv1, rfl, rfl⟩) fun u s1 ⟨v, H1, I1, r1, q1⟩ => ?_)
    obtain ⟨rfl, rfl⟩ := q1
    cases r1
    obtain ⟨c, c', o, u, v, h1, h2, h3, h4, h5, h6⟩ := hg _ _ hf
    have fnAt : ∀ {s2 : Shared} {H2 : Hp} {c c' : Addr}, Inv X pins σ H2 s2 → H2 f = some (LamO f L c c') → PySem.W.FnAt f s2.heap := fun {s2 H2 c c'} I2 q => by
      obtain ⟨⟨pm, ctv, z⟩, _, _⟩ := I2.hok f _ q
      exact ⟨_, _, _, _, z⟩
    refine PySem.W.callWith_F (first := []) (fnAt I1 h1) (thn (ha.ok.run pos pins s1 σ _ (fun vs H2 => ∃ ts G1, Rps X.K H2 vs ts ∧ RG X.K H2 G1 ∧ Gives X.K H2 R Q ∧ G1 f = some (.fnc L w) ∧ ts.length = L.ps.length ∧ ∀ c, mb (ts.map some ++ [some w]) (Mi.put (noF G1) f (.fnp L c)) fun t G2 => G2 f = some (.fnp L c) ∧ R t (Mi.put G2 f (.fnc L w))) I1 ⟨r, G, _, hs, hg, h, fun ts G1 H2 vs k1 l1 g1 r1 => ⟨ts, G1, r1, g1, hR.le l1, k1⟩⟩) fun us s2 ⟨vs, H2, I2, rr, q⟩ => ?_) he hpl
    obtain ⟨ts, G1, rts, g1, hR1, hf1, hl, hmb⟩ := q
    obtain ⟨c, c', o, u, v, h1, h2, h3, h4, h5, h6⟩ := g1 _ _ hf1
    refine ⟨fnAt I2 h1, ?_⟩
    show wpAny _ _ (call (.ref f) us) _ _ _
    have ho : s2.heap.get? c = some o := (I2.hok c _ h3).1
    have hfr : c ∉ frs X.stack := fun z => by have q := I2.env0.frf c z; rw [h3] at q; cases q
    have l3 := Le.drop h3
    have ne1 : f ≠ c := fun z => by rw [z, h3] at h1; unfold LamO at h1; cases h1
    have ne2 : c' ≠ c := fun z => by rw [z, h3] at h2; unfold CodeO at h2; cases h2
    have h1d : delH H2 c f = some (LamO f L c c') := by rw [delH_ne ne1]; exact h1
    have h2d : delH H2 c c' = some (CodeO c' L.qual) := by rw [delH_ne ne2]; exact h2
    have g3 : RG X.K (delH H2 c) (Mi.put (noF G1) f (.fnp L c)) := fun a x e => by
      by_cases hb : a = f
      · rw [hb, put_same] at e; cases e
        rw [hb]; exact ⟨c', h1d, h2d⟩
      · rw [put_ne hb] at e
        exact g1.drop h3 a x e
    have rs : RS X.K (delH H2 c) (vs.map some ++ [some v]) (ts.map some ++ [some w]) := by
      refine ⟨by simp [rts.length], fun j t e => ?_⟩
      by_cases hj : j < ts.length
      · rw [List.getElem?_append_left (by simpa using hj), List.getElem?_map] at e
        cases e0 : ts[j]? with
        | none => rw [e0] at e; cases e
        | some y =>
          rw [e0] at e; cases e
          obtain ⟨v1, hv, r⟩ := rts.get e0
          exact ⟨v1, by rw [List.getElem?_append_left (by simpa [rts.length] using hj), List.getElem?_map, hv]; rfl, r.le l3⟩
      · rw [List.getElem?_append_right (by simpa using Nat.le_of_not_lt hj), List.length_map] at e
        rw [List.getElem?_append_right (by simpa [rts.length] using Nat.le_of_not_lt hj), List.length_map, rts.length]
        cases hz : j - ts.length with
        | zero => rw [hz] at e; cases e; exact ⟨v, rfl, h6.le l3⟩
        | succ n => rw [hz] at e; simp at e
    have rc := lam_run (f := f) (c := c) (c' := c') (us := us) (vs := vs) (v := v) (u := u) (Q := fun v2 H4 => ∃ t G2, (G2 f = some (.fnp L c) ∧ R t (Mi.put G2 f (.fnc L w))) ∧ RG X.K H4 G2 ∧ Rp X.K H4 v2 t ∧ Rp X.K H4 v w ∧ Le (delH H2 c) H4) (t := liE X.K mb) O.scope hr (env0_del I2.env0 h3) h1d h2d delH_same ⟨o, ho, h4⟩ h5 O.bind (by rw [rts.length]; exact hl) rr (fun A outer s H E hr => (O.body f c c' A outer s H E hr).ok)
      ⟨_, _, _, rs, g3, hmb c, fun t G2 H4 v2 k2 l4 g4 r4 => ⟨t, G2, k2, g4, r4, (h6.le l3).le l4, l4⟩⟩
    refine wpAny_call (codeAny_mono rc fun rz s' hq => ?_)
    cases rz with
    | error e => exact (pass0 pins σ H2 s2 e s' I2 hq)
    | ok fl =>
      cases fl with
      | ret u2 =>
        refine I2.after (ce_del h3 ho hfr hq fun v2 H4 ⟨t, G2, ⟨e2, kR⟩, g4, r4, rv4, l4⟩ n4 => ?_)
        have l5 : Le H4 (upd H4 c (.frz o (.own f))) := Le.new n4
        refine hR1 t _ _ v2 kR ?_ (fun a x e => ?_) (r4.le l5)
        · exact (l3.trans l4).trans l5
        · by_cases hb : a = f
          · rw [hb, put_same] at e; cases e
            obtain ⟨d', q1, q2⟩ := g4 _ _ e2
            have n1 : f ≠ c := ne1
            have n2 : d' ≠ c := fun z => by rw [z, n4] at q2; cases q2
            rw [hb]
            exact ⟨c, d', o, u, v, by rw [upd_ne n1]; exact q1, by rw [upd_ne n2]; exact q2, upd_same, h4, h5, rv4.le l5⟩
          · rw [put_ne hb] at e
            have hac : a ≠ c := fun z => by
              obtain ⟨y, hy, _⟩ := (g4 a x e).there
              rw [z, n4] at hy; cases hy
            exact (g4 a x e).wr (by rw [n4]; trivial) hac
      | next => exact False.elim hq
      | brk => exact False.elim hq
      | cont => exact False.elim hq
end
/-! ### a def of the module as a value -/
def mGf [Tb] (nm : Str) : ME := fun r G R => R (.ref (Tb.gf nm)) G
section
variable [Tb] {X : Cx} {x : Str} {p : Pos} {f : Addr}
theorem o_gf (hg : Gl X x) (hm : X.mg x = some (.ref f)) (hn : f = Tb.gf x) (hdb : (x == ("__debug__" : Str)) = false := by decide) : OE X (.Name x p) (mGf x) :=
  ⟨⟨fun pins s σ H Q I ⟨r, G, R, hs, hg', h, hR⟩ => ld_glob I hg hm ⟨.ref f, H, I, rfl, hR _ _ _ _ h (Le.refl H) hg' (by rw [hn]; rfl)⟩ hdb⟩⟩
end
/-! ### a def of the module called with a lambda -/
def cellA (X : Cx) (x : Str) : Addr := (X.env.cells.lookup x).getD 0
def tLamE (X : Cx) (L : LamT) (P : Addr) : TE := fun σ H Q => ∀ n : Nat, (∀ b, H b ≠ none → b < n) → ∃ Ts : List (Addr × Str), (P, L.qual) ∈ Ts ∧ (∀ p ∈ Ts, p.1 = P → p.2 = L.qual) ∧ Tabs Ts H ∧
  ∀ (f c' : Addr) (H1 : Hp), ExtN H H1 → Tabs Ts H1 → H1 f = none → H1 c' = some (CodeO c' L.qual) → Q (.ref f) (upd H1 f (LamO f L (cellA X L.fv) c'))
section
variable {X : Cx}
theorem pe_lamE {L : LamT} {c P : Addr} {pos : Pos} (TB : TabB X.base X.mg c P) (hcode : X.env.code = .ref c) (hq : X.env.qual ++ "<lambda>" = L.qual) (hdef : defaultsOf L.params X.env = ([], []))
    (hfree : ∀ y ∈ L.scope.names, y.2 = .free → X.env.scope.names.lookup y.1 = some .cell) (hcl : cloFrom X.env.cells L.scope.names [] = [(L.fv, cellA X L.fv)]) :
    PE X (.Lambda L.params L.body L.scope pos) (tLamE X L P) := by
  refine ⟨fun pins s σ H Q I h => ?_⟩
  obtain ⟨Ts, tP, tu, hT, q⟩ := h s.heap.objs.size fun b hb => Nat.lt_of_not_le fun z => hb (I.hok.fresh z)
  refine lam_make3 I TB hcode hq tP tu hT hdef (fun y hy e => I.ok.has _ (.inl (hfree y hy e))) hcl fun f c' H1 s' I1 eN T1 hf hc => ?_
  exact ⟨.ref f, _, I1, rfl, q f c' H1 eN T1 hf hc⟩
def tCallLam (X : Cx) (L : LamT) (i : Nat) (sp : Sp) (t : TA) : TE := fun σ H Q => t σ H fun vs H1 => ∃ f c' v, H1 f = some (LamO f L (cellA X L.fv) c') ∧ H1 c' = some (CodeO c' L.qual) ∧ σ[i]? = some (some v) ∧
  ∀ (o : Obj) (u : Value), o.data = .cell (some u) → RelV v u → H1 (cellA X L.fv) = none → sp vs (upd H1 (cellA X L.fv) (.frz o (.own f))) (fun y H2 => H2 (cellA X L.fv) = some (.frz o (.own f)) → Q y (delH H2 (cellA X L.fv))) E0
theorem pe_callLam {L : LamT} {k i : Nat} {f : Addr} {fd : FuncData} {ps : List Str} {sp : Sp} {x : Str} {p pos : Pos} {e : Expr} {es : List Expr} {t : TA} (F : FnOk X.prog X.w X.K X.mg X.base CX0 k f fd ps sp) (hr : Room k X.A) (hg : Gl X x) (hm : X.mg x = some (.ref f)) (hk : PySem.W.keepIn X.K (.ref f) = true) (hb : Binds X.K fd ps [])
    (hN : X.N[i]? = some L.fv) (hv : X.env.scope.names.lookup L.fv = some .cell) (hfn : X.fn L.fv = true)
    (ha : PA X (e :: es) t) (hdb : (x == ("__debug__" : Str)) = false := by decide) (he : starEach (e :: es) X.env = (false, eval e X.env) :: starEach es X.env := by rfl) (hpl : (backTo pos (starEach es X.env)).any (·.1) = false := by rfl) :
    PE X (.Call (.Name x p) (e :: es) [] pos) (tCallLam X L i sp t) := by
  refine ⟨fun pins s σ H Q I h => ?_⟩
  refine wpAny_Call_Name_kw (ld_glob I hg hm ?_ hdb)
  refine PySem.W.callWith_K (h₀ := X.base) I.ok.mod.kin hk (thn (ha.run pos pins s σ H _ I h) fun us s1 ⟨vs, H1, I1, r, q⟩ => ⟨I1.kIn, ?_⟩) he hpl
  obtain ⟨fl, c', v, h1, h2, hs, q⟩ := q
  obtain ⟨m, hn, hl⟩ := I1.loc
  obtain ⟨u, rv, lk⟩ := hl i L.fv v hN hs (.inr (.inl hv))
  obtain ⟨c, hc, o, ho, hd⟩ : ∃ c, X.env.cells.lookup L.fv = some c ∧ s1.heap.IsCell c (some u) := by
    rcases lk with ⟨z, _⟩ | ⟨_, c, e1, e2⟩
    · have z : X.env.scope.names.lookup L.fv = some .local := z
      rw [hv] at z; cases z
    · exact ⟨c, e1, e2⟩
  have ec : cellA X L.fv = c := by unfold cellA; rw [hc]; rfl
  rw [ec] at h1 q
  have n1 : H1 c = none := I1.freeC _ _ hc
  have low : X.s_0.heap.objs.size ≤ c := I1.ok.cab _ _ hfn hc
  have nb : ∀ o, X.base.get? c ≠ some o := fun o z => by
    have := Heap.lt_size z
    exact absurd (Nat.lt_of_lt_of_le this I1.ok.bsz) (Nat.not_lt.mpr low)
  have nf : c ∉ frs X.stack := fun z => by
    rcases List.mem_cons.mp (I1.stkSub _ z) with z | z
    · obtain ⟨ob, es', ep, g1, g2, _⟩ := hn
      rw [← z, ho] at g1
      cases g1
      rw [hd] at g2
      cases g2
    · obtain ⟨_, ob, g1, _⟩ := I1.ok.funs.mem z
      exact absurd (Heap.lt_size g1) (Nat.not_lt.mpr low)
  have sp1 := q o u hd rv n1
  have hlen : us.length = ps.length := by rw [← r.length]; exact F.len _ _ _ _ sp1
  have e0 := env0_frz (f := fl) I1.env0 n1 ho nb nf
  have bd := hb s1 us I1.kIn (by rw [List.append_nil]; exact hlen)
  rw [List.append_nil] at bd
  show wpAny _ _ (call (.ref f) us) _ _ _
  refine wpAny_call (codeAny_mono (F.run X.A X.stack s1 _ ⟨us, []⟩ us vs _ E0 hr e0 bd r sp1) fun rz s' hq => ?_)
  cases rz with
  | error e => exact (pass0 pins σ H1 s1 e s' I1 hq)
  | ok fl =>
    cases fl with
    | ret u2 => exact I1.after (ce_frz n1 ho nf hq fun v2 H2 k2 e2 => k2 e2)
    | next => exact False.elim hq
    | brk => exact False.elim hq
    | cont => exact False.elim hq
/-- g(a, b, lambda ..) -/
def mCallLam2 (P : Addr) (L : LamT) (i : Nat) (sp : Sm) (m1 m2 : ME) : ME := fun r G R => m1 r G fun t1 G1 => m2 r G1 fun t2 G2 => G2 P = some (.tab L.qual) ∧ ∃ w, r[i]? = some (some w) ∧
  ∀ f, G2 f = none → sp [t1, t2, .ref f] (Mi.put G2 f (.fnc L w)) fun t G3 => R t (noF G3)
/-- g(a, lambda ..) -/
def mCallLam1 (P : Addr) (L : LamT) (i : Nat) (sp : Sm) (m1 : ME) : ME := fun r G R => m1 r G fun t1 G2 => G2 P = some (.tab L.qual) ∧ ∃ w, r[i]? = some (some w) ∧
  ∀ f, G2 f = none → sp [t1, .ref f] (Mi.put G2 f (.fnc L w)) fun t G3 => R t (noF G3)
/-- the lambda, then the call: the mirror's side -/
theorem lam_li {L : LamT} {P : Addr} {i : Nat} {sp : Sm} {K : PySem.W.Frag} (hK : K = X.K) {r : Env} {G : Gp} {R : KT} {σ : L2.St} {H H0 : Hp} {Q : VK} {xs : List V} {ts : List T} (hs : RS K H σ r) (hg : RG K H G) (hx : Rps K H xs ts) (hR : Gives K H R Q) (tab : G P = some (.tab L.qual)) {w : T} (hi : r[i]? = some (some w))
    (h : ∀ f, G f = none → sp (ts ++ [.ref f]) (Mi.put G f (.fnc L w)) fun t G3 => R t (noF G3)) :
    tLamE X L P σ H fun y H1 => ∃ f c' v, H1 f = some (LamO f L (cellA X L.fv) c') ∧ H1 c' = some (CodeO c' L.qual) ∧ σ[i]? = some (some v) ∧
      ∀ (o : Obj) (u : Value), o.data = .cell (some u) → RelV v u → H1 (cellA X L.fv) = none → liM K sp (xs ++ [y]) (upd H1 (cellA X L.fv) (.frz o (.own f))) (fun y H2 => H2 (cellA X L.fv) = some (.frz o (.own f)) → Q y (delH H2 (cellA X L.fv))) E0 := by
  have cells : ∀ b q', G b = some (.tab q') → TabS H b q' := fun b q' h => hg _ _ h
  intro n hn
  refine ⟨(List.range n).filterMap fun b => match G b with | some (.tab q') => some (b, q') | _ => none, ?_, ?_, ?_, fun f c' H1 ex hT hf hc => ?_⟩
  · obtain ⟨ps, hP, _⟩ := cells _ _ tab
    refine List.mem_filterMap.mpr ⟨P, List.mem_range.mpr (hn P (by rw [hP]; exact nofun)), ?_⟩
    rw [tab]
  · intro p hp e
    obtain ⟨b, _, hb⟩ := List.mem_filterMap.mp hp
    split at hb
    · rename_i q' h'
      cases hb
      have e : b = P := e
      rw [e, tab] at h'
      cases h'
      rfl
    · cases hb
  · intro p hp
    obtain ⟨b, _, hb⟩ := List.mem_filterMap.mp hp
    split at hb
    · rename_i q' h'
      cases hb
      exact cells _ _ h'
    · cases hb
  · have g1 : RG K H1 G := hg.extN ex hT fun b q' h => by
      obtain ⟨ps, hb, _⟩ := cells _ _ h
      refine List.mem_filterMap.mpr ⟨b, List.mem_range.mpr (hn b (by rw [hb]; exact nofun)), ?_⟩
      rw [h]
    have l1 := Le.extN ex
    have l2 : Le H1 (upd H1 f (LamO f L (cellA X L.fv) c')) := Le.new hf
    have n2 : c' ≠ f := fun z => by rw [z, hf] at hc; cases hc
    have hc2 : upd H1 f (LamO f L (cellA X L.fv) c') c' = some (CodeO c' L.qual) := by rw [upd_ne n2]; exact hc
    obtain ⟨v, hv, rw'⟩ := hs.2 i w hi
    refine ⟨f, c', v, upd_same, hc2, hv, fun o u hd rv nc => ?_⟩
    have ncc : c' ≠ cellA X L.fv := fun z => nomatch (hc2.symm.trans ((congrArg (upd H1 f (LamO f L (cellA X L.fv) c')) z).trans nc))
    have ncf : f ≠ cellA X L.fv := fun z => by rw [← z, upd_same] at nc; cases nc
    have l3 : Le (upd H1 f (LamO f L (cellA X L.fv) c')) (upd (upd H1 f (LamO f L (cellA X L.fv) c')) (cellA X L.fv) (.frz o (.own f))) := Le.new nc
    have lx := (l1.trans l2).trans l3
    have gf : G f = none := g1.fresh hf
    have g3 : RG K (upd (upd H1 f (LamO f L (cellA X L.fv) c')) (cellA X L.fv) (.frz o (.own f))) (Mi.put G f (.fnc L w)) := fun a x e => by
      by_cases hb : a = f
      · rw [hb, put_same] at e; cases e
        rw [hb]
        exact ⟨cellA X L.fv, c', o, u, v, by rw [upd_ne ncf]; exact upd_same, by rw [upd_ne ncc]; exact hc2, upd_same, hd, rv, rw'.le lx⟩
      · rw [put_ne hb] at e
        obtain ⟨y, hy, _⟩ := (g1 a x e).there
        have h2 := (g1 a x e).wr (o := LamO f L (cellA X L.fv) c') (by rw [hf]; trivial) hb
        refine h2.wr (by rw [nc]; trivial) fun z => ?_
        obtain ⟨y2, hy2, _⟩ := h2.there
        rw [z, nc] at hy2; cases hy2
    refine ⟨ts ++ [.ref f], _, _, (hx.le lx).append (Rps.one (t := .ref f) rfl), g3, h f gf, fun t G' H' v' k4 l4 g4 r4 e4 => ?_⟩
    have l5 := Le.drop e4
    exact hR t _ _ _ k4 ((lx.trans l4).trans l5) (g4.drop e4) (r4.le l5)
theorem o_callLam2 {L : LamT} {k i : Nat} {f c P : Addr} {fd : FuncData} {ps : List Str} {sp : Sm} {x : Str} {p pos lp : Pos} {e1 e2 : Expr} {m1 m2 : ME} (F : FnOk X.prog X.w X.K X.mg X.base CX0 k f fd ps (liM X.K sp)) (hr : Room k X.A) (hg : Gl X x) (hm : X.mg x = some (.ref f)) (hk : PySem.W.keepIn X.K (.ref f) = true) (hb : Binds X.K fd ps [])
    (hN : X.N[i]? = some L.fv) (hv : X.env.scope.names.lookup L.fv = some .cell) (hfn : X.fn L.fv = true)
    (TB : TabB X.base X.mg c P) (hcode : X.env.code = .ref c) (hq : X.env.qual ++ "<lambda>" = L.qual) (hdef : defaultsOf L.params X.env = ([], []))
    (hfree : ∀ y ∈ L.scope.names, y.2 = .free → X.env.scope.names.lookup y.1 = some .cell) (hcl : cloFrom X.env.cells L.scope.names [] = [(L.fv, cellA X L.fv)]) (ha : OE X e1 m1) (hb2 : OE X e2 m2)
    (hdb : (x == ("__debug__" : Str)) = false := by decide) (h1 : starEach [e1, e2, .Lambda L.params L.body L.scope lp] X.env = (false, eval e1 X.env) :: starEach [e2, .Lambda L.params L.body L.scope lp] X.env := by rfl) (h2 : starEach [e2, .Lambda L.params L.body L.scope lp] X.env = (false, eval e2 X.env) :: starEach [.Lambda L.params L.body L.scope lp] X.env := by rfl)
    (hpl : (backTo pos (starEach [e2, .Lambda L.params L.body L.scope lp] X.env)).any (·.1) = false := by rfl) :
    OE X (.Call (.Name x p) [e1, e2, .Lambda L.params L.body L.scope lp] [] pos) (mCallLam2 P L i sp m1 m2) :=
  ⟨(pe_callLam (L := L) (i := i) F hr hg hm hk hb hN hv hfn (pa_cons ha.ok (pa_cons hb2.ok (pa_cons (pe_lamE (P := P) TB hcode hq hdef hfree hcl) pa_nil rfl) h2) h1) hdb h1 hpl).imp fun σ H Q qq => by
    obtain ⟨r, G, R, hs, hg', h, hR⟩ := qq
    refine ⟨r, G, _, hs, hg', h, fun t1 G1 H1 v1 k1 l1 g1 r1 => ?_⟩
    refine ⟨r, G1, _, hs.le l1, g1, k1, fun t2 G2 H2 v2 k2 l2 g2 r2 => ?_⟩
    obtain ⟨tab, w, hi, k3⟩ := k2
    exact lam_li (X := X) (H0 := H2) rfl ((hs.le l1).le l2) g2 (Rps.two (r1.le l2) r2) ((hR.le l1).le l2) tab hi k3⟩
theorem o_callLam1 {L : LamT} {k i : Nat} {f c P : Addr} {fd : FuncData} {ps : List Str} {sp : Sm} {x : Str} {p pos lp : Pos} {e1 : Expr} {m1 : ME} (F : FnOk X.prog X.w X.K X.mg X.base CX0 k f fd ps (liM X.K sp)) (hr : Room k X.A) (hg : Gl X x) (hm : X.mg x = some (.ref f)) (hk : PySem.W.keepIn X.K (.ref f) = true) (hb : Binds X.K fd ps [])
    (hN : X.N[i]? = some L.fv) (hv : X.env.scope.names.lookup L.fv = some .cell) (hfn : X.fn L.fv = true)
    (TB : TabB X.base X.mg c P) (hcode : X.env.code = .ref c) (hq : X.env.qual ++ "<lambda>" = L.qual) (hdef : defaultsOf L.params X.env = ([], []))
    (hfree : ∀ y ∈ L.scope.names, y.2 = .free → X.env.scope.names.lookup y.1 = some .cell) (hcl : cloFrom X.env.cells L.scope.names [] = [(L.fv, cellA X L.fv)]) (ha : OE X e1 m1)
    (hdb : (x == ("__debug__" : Str)) = false := by decide) (h1 : starEach [e1, .Lambda L.params L.body L.scope lp] X.env = (false, eval e1 X.env) :: starEach [.Lambda L.params L.body L.scope lp] X.env := by rfl)
    (hpl : (backTo pos (starEach [.Lambda L.params L.body L.scope lp] X.env)).any (·.1) = false := by rfl) :
    OE X (.Call (.Name x p) [e1, .Lambda L.params L.body L.scope lp] [] pos) (mCallLam1 P L i sp m1) :=
  ⟨(pe_callLam (L := L) (i := i) F hr hg hm hk hb hN hv hfn (pa_cons ha.ok (pa_cons (pe_lamE (P := P) TB hcode hq hdef hfree hcl) pa_nil rfl) h1) hdb h1 hpl).imp fun σ H Q qq => by
    obtain ⟨r, G, R, hs, hg', h, hR⟩ := qq
    refine ⟨r, G, _, hs, hg', h, fun t1 G1 H1 v1 k1 l1 g1 r1 => ?_⟩
    obtain ⟨tab, w, hi, k3⟩ := k1
    exact lam_li (X := X) (H0 := H1) rfl (hs.le l1) g1 (Rps.one r1) (hR.le l1) tab hi k3⟩
end
end Mi

set_option Elab.async false
set_option linter.all false
set_option maxRecDepth 100000
set_option maxHeartbeats 2000000
/-! ### del xs[a:] -/
namespace Mi
open PySem PySem.Spec PyProof.Rows L2 PySem.F
section
variable {prog : Program} {w : World} {A : Around} {E : Value → Shared → Prop} {s : Shared}
theorem keep_low (p : Nat → Bool) (a : Nat) : ∀ (xs : List Value) (j : Nat), (∀ k, j ≤ k → k < j + xs.length → p k = decide (a ≤ k)) →
    (xs.zipIdx j).filterMap (fun x => if p x.2 = true then none else some x.1) = xs.take (a - j)
  | [], j, _ => by simp
  | x :: xs, j, h => by
    have h0 := h j (Nat.le_refl j) (by simp)
    have ih := keep_low p a xs (j + 1) fun k h1 h2 => h k (by omega) (by simp; omega)
    rw [List.zipIdx_cons, List.filterMap_cons]
    dsimp only
    rw [h0, ih]
    by_cases hj : a ≤ j
    · have e1 : a - j = 0 := by omega
      have e2 : a - (j + 1) = 0 := by omega
      rw [decide_eq_true hj, e1, e2]
      simp
    · have e1 : a - j = (a - (j + 1)) + 1 := by omega
      rw [decide_eq_false hj, e1]
      simp
theorem delItem_from {l sl : Addr} {items : Array Value} {n : Nat} {vl : Value} {a : Nat} {Q : Unit → Shared → Prop}
    (e : s.heap.get? l = some { cls := .type "list", data := .seq items n }) (hs : s.heap.IsSliceOf sl vl .none .none) (pl : IsPart vl (some (a : Int))) (ha : a ≤ items.size) (hsz : items.size ≤ sizeLine)
    (h : ∀ f : Array Value → Array Value, f items = (items.toList.take a).toArray → Q () { s with heap := s.heap.update l (Obj.mapSeq f) }) :
    wpAny (model prog w) A (delItem (.ref l) (.ref sl)) Q E s := by
  have hl : s.heap.IsList l items := PySem.IsL.isList e
  obtain ⟨os, hos, hcs, hds⟩ := id hs
  have hTs : s.TypeIs (.ref sl) "slice" := ⟨os, hos, hcs⟩
  have hstep : ¬ ((rawPart none == rawInt 0) = true) := Bool.false_ne_true
  unfold delItem
  try with_reducible refine wpAny_holding ?_
  refine wpAny_bind (wpAny_sequenceKey hl.typeIs (by decide) ?_)
  refine wpAny_bind (wpAny_callSpecial?_slot (name := Str.ofString "__delitem__") hl.typeIs slot_list_delitem
    (wpAny_call_entry slot_list_delitem hl.typeIs entry_list_delitem ?_ (args_list_delitem_2 _ _)))
  show wpAny _ _ (Builtin.List.listSubscript? (.ref sl) >>= _) _ _ s
  refine wpAny_bind ?_
  unfold Builtin.List.listSubscript?
  refine wpAny_bind (wpAny_specialOf hTs slice_no_index ?_)
  simp only [Option.isNone_none, if_true]
  refine wpAny_pure ?_
  show wpAny _ _ (typeOf (.ref sl) >>= _) _ _ s
  refine wpAny_bind (wpAny_typeOf hTs ?_)
  first
    | rw [if_neg (by decide)]
    | refine PySem.W.KFB.if_not (by decide) ?_
  rw [listSliceParts_eq]
  refine wpAny_bind (wpAny_bind (wpAny_field hos hds (x := .none) rfl (wpAny_bind (wpAny_listPart .none ?_))))
  rw [if_neg hstep]
  refine wpAny_bind (wpAny_field hos hds (x := vl) rfl (wpAny_bind (wpAny_listPart pl ?_)))
  refine wpAny_bind (wpAny_field hos hds (x := .none) rfl (wpAny_bind (wpAny_listPart .none (wpAny_pure ?_))))
  unfold Builtin.List.listItems
  refine wpAny_bind (wpAny_bind (wpAny_seqItems e rfl (wpAny_pure ?_)))
  have bd : sliceBounds (some (a : Int)) none none items.size = ((a : Int), (items.size : Int), 1) := by
    simp only [sliceBounds, Option.getD_none]
    have h1 : ¬ ((a : Int) < 0) := by omega
    simp only [h1, if_false, show (1 : Int) > 0 by decide, if_true]
    congr 1
    omega
  refine wpAny_bind (wpAny_of_eq ((sliceIndices_raw (some (a : Int)) none none items.size (by simp)).trans (congrArg (pure : Int × Int × Int → Sem (Int × Int × Int)) bd)) ?_)
  refine wpAny_bind (wpAny_rule ?_)
  show wpAny _ _ (updateSeq l _ >>= _) _ _ s
  have cut : ∀ p : Nat → Bool, (∀ k, k < items.size → p k = decide (a ≤ k)) → (items.toList.zipIdx.filterMap (fun x => if p x.2 = true then none else some x.1)).toArray = (items.toList.take a).toArray := fun p hp => by
    rw [keep_low p a items.toList 0 fun k _ h2 => hp k (by simpa using h2)]
    rfl
  refine wpAny_bind (wpAny_updateSeq (hz := hsz) (_hz' := ?hz) e rfl ?_)
  case hz =>
    refine Nat.le_trans (m := items.size) ?_ (Nat.le_succ_of_le hsz)
    rw [List.size_toArray, ← Array.length_toList]
    refine Nat.le_trans (List.length_filterMap_le _ _) ?_
    rw [List.length_zipIdx]
    exact Nat.le_refl _
  · refine wpAny_bind (wpAny_letGo ?_)
    first
      | refine wpAny_bind (wpAny_pure (wpAny_pure ⟨.none, rfl, wpAny_pure (h _ ?_)⟩))
      | refine wpAny_pure ⟨.none, rfl, wpAny_pure (h _ ?_)⟩
    refine Eq.trans ?_ (cut (fun k => decide ((a : Int) ≤ (k : Int)) && decide ((k : Int) < (items.size : Int)) && (((k : Int) - (a : Int)) % 1 == 0)) fun k hk => ?_)
    · rfl
    · have e1 : (((k : Int) - (a : Int)) % 1 == 0) = true := by rw [Int.emod_one]; rfl
      have e2 : decide ((k : Int) < (items.size : Int)) = true := decide_eq_true (by omega)
      rw [e1, e2, Bool.and_true, Bool.and_true]
      by_cases q : a ≤ k
      · rw [decide_eq_true q]; exact decide_eq_true (by omega)
      · rw [decide_eq_false q]; exact decide_eq_false (by omega)
end
section
variable {X : Cx} {pins : List (Addr × Obj)} {σ : L2.St} {H : Hp} {s : Shared}
theorem del_from {l sl : Addr} {xs : List V} {a : Int} {vl : Value} {Q : Unit → Shared → Prop} (I : Inv X pins σ H s)
    (hH : H l = some (.lst xs)) (hs : s.heap.IsSliceOf sl vl .none .none) (ra : IsPart vl (some a)) (h0 : 0 ≤ a) (ha : a ≤ xs.length)
    (h : ∀ s', Inv X pins σ (upd H l (.lst (xs.take a.toNat))) s' → Q () s') :
    wpAny (model X.prog X.w) X.A (delItem (.ref l) (.ref sl)) Q X.xe s := by
  obtain ⟨z, its, n, r, hl, e⟩ := I.lstM hH
  obtain ⟨b, rfl⟩ := Int.eq_ofNat_of_zero_le h0
  simp only [Int.toNat_natCast] at h
  refine delItem_from (a := b) e hs ra (by rw [List.size_toArray]; omega) (by rw [List.size_toArray]; omega) fun f hf => h _ ?_
  refine I.lset (its' := its.take b) (t' := s.toks) hH e hf (r.take _) ?_
  rw [List.length_take]
  omega
def tDelFrom (to : TE) (tl : TO) : TS := fun D σ H => to σ H fun x H1 => tl σ H1 fun o H2 => ∃ (l : Addr) (xs : List V) (a : Int), x = .ref l ∧ o = some a ∧ H2 l = some (.lst xs) ∧ 0 ≤ a ∧ a ≤ xs.length ∧ D.nx σ (upd H2 l (.lst (xs.take a.toNat)))
theorem ps_delFrom {o : Expr} {lo : Option Expr} {to : TE} {tl : TO} {tpos pos p2 : Pos} (ho : PE X o to) (hl : PO X lo tl) : PS X (.Delete [.Subscript o (.Slice lo none none p2) tpos] pos) (tDelFrom to tl) := by
  refine ⟨fun pins s σ H D I h => ?_⟩
  refine wpAny_Delete (wpAny_deleteEach_cons (wpAny_delete_Subscript (thn (ho.run pins s σ H _ I h) fun u s1 ⟨x, H1, I1, rx, q1⟩ => ?_)))
  refine wpAny_Slice (thn (hl.run pins s1 σ H1 _ I1 q1) fun vl s2 ⟨op, H2, I2, pl, q2⟩ => ?_)
  rw [evalPart_none]
  refine wpAny_pure ?_
  refine wpAny_pure ?_
  obtain ⟨l, xs, a, ex, eo, hH, h0, ha, q⟩ := q2
  subst ex
  subst eo
  cases (show u = Value.ref l from rx)
  have I4 : Inv X pins σ H2 { s2 with heap := s2.heap.push { cls := .type "slice", data := .fields #[vl, .none, .none] } } := I2.kept (t' := s2.toks) fun b ob q => Heap.get?_push_of_some _ q
  exact del_from I4 hH (Heap.IsSliceOf.new ..) pl h0 ha fun s3 I3 => wpAny_deleteEach_nil ⟨σ, _, I3, q⟩
def msDelFrom (m : ME) (ml : MO) : MS := fun M r G => m r G fun t G1 => ml r G1 fun o G2 => ∃ (l : Addr) (ts : List T) (a : Int), t = .ref l ∧ o = some a ∧ G2 l = some (.lst ts) ∧ 0 ≤ a ∧ a ≤ ts.length ∧ M.nx r (Mi.put G2 l (.lst (ts.take a.toNat)))
theorem s_delFrom {o : Expr} {lo : Option Expr} {m : ME} {ml : MO} {tpos pos p2 : Pos} (ho : OE X o m) (hl : OO X lo ml) : OS X (.Delete [.Subscript o (.Slice lo none none p2) tpos] pos) (msDelFrom m ml) :=
  ⟨(ps_delFrom ho.ok hl.ok).imp fun D σ H q => by
    obtain ⟨r, G, M, hs, hg, k, f1, _⟩ := q
    refine ⟨r, G, _, hs, hg, k, fun t G1 H1 v k1 l1 g1 r1 => ?_⟩
    refine ⟨r, G1, _, hs.le l1, g1, k1, fun op G2 H2 k2 l2 g2 => ?_⟩
    obtain ⟨l, ts, a, rfl, rfl, e, h0, ha, k3⟩ := k2
    have r1 : v = .ref l := r1
    subst r1
    obtain ⟨vs, e2, rv⟩ := g2 _ _ e
    have nt := g2.notup e
    have l3 : Le H2 (upd H2 l (.lst (vs.take a.toNat))) := Le.wr nt
    refine ⟨l, vs, a, rfl, rfl, e2, h0, by rw [rv.length]; exact ha, ?_⟩
    exact f1 _ _ _ _ k3 ((l1.trans l2).trans l3) (((hs.le l1).le l2).le l3) (g2.wr nt ⟨_, upd_same, (rv.take _).le l3⟩)⟩
end
end Mi

set_option Elab.async false
set_option linter.all false
set_option maxRecDepth 100000
set_option maxHeartbeats 2000000
/-! ### tuple(zip(xs, ys)) of two lists -/
namespace Mi
open PySem PySem.Spec PyProof.Rows
section
variable {prog : Program} {w : World} {A : Around} {R : Result → Shared → Prop} {E : Value → Shared → Prop} {s : Shared}
/-- the pairs that stand at the addresses Ts -/
def PairsAt (h : Heap) (xs ys : Array Value) (lo : Nat) (Ts : List Addr) : Prop := Ts.Pairwise (· < ·) ∧ ∀ (j : Nat) (T : Addr), Ts[j]? = some T → lo ≤ T ∧ T < h.objs.size ∧ ∃ x y, xs[j]? = some x ∧ ys[j]? = some y ∧ IsPair h T x y
theorem PairsAt.nil (h : Heap) (xs ys : Array Value) (lo : Nat) : PairsAt h xs ys lo [] := ⟨List.Pairwise.nil, fun j T e => by simp at e⟩
theorem PairsAt.keep {h h' : Heap} {xs ys : Array Value} {lo : Nat} {Ts : List Addr} (p : PairsAt h xs ys lo Ts) (hz : h.objs.size ≤ h'.objs.size) (k : ∀ T, T ∈ Ts → ∀ o, h.get? T = some o → h'.get? T = some o) : PairsAt h' xs ys lo Ts :=
  ⟨p.1, fun j T e => by
    obtain ⟨a, b, x, y, e1, e2, e3⟩ := p.2 j T e
    exact ⟨a, Nat.lt_of_lt_of_le b hz, x, y, e1, e2, k T (List.mem_of_getElem? e) _ e3⟩⟩
theorem PairsAt.push {h : Heap} {xs ys : Array Value} {lo n : Nat} {Ts : List Addr} {T : Addr} {x y : Value} (p : PairsAt h xs ys lo Ts) (hn : Ts.length = n) (below : ∀ U ∈ Ts, U < T) (hlo : lo ≤ T) (hT : T < h.objs.size) (hx : xs[n]? = some x) (hy : ys[n]? = some y) (hp : IsPair h T x y) : PairsAt h xs ys lo (Ts ++ [T]) := by
  refine ⟨List.pairwise_append.mpr ⟨p.1, List.pairwise_singleton _ _, fun a ha b hb => by rw [List.mem_singleton.mp hb]; exact below a ha⟩, fun j U e => ?_⟩
  by_cases hj : j < Ts.length
  · rw [List.getElem?_append_left hj] at e
    exact p.2 j U e
  · rw [List.getElem?_append_right (Nat.le_of_not_lt hj)] at e
    have hj2 : j - Ts.length = 0 := by
      cases hq : j - Ts.length with
      | zero => rfl
      | succ q => rw [hq] at e; simp at e
    rw [hj2] at e
    have e : T = U := by simpa using e
    have hjn : j = n := by omega
    rw [hjn, ← e]
    exact ⟨hlo, hT, x, y, hx, hy, hp⟩
/-- a zip over two lists stands at the i-th pair; what it handed out last is kept -/
def ZAt (h : Heap) (z TI TO i1 i2 l1 l2 : Addr) (xs ys : Array Value) (i : Nat) : Prop :=
  IsPair h TI (.ref i1) (.ref i2) ∧ h.IsListIter i1 l1 i ∧ h.IsListIter i2 l2 i ∧ h.IsList l1 xs ∧ h.IsList l2 ys ∧
    ((IsZip h z TI TO .none ∧ ∃ a b, IsPair h TO a b) ∨ ∃ (T : Addr) (f : Bool) (oT : Obj), PySem.IsZipHeld h z TI TO T f ∧ h.get? T = some oT ∧ oT.cls = .type "tuple" ∧ T ≠ z ∧ T ≠ i1 ∧ T ≠ i2)
theorem ZAt.next {z TI TO i1 i2 l1 l2 : Addr} {xs ys : Array Value} {i : Nat} {x y : Value} {Q : Option Value → Shared → Prop} (D : ZipApart z TI TO i1 i2 l1 l2) (h : ZAt s.heap z TI TO i1 i2 l1 l2 xs ys i) (hx : xs[i]? = some x) (hy : ys[i]? = some y)
    (hQ : ∀ h', ZAt h' z TI TO i1 i2 l1 l2 xs ys (i + 1) → IsPair h' s.heap.objs.size x y → h'.objs.size = s.heap.objs.size + 1 → (∀ c o, c ≠ z → c ≠ TO → c ≠ i1 → c ≠ i2 → s.heap.get? c = some o → h'.get? c = some o) → Q (some (.ref s.heap.objs.size)) { s with heap := h' }) :
    wpAny (model prog w) A (pyNext (.ref z)) Q E s := by
  obtain ⟨hTI, h1, h2, hl1, hl2, hh⟩ := h
  have keepL : ∀ {h' : Heap} {l : Addr} {vs : Array Value}, l ≠ z → l ≠ TO → l ≠ i1 → l ≠ i2 → s.heap.IsList l vs → (∀ c o, c ≠ z → c ≠ TO → c ≠ i1 → c ≠ i2 → s.heap.get? c = some o → h'.get? c = some o) → h'.IsList l vs := fun {h' l vs} a b c d ⟨o, ho, r⟩ k => ⟨o, k l o a b c d ho, r⟩
  rcases hh with ⟨hz, a, b, hTO⟩ | ⟨T, f, oT, hz, hT, t0, t1, t2, t3⟩
  · have sz : s.heap.objs.size ≠ z := Nat.ne_of_gt (Heap.lt_size hz)
    have s1 : s.heap.objs.size ≠ i1 := by obtain ⟨o, ho, _⟩ := h1; exact Nat.ne_of_gt (Heap.lt_size ho)
    have s2 : s.heap.objs.size ≠ i2 := by obtain ⟨o, ho, _⟩ := h2; exact Nat.ne_of_gt (Heap.lt_size ho)
    refine wpAny_pyNext_zip_item D hz hTI hTO h1 h2 hl1 hl2 hx hy fun h' a1 a2 a3 a4 a5 a6 a7 => hQ h' ⟨a7 _ _ D.TIz D.TITO D.TIi1 D.TIi2 hTI, a3, a4, keepL D.l1z D.l1TO D.l1i1 D.l1i2 hl1 a7, keepL D.l2z D.l2TO D.l2i1 D.l2i2 hl2 a7, .inr ⟨_, false, _, a1, a5, rfl, sz, s1, s2⟩⟩ a5 a6 a7
  · have sz : s.heap.objs.size ≠ z := Nat.ne_of_gt (Heap.lt_size hz)
    refine PySem.wpAny_pyNext_zip_item_held D hz hT hTI h1 h2 hl1 hl2 hx hy fun h' a1 a3 a4 a5 a6 a7 => ?_
    have a8 : ∀ c o, c ≠ z → c ≠ TO → c ≠ i1 → c ≠ i2 → s.heap.get? c = some o → h'.get? c = some o := fun c o b1 _ b3 b4 e => a7 c o b1 b3 b4 e
    exact hQ h' ⟨a8 _ _ D.TIz D.TITO D.TIi1 D.TIi2 hTI, a3, a4, keepL D.l1z D.l1TO D.l1i1 D.l1i2 hl1 a8, keepL D.l2z D.l2TO D.l2i1 D.l2i2 hl2 a8, .inr ⟨T, true, oT, a1, a7 T oT t1 t2 t3 hT, t0, t1, t2, t3⟩⟩ a5 a6 a8
theorem ZAt.stop {z TI TO i1 i2 l1 l2 : Addr} {xs ys : Array Value} {i : Nat} {Q : Option Value → Shared → Prop} (hh : A.handled = none) (D : ZipApart z TI TO i1 i2 l1 l2) (h : ZAt s.heap z TI TO i1 i2 l1 l2 xs ys i) (hend : xs[i]? = none ∨ ys[i]? = none)
    (hQ : ∀ h', (∀ c o, c ≠ z → c ≠ TO → c ≠ i1 → c ≠ i2 → s.heap.get? c = some o → h'.get? c = some o) → Q none { s with heap := h' }) :
    wpAny (model prog w) A (pyNext (.ref z)) Q E s := by
  obtain ⟨hTI, h1, h2, hl1, hl2, hb⟩ := h
  rcases hb with ⟨hz, a, b, hTO⟩ | ⟨T, f, oT, hz, hT, t0, t1, t2, t3⟩
  · exact wpAny_pyNext_zip_end hh D hz hTI hTO h1 h2 hl1 hl2 hend hQ
  · exact PySem.wpAny_pyNext_zip_end_held hh D hz hT hTI h1 h2 hl1 hl2 hend fun h' k => hQ h' fun c o b1 _ b3 b4 e => k c o b1 b3 b4 e
theorem ZAt.over {h h' : Heap} {z TI TO i1 i2 l1 l2 S : Addr} {xs ys : Array Value} {i : Nat} (x : ZAt h z TI TO i1 i2 l1 l2 xs ys i) (k : ∀ b o, b ≠ S → h.get? b = some o → h'.get? b = some o) (nS : ∀ b ∈ [z, TI, TO, i1, i2, l1, l2], b ≠ S)
    (nT : ∀ o, h.get? S = some o → o.cls ≠ .type "tuple") : ZAt h' z TI TO i1 i2 l1 l2 xs ys i := by
  obtain ⟨hTI, h1, h2, hl1, hl2, hb⟩ := x
  have m := fun b hb o e => k b o (nS b hb) e
  refine ⟨m TI (by simp) _ hTI, ?_, ?_, ?_, ?_, ?_⟩
  · obtain ⟨o, e, r⟩ := h1; exact ⟨o, m i1 (by simp) _ e, r⟩
  · obtain ⟨o, e, r⟩ := h2; exact ⟨o, m i2 (by simp) _ e, r⟩
  · obtain ⟨o, e, r⟩ := hl1; exact ⟨o, m l1 (by simp) _ e, r⟩
  · obtain ⟨o, e, r⟩ := hl2; exact ⟨o, m l2 (by simp) _ e, r⟩
  · rcases hb with ⟨hz, a, b, hTO⟩ | ⟨T, f, oT, hz, hT, t⟩
    · exact .inl ⟨m z (by simp) _ hz, a, b, m TO (by simp) _ hTO⟩
    · exact .inr ⟨T, f, oT, m z (by simp) _ hz, k T _ (fun q => nT oT (by rw [← q]; exact hT) t.1) hT, t⟩
theorem loopZ {z TI TO i1 i2 l1 l2 S : Addr} {res : Value} {xs ys : Array Value} {n lo : Nat} (hh : A.in1.handled = none) (D : ZipApart z TI TO i1 i2 l1 l2) (hn : n = min xs.size ys.size) (hz : n ≤ sizeLine)
    (nS : ∀ b ∈ [z, TI, TO, i1, i2, l1, l2], b ≠ S) (lS : S < lo) (lw : ∀ b ∈ [z, TO, i1, i2], b < lo) :
    ∀ (m i : Nat) (s : Shared) (Ts : List Addr) (c : Nat), n - i = m → i ≤ n → ZAt s.heap z TI TO i1 i2 l1 l2 xs ys i → s.heap.get? S = some { cls := .type "list", dict := none, data := .seq (Ts.map Value.ref).toArray c, slots := #[] } → Ts.length = i → PairsAt s.heap xs ys lo Ts → lo ≤ s.heap.objs.size →
      (∀ (h' : Heap) (Ts' : List Addr) (c' : Nat), (∀ b o, b ≠ z → b ≠ TO → b ≠ i1 → b ≠ i2 → b ≠ S → s.heap.get? b = some o → h'.get? b = some o) → h'.get? S = some { cls := .type "list", dict := none, data := .seq (Ts'.map Value.ref).toArray c', slots := #[] } →
        Ts'.length = n → PairsAt h' xs ys lo Ts' → R (.ok (.ret res)) { s with heap := h' }) →
      codeAny (model prog w) A (.builtin "list.extend.loop" ⟨[.ref S, .ref z, res], []⟩) R s := by
  have zS : S ≠ z := Ne.symm (nS z (by simp))
  have TS : S ≠ TO := Ne.symm (nS TO (by simp))
  have S1 : S ≠ i1 := Ne.symm (nS i1 (by simp))
  have S2 : S ≠ i2 := Ne.symm (nS i2 (by simp))
  have out : ∀ {b : Addr}, lo ≤ b → b ≠ z ∧ b ≠ TO ∧ b ≠ i1 ∧ b ≠ i2 ∧ b ≠ S := fun {b} h => by
    have q : ∀ c ∈ [z, TO, i1, i2], b ≠ c := fun c hc e => absurd (lw c hc) (by rw [← e]; exact Nat.not_lt.mpr h)
    exact ⟨q z (by simp), q TO (by simp), q i1 (by simp), q i2 (by simp), fun e => absurd lS (by rw [← e]; exact Nat.not_lt.mpr h)⟩
  intro m
  induction m with
  | zero =>
    intro i s Ts c hm hi st hS hl hp hlo fin
    have ein : i = n := by omega
    refine codeAny_builtin PySem.F.entry_extend_loop ?_
    rw [Around.under_plainId PySem.F.plain_extend_loop _]
    show wpAny _ A.in1 (pyNext (.ref z) >>= _) _ _ s
    refine wpAny_bind (st.stop hh D ?_ fun h' k => ?_)
    · rcases Nat.le_total xs.size ys.size with q | q
      · exact .inl (Array.getElem?_eq_none (by omega))
      · exact .inr (Array.getElem?_eq_none (by omega))
    · refine wpAny_pure (fin h' Ts c (fun b o b1 b2 b3 b4 _ e => k b o b1 b2 b3 b4 e) (k S _ zS TS S1 S2 hS) (by omega) ?_)
      refine ⟨hp.1, fun j T e => ?_⟩
      obtain ⟨a, b, x, y, e1, e2, e3⟩ := hp.2 j T e
      obtain ⟨q1, q2, q3, q4, _⟩ := out a
      have e4 := k T _ q1 q2 q3 q4 e3
      exact ⟨a, Heap.lt_size e4, x, y, e1, e2, e4⟩
  | succ m ih =>
    intro i s Ts c hm hi st hS hl hp hlo fin
    have hlt : i < n := by omega
    have hx : i < xs.size := by omega
    have hy : i < ys.size := by omega
    refine codeAny_builtin PySem.F.entry_extend_loop ?_
    rw [Around.under_plainId PySem.F.plain_extend_loop _]
    show wpAny _ A.in1 (pyNext (.ref z) >>= _) _ _ s
    refine wpAny_bind (st.next D (Array.getElem?_eq_getElem hx) (Array.getElem?_eq_getElem hy) fun h' st' hpair hsz k => ?_)
    have hS' := k S _ zS TS S1 S2 hS
    have nN : s.heap.objs.size ≠ S := fun e => absurd (Heap.lt_size hS) (by rw [← e]; exact Nat.lt_irrefl _)
    obtain ⟨c2, hU⟩ : ∃ c2, (h'.update S (Obj.mapSeq fun x => x.push (.ref s.heap.objs.size))).get? S = some { cls := .type "list", dict := none, data := .seq ((Ts ++ [s.heap.objs.size]).map Value.ref).toArray c2, slots := #[] } := by
      have e : ((Ts ++ [s.heap.objs.size]).map Value.ref).toArray = (Ts.map Value.ref).toArray.push (.ref s.heap.objs.size) := by simp
      rw [e]
      exact ⟨_, Heap.get?_update_self _ hS' rfl⟩
    show wpAny _ A.in1 (updateSeq S (·.push (.ref s.heap.objs.size)) >>= _) _ _ _
    refine wpAny_bind ?_
    refine wpAny_updateSeq hS' rfl (wpAny_pure ⟨plainId_quiet PySem.F.plain_extend_loop _, ih (i + 1) _ (Ts ++ [s.heap.objs.size]) c2 (by omega) hlt ?_ hU (by rw [List.length_append, hl]; rfl) ?_ ?_ fun h'' Ts' c' k2 hS2 hl2 hp2 => ?_⟩) (by simp; omega) (by show (Array.push _ _).size ≤ sizeLine + 1; rw [Array.size_push]; simp; omega)
    · exact st'.over (fun b o hb e => (Heap.get?_update_other _ _ (Ne.symm hb)).trans e) nS fun o e q => by
        rw [hS'] at e; cases e; exact absurd q (show Value.type "list" ≠ Value.type "tuple" by decide)
    · have szU : (h'.update S (Obj.mapSeq fun x => x.push (.ref s.heap.objs.size))).objs.size = h'.objs.size := Heap.size_update ..
      refine PairsAt.push (n := i) ⟨hp.1, fun j T e => ?_⟩ hl (fun U hU => ?_) hlo (by show _ < (h'.update S _).objs.size; rw [szU, hsz]; exact Nat.lt_succ_self _) (Array.getElem?_eq_getElem hx) (Array.getElem?_eq_getElem hy) ((Heap.get?_update_other _ _ (Ne.symm nN)).trans hpair)
      · obtain ⟨a, b, x, y, e1, e2, e3⟩ := hp.2 j T e
        obtain ⟨q1, q2, q3, q4, q5⟩ := out a
        have e4 := k T _ q1 q2 q3 q4 e3
        exact ⟨a, by show _ < (h'.update S _).objs.size; rw [szU]; exact Heap.lt_size e4, x, y, e1, e2, (Heap.get?_update_other _ _ (Ne.symm q5)).trans e4⟩
      · obtain ⟨j, hj⟩ := List.mem_iff_getElem?.mp hU
        exact (hp.2 j U hj).2.1
    · show lo ≤ (h'.update S _).objs.size
      rw [Heap.size_update, hsz]
      omega
    · exact fin h'' Ts' c' (fun b o b1 b2 b3 b4 b5 e => k2 b o b1 b2 b3 b4 b5 ((Heap.get?_update_other _ _ (Ne.symm b5)).trans (k b o b1 b2 b3 b4 e))) hS2 hl2 hp2
theorem zip_no_len : typeLookup (.type "zip") "__len__" = pure none := by rw [typeLookup_type, builtinLookup_eq_fast]; kernel_rfl
theorem zip_no_hint : typeLookup (.type "zip") "__length_hint__" = pure none := by rw [typeLookup_type, builtinLookup_eq_fast]; kernel_rfl
theorem zip_self {z : Addr} {Q : Value → Shared → Prop} (hz : s.TypeIs (.ref z) "zip") (h : Q (.ref z) s) : wpAny (model prog w) A (pyIter (.ref z)) Q E s := by
  refine wpAny_pyIter_slot hz PySem.F.slot_zip_iter (wpAny_call_entry PySem.F.slot_zip_iter hz PySem.F.entry_zip_iter ?_ (PySem.F.args_zip_iter_1 _))
  show wpAny _ _ (ret (.ref z)) _ _ s
  exact wpAny_pure ⟨_, rfl, "zip", _, hz, PySem.F.slot_zip_next.lookup, h⟩
theorem collectZ {z TI TO i1 i2 l1 l2 : Addr} {xs ys : Array Value} {Q : List Value → Shared → Prop} (hh : A.handled = none) (D : ZipApart z TI TO i1 i2 l1 l2) (st : ZAt s.heap z TI TO i1 i2 l1 l2 xs ys 0) (hTy : s.TypeIs (.ref z) "zip") (hTO : TO < s.heap.objs.size) (hz : min xs.size ys.size ≤ sizeLine)
    (hQ : ∀ (h' : Heap) (Ts : List Addr), (∀ b o, b ≠ z → b ≠ TO → b ≠ i1 → b ≠ i2 → s.heap.get? b = some o → h'.get? b = some o) → Ts.length = min xs.size ys.size → PairsAt h' xs ys s.heap.objs.size Ts → Q (Ts.map Value.ref) { s with heap := h' }) : wpAny (model prog w) A (collect (.ref z)) Q E s := by
  have ex : ∀ {b : Addr} {o : Obj}, s.heap.get? b = some o → b ≠ s.heap.objs.size := fun e => Nat.ne_of_lt (Heap.lt_size e)
  obtain ⟨hTI, ⟨o1, e1, r1⟩, ⟨o2, e2, r2⟩, ⟨o3, e3, r3⟩, ⟨o4, e4, r4⟩, hb⟩ := id st
  have ez : z < s.heap.objs.size := by
    obtain ⟨o, ho, _⟩ := hTy
    exact Heap.lt_size ho
  have nz : z ≠ s.heap.objs.size := Nat.ne_of_lt ez
  have all7 : ∀ b ∈ [z, TI, TO, i1, i2, l1, l2], b < s.heap.objs.size := fun b hb => by
    rcases List.mem_cons.mp hb with rfl | hb
    · exact ez
    rcases List.mem_cons.mp hb with rfl | hb
    · exact Heap.lt_size hTI
    rcases List.mem_cons.mp hb with rfl | hb
    · exact hTO
    rcases List.mem_cons.mp hb with rfl | hb
    · exact Heap.lt_size e1
    rcases List.mem_cons.mp hb with rfl | hb
    · exact Heap.lt_size e2
    rcases List.mem_cons.mp hb with rfl | hb
    · exact Heap.lt_size e3
    · rw [List.mem_singleton.mp hb]; exact Heap.lt_size e4
  unfold collect
  refine wpAny_bind (wpAny_runValue (codeAny_builtin PySem.F.entry_proto_collect ?_))
  rw [Around.under_plainId PySem.F.plain_proto_collect _]
  show wpAny _ A.in1 (newList [] >>= fun l => again (.builtin "list.__iadd__" ⟨[l, .ref z], []⟩)) _ _ s
  refine wpAny_bind (wpAny_newObj_type ?_)
  refine wpAny_pure ⟨plainId_quiet PySem.F.plain_list_iadd _, codeAny_builtin PySem.F.entry_list_iadd ?_⟩
  rw [Around.under_plainId PySem.F.plain_list_iadd _]
  generalize hP : s.heap.push { cls := .type "list", data := .seq ([] : List Value).toArray } = hp
  have fresh : hp.get? s.heap.objs.size = some { cls := .type "list", data := .seq ([] : List Value).toArray } := by rw [← hP]; exact Heap.get?_push_size _ rfl
  have old : ∀ b o, s.heap.get? b = some o → hp.get? b = some o := fun b o e => by rw [← hP]; exact Heap.get?_push_of_some _ e
  have size1 : hp.objs.size = s.heap.objs.size + 1 := by rw [← hP]; exact Heap.size_push _ _
  have hT1 : Shared.TypeIs { s with heap := hp } (.ref z) "zip" := by
    obtain ⟨o, ho, hc⟩ := hTy
    exact ⟨o, old _ _ ho, hc⟩
  show wpAny _ A.in1 (Builtin.List.listExtendWith (.ref s.heap.objs.size) (.ref z) (.ref s.heap.objs.size)) _ _ _
  unfold Builtin.List.listExtendWith
  refine wpAny_bind (wpAny_typeOf hT1 ?_)
  have h1 : Builtin.List.listSameRef (.ref s.heap.objs.size) (.ref z) = false := by simp [Builtin.List.listSameRef, Ne.symm nz]
  have h2 : (Value.type "zip" == Value.type "list") = false := by decide
  have h3 : (Value.type "zip" == Value.type "tuple") = false := by decide
  simp only [h1, h2, h3, Bool.or_false, Bool.false_eq_true, if_false]
  refine wpAny_bind (zip_self hT1 ?_)
  refine wpAny_bind (wpAny_holding ?_)
  unfold Builtin.List.listLengthHint
  refine wpAny_bind (wpAny_specialOf hT1 zip_no_len ?_)
  show wpAny _ A.in1 (specialOf (Value.ref z) (Str.ofString "__length_hint__") >>= _) _ _ _
  refine wpAny_bind (wpAny_specialOf hT1 zip_no_hint ?_)
  refine wpAny_pure ?_
  show wpAny _ A.in1 (rule "list.extend.makes-room" >>= fun _ => Builtin.List.listTouch (.ref s.heap.objs.size) >>= fun _ =>
    again (.builtin "list.extend.loop" ⟨[.ref s.heap.objs.size, .ref z, .ref s.heap.objs.size], []⟩)) _ _ _
  refine wpAny_bind (wpAny_rule ?_)
  refine wpAny_bind ?_
  show wpAny _ A.in1 (updateSeq s.heap.objs.size (·.push .none) >>= fun _ => updateSeq s.heap.objs.size (·.pop)) _ _ _
  refine wpAny_bind (wpAny_updateSeq fresh rfl ?_)
  have hS2 := Heap.get?_update_self (Obj.mapSeq (·.push Value.none)) fresh rfl
  refine wpAny_updateSeq hS2 rfl ?_
  have hS3 := Heap.get?_update_self (Obj.mapSeq (·.pop)) hS2 rfl
  have oth : ∀ b o, b ≠ s.heap.objs.size → hp.get? b = some o → ((hp.update s.heap.objs.size (Obj.mapSeq (·.push Value.none))).update s.heap.objs.size (Obj.mapSeq (·.pop))).get? b = some o :=
    fun b o hb e => (Heap.get?_update_other _ _ (Ne.symm hb)).trans ((Heap.get?_update_other _ _ (Ne.symm hb)).trans e)
  have sz3 : ((hp.update s.heap.objs.size (Obj.mapSeq (·.push Value.none))).update s.heap.objs.size (Obj.mapSeq (·.pop))).objs.size = s.heap.objs.size + 1 := by rw [Heap.size_update, Heap.size_update, size1]
  generalize ((hp.update s.heap.objs.size (Obj.mapSeq (·.push Value.none))).update s.heap.objs.size (Obj.mapSeq (·.pop))) = h3' at hS3 oth sz3 ⊢
  have low : ∀ b ∈ [z, TO, i1, i2], b < s.heap.objs.size + 1 := fun b hb => by
    have q : b < s.heap.objs.size := by
      rcases List.mem_cons.mp hb with rfl | hb
      · exact ez
      rcases List.mem_cons.mp hb with rfl | hb
      · exact hTO
      rcases List.mem_cons.mp hb with rfl | hb
      · exact Heap.lt_size e1
      · rw [List.mem_singleton.mp hb]; exact Heap.lt_size e2
    exact Nat.lt_succ_of_lt q
  refine wpAny_pure ⟨plainId_quiet PySem.F.plain_extend_loop _, loopZ (lo := s.heap.objs.size + 1) (by simpa using hh) D rfl hz (fun b hb => ?_) (Nat.lt_succ_self _) low (min xs.size ys.size) 0 _ [] _ (by omega) (Nat.zero_le _) ?_ hS3 rfl (PairsAt.nil _ _ _ _) (by show _ ≤ h3'.objs.size; rw [sz3]; exact Nat.le_refl _) fun h' Ts c' k hS' hl hp' => ?_⟩
  · exact Nat.ne_of_lt (all7 b hb)
  · refine st.over (S := s.heap.objs.size) (fun b o hb e => oth b o hb (old b o e)) (fun b hb => ?_) fun o e => absurd (Heap.lt_size e) (Nat.lt_irrefl _)
    exact Nat.ne_of_lt (all7 b hb)
  · show wpAny _ A (load s.heap.objs.size >>= _) _ _ _
    refine wpAny_bind (wpAny_load hS' ?_)
    refine wpAny_pure ?_
    have e : (Ts.map Value.ref).toArray.toList = Ts.map Value.ref := by simp
    show Q (Ts.map Value.ref).toArray.toList _
    rw [e]
    refine hQ h' Ts (fun b o b1 b2 b3 b4 q => k b o b1 b2 b3 b4 (ex q) (oth b o (ex q) (old b o q))) hl ⟨hp'.1, fun j T q => ?_⟩
    obtain ⟨a, r⟩ := hp'.2 j T q
    exact ⟨Nat.le_of_succ_le a, r⟩
theorem new_tupleZ {z TI TO i1 i2 l1 l2 : Addr} {xs ys : Array Value} {Q₁ : Value → Shared → Prop} (hh : A.handled = none) (D : ZipApart z TI TO i1 i2 l1 l2) (st : ZAt s.heap z TI TO i1 i2 l1 l2 xs ys 0) (hTy : s.TypeIs (.ref z) "zip") (hTO : TO < s.heap.objs.size) (hz : min xs.size ys.size ≤ sizeLine)
    (h : ∀ (h' : Heap) (Ts : List Addr), (∀ b o, b ≠ z → b ≠ TO → b ≠ i1 → b ≠ i2 → s.heap.get? b = some o → h'.get? b = some o) → Ts.length = min xs.size ys.size → PairsAt h' xs ys s.heap.objs.size Ts →
      Q₁ (.ref h'.objs.size) { s with heap := h'.push { cls := .type "tuple", data := .seq (Ts.map Value.ref).toArray } }) :
    codeAny (model prog w) A (.call (.builtin "tuple.__new__") ⟨[.type "tuple", .ref z], []⟩) (wants Q₁ E) s := by
  refine codeAny_of_tree ?_
  show wpAny _ A.in1 (do checkBuiltinCall "tuple.__new__" ⟨[.type "tuple", .ref z], []⟩; again (.builtin "tuple.__new__" ⟨[.type "tuple", .ref z], []⟩)) _ _ s
  refine wpAny_bind (wpAny_of_eq (PySem.F.newCall_tuple_1 _) (wpAny_pure ⟨plainId_quiet PySem.F.plain_tuple_new _, codeAny_builtin PySem.F.entry_tuple_new ?_⟩))
  rw [Around.under_plainId PySem.F.plain_tuple_new _]
  have hsub := PySem.sub_tuple_self
  have hinit := PySem.init_tuple_lookup
  have hmh := PySem.madeHere_tuple
  wp_walk using wpAny_typeOf hTy, collectZ (by simpa using hh) D st hTy hTO hz
  intro h' Ts k hl hp
  show wpAny _ _ (Builtin.Tuple.tupleExact (Ts.map Value.ref).toArray >>= fun v => ret v) _ _ _
  unfold Builtin.Tuple.tupleExact
  refine wpAny_bind (wpAny_newObj_type ?_ (by show (Ts.map Value.ref).toArray.size ≤ sizeLine; simp only [List.size_toArray, List.length_map]; rw [hl]; exact hz))
  exact wpAny_pure (h h' Ts k hl hp)
theorem call_tupleZ {z TI TO i1 i2 l1 l2 : Addr} {xs ys : Array Value} {Q : Value → Shared → Prop} (hh : A.handled = none) (D : ZipApart z TI TO i1 i2 l1 l2) (st : ZAt s.heap z TI TO i1 i2 l1 l2 xs ys 0) (hTy : s.TypeIs (.ref z) "zip") (hTO : TO < s.heap.objs.size) (hz : min xs.size ys.size ≤ sizeLine)
    (hQ : ∀ (h' : Heap) (Ts : List Addr), (∀ b o, b ≠ z → b ≠ TO → b ≠ i1 → b ≠ i2 → s.heap.get? b = some o → h'.get? b = some o) → Ts.length = min xs.size ys.size → PairsAt h' xs ys s.heap.objs.size Ts →
      Q (.ref h'.objs.size) { s with heap := h'.push { cls := .type "tuple", data := .seq (Ts.map Value.ref).toArray } }) : wpAny (model prog w) A (call (.type "tuple") [.ref z]) Q E s := by
  refine callType_codes (Q₁ := fun obj s₁ => s₁.TypeIs obj "tuple" ∧ Q obj s₁) PySem.F.called_tuple (PySem.F.typeCall_tuple_1 _) PySem.F.entry_object_init
    (new_tupleZ (by simpa using hh) D st hTy hTO hz fun h' Ts k hl hp => ⟨⟨_, Heap.get?_push_size _ rfl, rfl⟩, hQ h' Ts k hl hp⟩) fun obj s₁ h₁ => ?_
  exact ⟨h₁.1, PySem.F.args_object_init_2 obj _, object_init_meets PySem.F.called_tuple.init.lookup PySem.F.called_tuple.made (by decide) prog w A.in1 _ s₁ ⟨h₁.1, rfl, h₁.2⟩⟩
end
end Mi

set_option Elab.async false
set_option linter.all false
set_option maxRecDepth 100000
set_option maxHeartbeats 2000000
namespace Mi
open PySem PySem.Spec PyProof.Rows L2
/-! ### many tuples laid at once -/
section
variable {P : Program} {w : World}
def layZ (H : Hp) : List (Addr × Obj × List V) → Hp
  | [] => H
  | e :: r => upd (layZ H r) e.1 (.frz e.2.1 (.tup e.2.2))
theorem layZ_out {H : Hp} {b : Addr} : ∀ {L : List (Addr × Obj × List V)}, b ∉ L.map (·.1) → layZ H L b = H b
  | [], _ => rfl
  | e :: r, h => by
    have h1 : b ≠ e.1 := fun z => h (by rw [z]; exact List.mem_cons_self)
    show upd (layZ H r) e.1 _ b = _
    rw [upd_ne h1]
    exact layZ_out fun z => h (List.mem_cons_of_mem _ z)
theorem layZ_at {H : Hp} {e : Addr × Obj × List V} : ∀ {L : List (Addr × Obj × List V)}, (L.map (·.1)).Nodup → e ∈ L → layZ H L e.1 = some (.frz e.2.1 (.tup e.2.2))
  | [], _, h => by cases h
  | d :: r, nd, h => by
    have nd := List.nodup_cons.mp (by simpa using nd : (d.1 :: r.map (·.1)).Nodup)
    show upd (layZ H r) d.1 _ e.1 = _
    rcases List.mem_cons.mp h with rfl | h
    · exact upd_same
    · rw [upd_ne (fun z => nd.1 (by rw [← z]; exact List.mem_map.mpr ⟨e, h, rfl⟩))]
      exact layZ_at nd.2 h
theorem layZ_hok {H : Hp} {h : Heap} (ok : HOk P w H h) : ∀ {L : List (Addr × Obj × List V)}, (L.map (·.1)).Nodup → (∀ e ∈ L, H e.1 = none ∧ h.get? e.1 = some e.2.1 ∧ e.2.2.length ≤ sizeLine ∧ ∃ its : List Value, Vals e.2.2 its ∧ IsTup h e.1 its.toArray) → HOk P w (layZ H L) h
  | [], _, _ => ok
  | d :: r, nd, hL => by
    have nd := List.nodup_cons.mp (by simpa using nd : (d.1 :: r.map (·.1)).Nodup)
    have ih := layZ_hok ok nd.2 fun e he => hL e (List.mem_cons_of_mem _ he)
    obtain ⟨h1, h2, h3, h4⟩ := hL d List.mem_cons_self
    refine ih.laidN (fun _ _ q => q) ?_ ⟨h2, h3, h4⟩
    rw [layZ_out nd.1]
    exact h1
theorem Un.more {fs ex : List Addr} {H H' : Hp} {h h' : Heap} (ok : HOk P w H h) (k : ∀ b o, h.get? b = some o → h'.get? b = some o) (low : ∀ b, b < h.objs.size → H' b = H b) : Un fs ex H H' h h' :=
  have lt : ∀ {b : Addr} {o : Obj}, h.get? b = some o → b < h.objs.size := fun e => Heap.lt_size e
  ⟨fun b o e _ _ _ => k b o e, fun b o e _ _ _ => ⟨o.slots, k b o e⟩, fun b o e n _ => by rw [low b (lt e)]; exact n, fun b o e _ => ⟨o, k b o e⟩,
    fun b xs e => by rw [low b (ok.lt e)]; exact e, fun b o u e => by rw [low b (ok.lt e)]; exact e, fun b ps e => ⟨#[], by rw [low b (ok.lt e), Array.append_empty]; exact e⟩⟩
end
/-- the heap has grown -/
theorem RG.ext {K : PySem.W.Frag} {H H' : Hp} {G : Gp} (g : RG K H G) (e : ∀ b o, H b = some o → H' b = some o) : RG K H' G := by
  refine fun a c h => ?_
  have l : Le H H' := ⟨⟨fun b xs q => e b _ q, fun b o xs q => e b _ q, fun b o xs q => e b _ q⟩, fun b o xs q => e b _ q⟩
  cases c with
  | lst ts => obtain ⟨vs, e1, r⟩ := g _ _ h; exact ⟨vs, e _ _ e1, r.le l⟩
  | dK kvs => obtain ⟨vs, e1, r⟩ := g _ _ h; exact ⟨vs, e _ _ e1, r.le l⟩
  | dT kvs => obtain ⟨vs, e1, r⟩ := g _ _ h; exact ⟨vs, e _ _ e1, r.le l⟩
  | tab q => exact LamX.TabS.ext (g _ _ h) e
  | lk kvs => obtain ⟨od, vs, e1, r⟩ := g _ _ h; exact ⟨od, vs, e _ _ e1, r.le l⟩
  | ins C fs => obtain ⟨dx, vs, e1, r⟩ := g _ _ h; exact ⟨dx, vs, e _ _ e1, r.le l⟩
  | fnc L w =>
    obtain ⟨c, c', o', u, v, h1, h2, h3, h4, h5, h6⟩ := g _ _ h
    exact ⟨c, c', o', u, v, e _ _ h1, e _ _ h2, e _ _ h3, h4, h5, h6.le l⟩
  | fnp L c =>
    obtain ⟨c', h1, h2⟩ := g _ _ h
    exact ⟨c', e _ _ h1, e _ _ h2⟩
/-! ### tuple(zip(a, b)) -/
def tTupZip (K : PySem.W.Frag) (t : TA) : TE := fun σ H Q => t σ H fun vs H1 => ∃ l1 l2 xs ys, vs = [.ref l1, .ref l2] ∧ SqL K H1 l1 xs ∧ SqL K H1 l2 ys ∧
  ∀ (H2 : Hp) (Ts : List Addr) (T : Addr), (∀ b o, H1 b = some o → H2 b = some o) → Ts.length = min xs.length ys.length → min xs.length ys.length ≤ sizeLine →
    (∀ (j : Nat) (U : Addr) (x y : V), Ts[j]? = some U → xs[j]? = some x → ys[j]? = some y → ∃ o : Obj, o.dict = none ∧ H2 U = some (.frz o (.tup [x, y]))) → (∃ o : Obj, o.dict = none ∧ H2 T = some (.frz o (.tup (Ts.map V.ref)))) → Q (.ref T) H2
section
variable {X : Cx}
theorem pe_tupZip {e e2 : Expr} {ta : TA} {p p2 pos pos2 : Pos} (hc : X.calm = true) (hgt : Gl X "tuple") (hmt : X.mg "tuple" = none) (hg : Gl X "zip") (hm : X.mg "zip" = none) (ha : PA X [e, e2] ta)
    (hs : starEach [e, e2] X.env = (false, eval e X.env) :: starEach [e2] X.env := by rfl) (hpl : (backTo pos2 (starEach [e2] X.env)).any (·.1) = false := by rfl)
    (hs2 : starEach [.Call (.Name "zip" p2) [e, e2] [] pos2] X.env = (false, eval (.Call (.Name "zip" p2) [e, e2] [] pos2) X.env) :: starEach [] X.env := by rfl) :
    PE X (.Call (.Name "tuple" p) [.Call (.Name "zip" p2) [e, e2] [] pos2] [] pos) (tTupZip X.K ta) := by
  refine ⟨fun pins s σ H Q I h => ?_⟩
  refine wpAny_Call_Name_kw (ld_blt I hgt hmt (show bootBuiltins "tuple" = some (.type "tuple") by decide +kernel) ?_)
  refine PyProof.Rows.callWith_type1 ?_ hs2 (by rfl)
  rw [hs2]
  show wpAny _ _ (spliced ((false, eval (.Call (.Name "zip" p2) [e, e2] [] pos2) X.env) :: backTo pos (starEach [] X.env))) _ _ s
  refine Calls.spliced_cons ?_
  refine wpAny_Call_Name_kw (ld_blt I hg hm PyProof.Rows.boot_zip (PyProof.Rows.callWith_type1 (thn (ha.run pos2 pins s σ H _ I h) fun us s1 ⟨vs, H1, I1, r1, q1⟩ => ?_) hs hpl))
  obtain ⟨a, b, xs, ys, ex, hqx, hqy, q⟩ := q1
  subst ex
  cases r1 with
  | cons r rr =>
    cases rr with
    | cons r' rr =>
      cases rr
      cases r
      cases r'
      obtain ⟨its, rv, p1, zx⟩ := I1.list hqx
      obtain ⟨its2, rv2, p2, zy⟩ := I1.list hqy
      have la : a < s1.heap.objs.size := p1.lt
      have lb : b < s1.heap.objs.size := p2.lt
      refine call_zip_2 p1.isList p2.isList fun h' hz hTI hTO h1 h2 hsz hk => ?_
      refine Calls.spliced_nil ?_
      have D := PySem.W.ktu_apart s1.heap.objs.size a b la lb
      have la' : ∀ {l : Addr} {vs : Array Value}, s1.heap.IsList l vs → h'.IsList l vs := fun {l vs} ⟨o, ho, r⟩ => ⟨o, hk l o ho, r⟩
      have st : ZAt h' (s1.heap.objs.size + 4) (s1.heap.objs.size + 2) (s1.heap.objs.size + 3) s1.heap.objs.size (s1.heap.objs.size + 1) a b its.toArray its2.toArray 0 :=
        ⟨hTI, h1, h2, la' p1.isList, la' p2.isList, .inl ⟨hz, _, _, hTO⟩⟩
      have ms : min its.toArray.size its2.toArray.size = min xs.length ys.length := by rw [List.size_toArray, List.size_toArray, rv.length, rv2.length]
      refine call_tupleZ (s := { s1 with heap := h' }) (I1.ok.hd hc) D st ⟨_, hz, rfl⟩ (by show _ < h'.objs.size; rw [hsz]; exact Nat.lt_succ_of_lt (Nat.lt_succ_self _)) (by rw [ms]; omega) fun h'' Ts k hl hp => ?_
      have kA : ∀ c o, s1.heap.get? c = some o → (h''.push { cls := .type "tuple", data := .seq (Ts.map Value.ref).toArray }).get? c = some o := fun c o e => by
        have lt := Heap.lt_size e
        have ne : ∀ n : Nat, c ≠ s1.heap.objs.size + n := fun n z => by rw [z] at lt; exact absurd lt (Nat.not_lt.mpr (Nat.le_add_right _ _))
        exact Heap.get?_push_of_some _ (k c o (ne 4) (ne 3) (ne 0) (ne 1) (hk c o e))
      have kP : ∀ c o, h''.get? c = some o → (h''.push { cls := .type "tuple", data := .seq (Ts.map Value.ref).toArray }).get? c = some o := fun c o e => Heap.get?_push_of_some _ e
      have szle : s1.heap.objs.size ≤ h'.objs.size := by rw [hsz]; exact Nat.le_add_right _ _
      have tn : Ts.length ≤ its.length ∧ Ts.length ≤ its2.length := by rw [hl]; simp only [List.size_toArray]; omega
      have newT : ∀ T ∈ Ts, h'.objs.size ≤ T ∧ T < h''.objs.size := fun T hT => by
        obtain ⟨j, hj⟩ := List.mem_iff_getElem?.mp hT
        exact ⟨(hp.2 j T hj).1, (hp.2 j T hj).2.1⟩
      generalize hLd : (Ts.zipIdx.map fun (z : Addr × Nat) => ((z.1, ({ cls := .type "tuple", data := .seq #[its.getD z.2 .none, its2.getD z.2 .none] } : Obj), [xs.getD z.2 .non, ys.getD z.2 .non]) : Addr × Obj × List V)) = L
      have hLf : L.map (·.1) = Ts := by
        rw [← hLd, List.map_map]
        exact List.zipIdx_map_fst 0 Ts
      have nd : (L.map (·.1)).Nodup := by
        rw [hLf]
        exact hp.1.imp fun q => Nat.ne_of_lt q
      have memL : ∀ j T, Ts[j]? = some T → (T, ({ cls := .type "tuple", data := .seq #[its.getD j .none, its2.getD j .none] } : Obj), [xs.getD j .non, ys.getD j .non]) ∈ L := fun j T e => by
        rw [← hLd]
        exact List.mem_map.mpr ⟨(T, j), List.mem_zipIdx_iff_getElem?.mpr e, rfl⟩
      have hN : (L.map (·.1)).Nodup ∧ ∀ c ∈ L.map (·.1), H1 c = none := ⟨nd, fun c hc => by
        rw [hLf] at hc
        exact I1.hok.fresh (Nat.le_trans szle (newT c hc).1)⟩
      have ok1 : HOk X.prog X.w H1 (h''.push { cls := .type "tuple", data := .seq (Ts.map Value.ref).toArray }) := I1.hok.kept kA
      have ok2 := layZ_hok ok1 nd fun e he => by
        refine ⟨hN.2 _ (List.mem_map.mpr ⟨e, he, rfl⟩), ?_⟩
        rw [← hLd] at he
        obtain ⟨⟨T, j⟩, hm, rfl⟩ := List.mem_map.mp he
        have ej := List.mem_zipIdx_iff_getElem?.mp hm
        have ej : Ts[j]? = some T := ej
        obtain ⟨_, _, u, v, e1, e2, e3⟩ := hp.2 j T ej
        have jx : j < Ts.length := (List.getElem?_eq_some_iff.mp ej).1
        have e1 : its[j]? = some u := by simpa using e1
        have e2 : its2[j]? = some v := by simpa using e2
        have g1 : its.getD j .none = u := by rw [List.getD_eq_getElem?_getD, e1]; rfl
        have g2 : its2.getD j .none = v := by rw [List.getD_eq_getElem?_getD, e2]; rfl
        have j1 : j < xs.length := by rw [rv.length]; omega
        have j2 : j < ys.length := by rw [rv2.length]; omega
        obtain ⟨u', f1, f2⟩ := rv.get (List.getElem?_eq_getElem j1)
        obtain ⟨v', f3, f4⟩ := rv2.get (List.getElem?_eq_getElem j2)
        rw [e1] at f1; cases f1
        rw [e2] at f3; cases f3
        have g3 : xs.getD j .non = xs[j] := by rw [List.getD_eq_getElem?_getD, List.getElem?_eq_getElem j1]; rfl
        have g4 : ys.getD j .non = ys[j] := by rw [List.getD_eq_getElem?_getD, List.getElem?_eq_getElem j2]; rfl
        dsimp only
        rw [g1, g2, g3, g4]
        have e5 := kP _ _ e3
        exact ⟨e5, by have := sizeLine_eq; show 2 ≤ sizeLine; omega, [u, v], .cons f2 (.cons f4 .nil), _, e5, rfl, _, rfl⟩
      have nTn : h''.objs.size ∉ L.map (·.1) := by
        rw [hLf]
        exact fun z => absurd (newT _ z).2 (Nat.lt_irrefl _)
      have lowT : s1.heap.objs.size ≤ h''.objs.size := by
        exact Nat.le_of_lt (Nat.lt_of_le_of_lt (Nat.le_add_right _ 2) (Heap.lt_size (k _ _ D.TIz D.TITO D.TIi1 D.TIi2 hTI)))
      have nH : layZ H1 L h''.objs.size = none := by rw [layZ_out nTn]; exact I1.hok.fresh lowT
      have vals : ∀ Us : List Addr, Vals (Us.map V.ref) (Us.map Value.ref) := fun Us => by
        induction Us with
        | nil => exact .nil
        | cons U Us ih => exact .cons rfl ih
      have lT : (Ts.map V.ref).length ≤ sizeLine := by rw [List.length_map, hl, ms]; omega
      have eT : (h''.push { cls := .type "tuple", data := .seq (Ts.map Value.ref).toArray }).get? h''.objs.size = some { cls := .type "tuple", data := .seq (Ts.map Value.ref).toArray } := Heap.get?_push_size _ rfl
      have ok3 : HOk X.prog X.w (upd (layZ H1 L) h''.objs.size (.frz { cls := .type "tuple", data := .seq (Ts.map Value.ref).toArray } (.tup (Ts.map V.ref)))) (h''.push { cls := .type "tuple", data := .seq (Ts.map Value.ref).toArray }) :=
        ok2.laidN (fun _ _ q => q) nH ⟨eT, lT, Ts.map Value.ref, vals Ts, _, eT, rfl, _, rfl⟩
      have low : ∀ c, c < s1.heap.objs.size → upd (layZ H1 L) h''.objs.size (.frz { cls := .type "tuple", data := .seq (Ts.map Value.ref).toArray } (.tup (Ts.map V.ref))) c = H1 c := fun c lt => by
        rw [upd_ne (Nat.ne_of_lt (Nat.lt_of_lt_of_le lt lowT)), layZ_out]
        rw [hLf]
        exact fun z => absurd (Nat.lt_of_lt_of_le lt szle) (Nat.not_lt.mpr (newT c z).1)
      refine ⟨.ref h''.objs.size, _, I1.un (t' := s1.toks) (Un.more I1.hok kA low) ok3, rfl, q _ Ts h''.objs.size (fun c o e => ?_) (by rw [hl, ms]) (by omega) (fun j U x y e1 e2 e3 => ?_) ⟨_, rfl, upd_same⟩⟩
      · rw [low c (I1.hok.lt e)]; exact e
      · have hU := List.mem_of_getElem? e1
        refine ⟨{ cls := .type "tuple", data := .seq #[its.getD j .none, its2.getD j .none] }, rfl, ?_⟩
        rw [upd_ne (Nat.ne_of_lt (newT U hU).2)]
        have z := layZ_at (H := H1) nd (memL j U e1)
        have g3 : xs.getD j .non = x := by rw [List.getD_eq_getElem?_getD, e2]; rfl
        have g4 : ys.getD j .non = y := by rw [List.getD_eq_getElem?_getD, e3]; rfl
        dsimp only at z
        rw [g3, g4] at z
        exact z
def mTupZip (m1 m2 : ME) : ME := fun r G R => m1 r G fun t1 G1 => m2 r G1 fun t2 G2 => ∃ (l1 : Addr) (ts : List T) (l2 : Addr) (us : List T), t1 = .ref l1 ∧ G2 l1 = some (.lst ts) ∧ t2 = .ref l2 ∧ G2 l2 = some (.lst us) ∧
  R (.tup (List.zipWith (fun a b => T.tup [a, b]) ts us)) G2
theorem zip_rps {K : PySem.W.Frag} {H : Hp} : ∀ {Ts : List Addr} {xs ys : List V} {ts us : List T}, Rps K H xs ts → Rps K H ys us → Ts.length = min xs.length ys.length →
    (∀ (j : Nat) (U : Addr) (x y : V), Ts[j]? = some U → xs[j]? = some x → ys[j]? = some y → ∃ o : Obj, o.dict = none ∧ H U = some (.frz o (.tup [x, y]))) → Rps K H (Ts.map V.ref) (List.zipWith (fun a b => T.tup [a, b]) ts us)
  | Ts, xs, ys, [], us, h, _, hl, _ => by
    have h : xs = [] := h
    subst h
    simp at hl
    subst hl
    rfl
  | Ts, xs, ys, t :: ts, [], _, h, hl, _ => by
    have h : ys = [] := h
    subst h
    simp at hl
    subst hl
    rfl
  | Ts, xs, ys, t :: ts, u :: us, h1, h2, hl, ha => by
    obtain ⟨x, xr, rfl, a1, a2⟩ := h1
    obtain ⟨y, yr, rfl, b1, b2⟩ := h2
    cases Ts with
    | nil => simp at hl
    | cons U Us =>
      have hl : Us.length = min xr.length yr.length := by simpa [Nat.succ_min_succ] using hl
      refine ⟨.ref U, Us.map V.ref, rfl, ⟨U, [x, y], rfl, ha 0 U x y rfl rfl rfl, by have := sizeLine_eq; show 2 ≤ sizeLine; omega, Rps.two a1 b1⟩, zip_rps a2 b2 hl fun j U' x' y' e1 e2 e3 => ha (j + 1) U' x' y' (by simpa using e1) (by simpa using e2) (by simpa using e3)⟩
theorem o_tupZip {e e2 : Expr} {m1 m2 : ME} {p p2 pos pos2 : Pos} (hc : X.calm = true) (hgt : Gl X "tuple") (hmt : X.mg "tuple" = none) (hg : Gl X "zip") (hm : X.mg "zip" = none) (h1 : OE X e m1) (h2 : OE X e2 m2)
    (hs : starEach [e, e2] X.env = (false, eval e X.env) :: starEach [e2] X.env := by rfl) (hs' : starEach [e2] X.env = (false, eval e2 X.env) :: starEach [] X.env := by rfl) (hpl : (backTo pos2 (starEach [e2] X.env)).any (·.1) = false := by rfl)
    (hs2 : starEach [.Call (.Name "zip" p2) [e, e2] [] pos2] X.env = (false, eval (.Call (.Name "zip" p2) [e, e2] [] pos2) X.env) :: starEach [] X.env := by rfl) :
    OE X (.Call (.Name "tuple" p) [.Call (.Name "zip" p2) [e, e2] [] pos2] [] pos) (mTupZip m1 m2) :=
  ⟨(pe_tupZip hc hgt hmt hg hm (pa_cons h1.ok (pa_cons h2.ok pa_nil hs') hs) hs hpl hs2).imp fun σ H Q q => by
    obtain ⟨r, G, R, hs, hg, k, f⟩ := q
    refine ⟨r, G, _, hs, hg, k, fun t1 G1 H1 v1 k1 l1 g1 r1 => ?_⟩
    refine ⟨r, G1, _, hs.le l1, g1, k1, fun t2 G2 H2 v2 k2 l2 g2 r2 => ?_⟩
    obtain ⟨a, ts, b, us, rfl, ea, rfl, eb, k3⟩ := k2
    obtain ⟨xs, ex, rx⟩ := g2 _ _ ea
    obtain ⟨ys, ey, ry⟩ := g2 _ _ eb
    have ev1 : v1 = .ref a := r1
    have ev2 : v2 = .ref b := r2
    refine ⟨a, b, xs, ys, by rw [ev1, ev2], .inl (.inl ex), .inl (.inl ey), fun H3 Ts T' he hl hm hp hT => ?_⟩
    have l3 : Le H2 H3 := ⟨⟨fun b xs q => he b _ q, fun b o xs q => he b _ q, fun b o xs q => he b _ q⟩, fun b o xs q => he b _ q⟩
    obtain ⟨o, ho, hT⟩ := hT
    have hz : (List.zipWith (fun a b => T.tup [a, b]) ts us).length ≤ sizeLine := by
      rw [List.length_zipWith, ← rx.length, ← ry.length]
      exact hm
    exact f _ _ _ _ k3 ((l1.trans l2).trans l3) (g2.ext he) ⟨T', Ts.map V.ref, rfl, ⟨o, ho, hT⟩, hz, zip_rps (rx.le l3) (ry.le l3) hl hp⟩⟩
end
end Mi

set_option Elab.async false
set_option linter.all false
set_option maxRecDepth 100000
set_option maxHeartbeats 4000000
set_option pp.maxSteps 200
/-! ### {(a, b): c for .. in ..}: a new dict by tuples -/
namespace Mi
open PySem PySem.Spec PyProof.Rows L2
theorem d_dictSetT {X : Cx} {pins : List (Addr × Obj)} {σ : L2.St} {H : Hp} {s : Shared} {E : Value → Shared → Prop} {D b : Addr} {kvs : List (List Key × V)} {k : List Key} {v : V} {r : Value} {Q : Unit → Shared → Prop} (hu : X.A.units + 1 < cLine) (I : L2.Inv X pins σ H s) (hD : H D = some (.dT kvs)) (hz : kvs.length < sizeLine)
    (eb : H b = some (.tup (k.map kV))) (rv : RelV v r) (h : ∀ s', L2.Inv X pins σ (upd H D (.dT (putK kvs k v))) s' → Q () s') : wpAny (model X.prog X.w) X.A (dictSet D (.ref b) r) Q E s := by
  obtain ⟨z, hd, xs, rel, dd⟩ := dt_of I.hok hD
  have hzx : xs.length ≤ sizeLine := by rw [← Paired.length rel]; exact z
  have hl : (putK kvs k v).length ≤ sizeLine := by have := length_putK kvs k v; omega
  refine wpAny_dictSet_heap (hsz := hzx) (by show X.A.units < cLine; omega) (key_of I.hok eb) dd fun h' dd' hs => h _ ?_
  obtain ⟨q, es, ep, hq, h2, h3, h4, _, h5⟩ := dd'
  refine d_write I (by rw [hD]; exact True.intro) hs ⟨q, hq⟩ ⟨hl, hd, _, (rel.put k eb rv).keeps fun c ys ec => ?_, q, es, ep, hq, h2, h3, h4, h5⟩
  rw [upd_ne (ne_of ec hD (fun z => nomatch z))]
  exact ec
section
variable {X : Cx}
def tDcT (wi : TI) (g : TG) (tk tv : TE) (vs : List Nat) : TE := fun σ H Q => wi σ H fun J H1 => ∀ D, H1 D = none → ∃ W : Nat → Nat → Hp → Prop, (∃ m, W 0 m (upd H1 D (.dT []))) ∧ ∀ i m H, W i m H →
  (J.stop i H ∧ Q (.ref D) H) ∨ (J.go i H ∧ ∃ Nx : Hp → Prop, (∀ H', Nx H' → ∃ m', m' < m ∧ W (i + 1) m' H') ∧ ∀ x H', J.yld i H x H' → g x (wipe σ vs) H' fun σ2 H2 => wipe σ2 vs = wipe σ vs ∧
    tk σ2 H2 fun y H4 => tv σ2 H4 fun z H5 => ∃ kvs k b, y = .ref b ∧ H5 b = some (.tup (k.map kV)) ∧ H5 D = some (.dT kvs) ∧ kvs.length < sizeLine ∧ Nx (upd H5 D (.dT (putK kvs k z))))
theorem pe_dcT {kx vx tg iter : Expr} {scope : Scope} {own : List (Str × Nat)} {pos : Pos} {wi : TI} {g : TG} {tk tv : TE} (hu : X.A.units + 1 < cLine) (hc : X.calm = true) (hN : X.N.Nodup) (hi : PI X tg iter wi) (ok : BlkOk X.N X.env.scope scope own)
    (hg : ∀ (s : Shared) (H : Hp) (C : Addr) (cl : List (Str × Addr)) (fp : List Addr), PG (X.blk s H scope (compEnvC scope cl C X.env) fp) tg g)
    (hk : ∀ (s : Shared) (H : Hp) (C : Addr) (cl : List (Str × Addr)) (fp : List Addr), PE (X.blk s H scope (compEnvC scope cl C X.env) fp) kx tk)
    (he : ∀ (s : Shared) (H : Hp) (C : Addr) (cl : List (Str × Addr)) (fp : List Addr), PE (X.blk s H scope (compEnvC scope cl C X.env) fp) vx tv) (hs : ∀ x, foldedSetIterable iter X.env x = pure x := by intro _; rfl) :
    PE X (.DictComp kx vx [⟨tg, iter, [], 0⟩] scope pos) (tDcT wi g tk tv (own.map (·.2))) := by
  refine ⟨fun pins s σ H Q I h => ?_⟩
  rw [arm_eval_DictComp]
  have hfree : ∀ y ∈ scope.names, y.2 = .free → ∃ c, X.env.cells.lookup y.1 = some c := fun y hy e => I.ok.has _ (ok.free y hy e)
  refine wpAny_comprehension_free rfl hs (closure_ok hfree) ok.kind (fun y hy e => by rw [ok.uniq y hy, e]) (thn (hi.run pins s σ H _ I h) fun xv s1 hx => thn hx fun itv s2 h2 => ?_)
  obtain ⟨it, fp, tn, J, H2, rfl, I2, T, st2, f2, q⟩ := h2
  refine wpAny_newObj_type (newEnv_comp ?_)
  generalize hD : s2.heap.objs.size = D
  obtain ⟨W, ⟨m0, w0⟩, turn⟩ := q D (I2.hok.fresh (Nat.le_of_eq hD))
  generalize hs3 : ({ s2 with heap := s2.heap.push { cls := .type "dict", data := .dict #[] } } : Shared) = s3
  have h3 : s3.heap = s2.heap.push { cls := .type "dict", data := .dict #[] } := by rw [← hs3]
  have I3 : L2.Inv X pins σ (upd H2 D (.dT [])) s3 := by
    rw [← hs3]
    refine I2.laid (t' := s2.toks) (fun b o e => Heap.get?_push_of_some _ e) (Nat.le_of_eq hD) ?_
    rw [← hD]
    exact dt_empty s2.heap I2.big
  have low : ∀ b ∈ fp, b < s2.heap.objs.size := fun b hb => by
    obtain ⟨o, e, _⟩ := T.obj _ _ st2 b hb
    exact Heap.lt_size e
  have f3 : ∀ b ∈ fp, FpOk X pins (upd H2 D (.dT [])) b ∧ b < s3.heap.objs.size := fun b hb =>
    ⟨⟨by rw [upd_ne (by rw [← hD]; exact Nat.ne_of_lt (low b hb))]; exact (f2 b hb).1, (f2 b hb).2⟩, by rw [h3, Heap.size_push]; exact Nat.lt_succ_of_lt (low b hb)⟩
  have st3 : tn 0 s3.heap := T.keep _ _ _ st2 fun b _ o e => by rw [h3]; exact Heap.get?_push_of_some _ e
  have I4 := block_start I3 ok hN f3
  have pg := hg s3 (upd H2 D (.dT [])) s3.heap.objs.size (cellsFrom (s3.heap.objs.size + 1) scope.names (cloFrom X.env.cells scope.names [])) fp
  have pk := hk s3 (upd H2 D (.dT [])) s3.heap.objs.size (cellsFrom (s3.heap.objs.size + 1) scope.names (cloFrom X.env.cells scope.names [])) fp
  have pe := he s3 (upd H2 D (.dT [])) s3.heap.objs.size (cellsFrom (s3.heap.objs.size + 1) scope.names (cloFrom X.env.cells scope.names [])) fp
  have nfp : ∀ b ∈ fp, (upd H2 D (.dT [])) b = none := fun b hb => (f3 b hb).1.1
  show codeAny _ _ (.compStart (.DictComp kx vx [⟨tg, iter, [], 0⟩] scope pos) 0 (.ref it) (.ref D) (compEnvC scope (cellsFrom (s3.heap.objs.size + 1) scope.names (cloFrom X.env.cells scope.names [])) s3.heap.objs.size X.env)) _ { s3 with heap := pushCells (s3.heap.push { cls := .type "dict", data := .dict #[] }) scope.names }
  generalize hce : compEnvC scope (cellsFrom (s3.heap.objs.size + 1) scope.names (cloFrom X.env.cells scope.names [])) s3.heap.objs.size X.env = ce at I4 pg pk pe ⊢
  have cL : ce.locals = s3.heap.objs.size := by subst hce; rfl
  generalize hH3 : upd H2 D (.dT []) = H3 at I3 I4 pg pk pe w0 nfp f3
  generalize hs4 : ({ s3 with heap := pushCells (s3.heap.push { cls := .type "dict", data := .dict #[] }) scope.names } : Shared) = s4 at I4 ⊢
  have st4 : tn 0 s4.heap := T.keep _ _ _ st3 fun b _ o e => by rw [← hs4]; exact pushCells_keeps _ _ _ _ (Heap.get?_push_of_some _ e)
  have stat : ∀ {σ' : L2.St} {H' : Hp} {s' : Shared}, L2.Inv (X.blk s3 H3 scope ce fp) [] σ' H' s' → (∀ b ∈ fp, H' b = none) → ∀ b ∈ fp, FpOk (X.blk s3 H3 scope ce fp) [] H' b := fun {σ' H' s'} I' hn b hb =>
    ⟨hn b hb, (I'.ok.exf b hb).1, I'.ok.exfs b hb, .inl hb, fun x c e => (I'.ok.exf b hb).2 x c e, fun p hp => absurd (show p ∈ ([] : List (Addr × Obj)) ++ [] from hp) (by simp)⟩
  have loop : codeAny (model X.prog X.w) X.A (.compLoop (.DictComp kx vx [⟨tg, iter, [], 0⟩] scope pos) 0 (.ref it) (.ref D) ce) (compPost (model X.prog X.w) X.A X.xe none (EP X pins σ Q) (.ref D) s3.heap.objs.size) s4 := by
    refine compLoop_anyD (fun n s' => ∃ i H', L2.Inv (X.blk s3 H3 scope ce fp) [] (wipe σ (own.map (·.2))) H' s' ∧ tn i s'.heap ∧ (∀ b ∈ fp, H' b = none) ∧ W i n H') ?_ m0 ⟨0, H3, I4, st4, nfp, w0⟩
    rintro n s5 ⟨i, H5, I5, st5, n5, w5⟩
    rcases turn i n H5 w5 with ⟨stop, qq⟩ | ⟨go, Nx, hNx, step⟩
    · refine thnF (T.done (X.blk s3 H3 scope ce fp) rfl rfl rfl hc i [] s5 _ H5 (fun _ _ => False) I5 (stat I5 n5) st5 stop) fun r s6 ⟨hr, I6⟩ => ?_
      subst hr
      have I7 : L2.Inv X pins σ H5 s6 := I3.call' (ch := fp) I6.os I6.base I6.hok I6.bare fun b hb => ⟨(f3 b hb).1.2.2.2.1, (f3 b hb).1.2.1, (f3 b hb).1.2.2.2.2.1, (f3 b hb).1.2.2.2.2.2⟩
      have nC : H5 s3.heap.objs.size = none := by
        have z : H5 ce.locals = none := I6.free
        rwa [cL] at z
      obtain ⟨m, hn, _⟩ := I6.loc
      have hn : s6.heap.Ns ce.locals m := hn
      rw [cL] at hn
      obtain ⟨f0, f1, f2, f3, f4, f5⟩ := I3.fpOk (Nat.le_refl _) nC
      exact ⟨m, hn, fun h'' sb => ⟨.ref D, H5, I7.turned (t' := s6.toks) (fun b o hb e => (sb.2 b hb).trans e) f0 f1 f3 f4 f5, rfl, qq⟩⟩
    · refine thnF (T.item (X.blk s3 H3 scope ce fp) rfl rfl rfl hc i [] s5 _ H5 (fun _ _ => False) I5 (stat I5 n5) st5 go) fun r s6 ⟨u, hr, h6⟩ => ?_
      subst hr
      refine thnF h6 fun _ s7 ⟨x, H7, I7, r7, y7, st7, n7⟩ => ?_
      refine thnF (pg.run _ s7 _ H7 x u _ (I7.pinned (stat I7 n7) (T.obj _ _ st7)) r7 (step x H7 y7)) fun _ s8 ⟨σ8, H8, I8, hw8, q8⟩ => ?_
      refine wpAny_pure ?_
      simp only [if_true]
      refine thnF (pk.run _ s8 σ8 H8 _ I8 q8) fun z s10 ⟨yk, H10, I10, r10, q10⟩ => ?_
      refine thnF (pe.run _ s10 σ8 H10 _ I10 q10) fun z2 s11 ⟨yv, H11, I11, r11, kvs, k, b, ek, eb, hD11, hz11, nx⟩ => ?_
      subst ek
      obtain rfl : z = Value.ref b := r10
      refine d_dictSetT (X := X.blk s3 H3 scope ce fp) hu I11 hD11 hz11 eb r11 fun s12 I' => ?_
      obtain ⟨m', hm, w'⟩ := hNx _ nx
      have pin' : ∀ b ∈ fp, ∀ o, s7.heap.get? b = some o → s12.heap.get? b = some o ∧ upd H11 D (.dT (putK kvs k yv)) b = none := fun b hb o e =>
        let z := I'.pin (b, o) (List.mem_append_right _ (List.mem_append_right _ (mem_pinsAt hb e)))
        ⟨z.1, z.2.1⟩
      refine ⟨m', hm, i + 1, _, (I'.unpinned (pins := [])).weak (by rw [← hw8, wipe_length]) (fun j v e => ?_), T.keep _ _ _ st7 fun b hb o e => (pin' b hb o e).1, fun b hb => ?_, w'⟩
      · rw [← hw8] at e
        exact (wipe_some e).1
      · obtain ⟨o, e, _⟩ := T.obj _ _ st7 b hb
        exact (pin' b hb o e).2
  exact codeAny_compStart_dict loop (T.self X.A 0 _ _ _ st4 loop)
/-! ### the same through a mirror -/
def mDcT (w : MI) (g : MG) (tk tv : ME) (vs : List Nat) : ME := fun r G R => w r G fun m G1 => ∀ D, G1 D = none → ∃ W : Nat → Gp → Prop, W 0 (Mi.put G1 D (.dT [])) ∧ (∀ i G, W i G → Held G m.held) ∧
  (∀ i t G, m.its[i]? = some t → W i G → g t (wipeT r vs) G fun r2 G2 => tk r2 G2 fun y G3 => tv r2 G3 fun z G4 => ∃ (kvs : List (List Key × T)) (k : List Key), y = .pr (k.map kT) ∧ G4 D = some (.dT kvs) ∧ kvs.length < sizeLine ∧
    fwdG (W (i + 1)) (Mi.put G4 D (.dT (putT kvs k z)))) ∧ ∀ G, W m.its.length G → R (.ref D) G
theorem dcT_li {wi : MI} {g : MG} {gt : TG} {tk tv : ME} {vs : List Nat} {K : PySem.W.Frag} (hg : Gimp K g vs gt) {σ : L2.St} {H : Hp} {Q : VK} (h : liE K (mDcT wi g tk tv vs) σ H Q) : tDcT (liI K wi) gt (liE K tk) (liE K tv) vs σ H Q := by
  obtain ⟨r, G, R, hs, hg0, k, f⟩ := h
  refine ⟨r, G, _, hs, hg0, k, fun m G1 H1 J k1 l1 g1 hw => ?_⟩
  intro D hD
  obtain ⟨W, w0, wh, turn, done⟩ := k1 D (g1.fresh hD)
  have lD := Le.new (o := HO.dT []) hD
  have c0 : RCell K (upd H1 D (.dT [])) D (.dT []) := ⟨[], upd_same, rfl, rfl⟩
  refine ⟨fun i n H' => n = m.its.length - i ∧ i ≤ m.its.length ∧ ∃ G', RG K H' G' ∧ Le H1 H' ∧ W i G', ⟨m.its.length, by simp, Nat.zero_le _, _, g1.wr (nt_none hD) c0, lD, w0⟩, ?_⟩
  rintro i n H2 ⟨rfl, hi, G2, g2, l2, w2⟩
  obtain ⟨hgo, hst⟩ := hw H2 G2 l2 g2 (wh i G2 w2)
  by_cases hlt : i < m.its.length
  · obtain ⟨go, yl⟩ := hgo i m.its[i] (by simp [hlt])
    refine .inr ⟨go, _, fun H' z => ⟨m.its.length - (i + 1), by omega, z⟩, fun x H3 y => ?_⟩
    obtain ⟨l3, g3, r3⟩ := yl x H3 y
    have la3 : Le H H3 := l1.trans (l2.trans l3)
    have back : ∀ H' G', Le H3 H' → RG K H' G' → fwdG (W (i + 1)) G' → m.its.length - (i + 1) = m.its.length - (i + 1) ∧ i + 1 ≤ m.its.length ∧ ∃ G', RG K H' G' ∧ Le H1 H' ∧ W (i + 1) G' := fun H' G' l' g' ⟨G6, e2, w6⟩ =>
      ⟨rfl, hlt, G6, g'.sub e2, l2.trans (l3.trans l'), w6⟩
    refine hg x _ H3 _ m.its[i] (wipeT r vs) G2 _ r3 ((hs.le la3).wipe vs) g3 (turn i _ G2 (by simp [hlt]) w2) fun r4 G4 σ4 H4 k4 l4 hs4 g4 e4 => ?_
    have ew : wipe (wipe σ vs) vs = wipe σ vs := by
      apply List.ext_getElem?
      intro j
      rw [wipe_at, wipe_at, wipe_length]
      by_cases c : j ∈ vs ∧ j < σ.length
      · rw [if_pos c, if_pos c]
      · rw [if_neg c]
    refine ⟨e4.trans ew, r4, G4, _, hs4, g4, k4, fun yk G5 H5 v5 k5 l5 g5 r5 => ?_⟩
    refine ⟨r4, G5, _, hs4.le l5, g5, k5, fun u G6 H6 v k6 l6 g6 r6 => ?_⟩
    obtain ⟨kvs, kk, ey, ha, hz, k6⟩ := k6
    subst ey
    obtain ⟨b, ks, eb, hb, _, rks⟩ := r5
    have hb : H5 b = some (.tup (kk.map kV)) := by rw [← kTs_rp rks]; exact hb
    obtain ⟨ws, ew2, rw⟩ := g6 _ _ ha
    have l7 := Le.wr (o := .dT (putK ws kk v)) (g6.notup ha)
    exact ⟨ws, kk, b, eb, l6.1.1 _ _ hb, ew2, by rw [rw.len]; exact hz, back _ _ (l4.trans (l5.trans (l6.trans l7))) (g6.wr (g6.notup ha) (show RCell K _ D (.dT (putT kvs kk u)) from ⟨_, upd_same, (rw.put kk r6).le l7⟩)) k6⟩
  · have e : i = m.its.length := by omega
    subst e
    exact .inl ⟨hst, f (.ref D) G2 H2 (.ref D) (done G2 w2) (l1.trans l2) g2 rfl⟩
theorem o_dcT {kx vx tg iter : Expr} {scope : Scope} {own : List (Str × Nat)} {pos : Pos} {wi : MI} {g : MG} {gt : TG} {tk tv : ME} (hu : X.A.units + 1 < cLine) (hc : X.calm = true) (hN : X.N.Nodup) (hi : OI X tg iter wi) (ok : BlkOk X.N X.env.scope scope own)
    (hg : ∀ (s : Shared) (H : Hp) (C : Addr) (cl : List (Str × Addr)) (fp : List Addr), OGv (X.blk s H scope (compEnvC scope cl C X.env) fp) tg g (own.map (·.2)) gt)
    (hk : ∀ (s : Shared) (H : Hp) (C : Addr) (cl : List (Str × Addr)) (fp : List Addr), OE (X.blk s H scope (compEnvC scope cl C X.env) fp) kx tk)
    (he : ∀ (s : Shared) (H : Hp) (C : Addr) (cl : List (Str × Addr)) (fp : List Addr), OE (X.blk s H scope (compEnvC scope cl C X.env) fp) vx tv) (hs : ∀ x, foldedSetIterable iter X.env x = pure x := by intro _; rfl) :
    OE X (.DictComp kx vx [⟨tg, iter, [], 0⟩] scope pos) (mDcT wi g tk tv (own.map (·.2))) :=
  ⟨⟨fun pins s σ H Q I q => (pe_dcT hu hc hN hi.ok ok (fun s H C cl fp => (hg s H C cl fp).ok) (fun s H C cl fp => (hk s H C cl fp).ok) (fun s H C cl fp => (he s H C cl fp).ok) hs).run pins s σ H Q I (dcT_li (hg s H 0 [] []).imp q)⟩⟩
end
end Mi

set_option Elab.async false
set_option linter.all false
set_option maxRecDepth 100000
namespace Mi
open PySem L2
/-! ### which defs and lambdas a local name may hold -/
section
variable [Tb] {P : Program} {w : World} {K : PySem.W.Frag} {mg : Str → Option Value} {base : Heap} {k : Nat}
theorem ds_nil : ∀ nm sp, (nm, sp) ∈ ([] : List (Str × Sm)) → DefOk P w K mg base k nm sp := fun _ _ h => by cases h
theorem ds_cons {nm : Str} {sp : Sm} {r : List (Str × Sm)} (h : DefOk P w K mg base k nm sp) (t : ∀ nm sp, (nm, sp) ∈ r → DefOk P w K mg base k nm sp) : ∀ nm' sp', (nm', sp') ∈ (nm, sp) :: r → DefOk P w K mg base k nm' sp' := fun nm' sp' hm => by
  rcases List.mem_cons.mp hm with e | hm
  · cases e; exact h
  · exact t _ _ hm
def lamL (o : Option (Nat → Sm)) (L : LamT) (f : (Nat → Sm) → ME) : List (LamT × ME) := match o with
  | none => []
  | some S => [(L, f S)]
theorem ls_nil : ∀ L mb, (L, mb) ∈ ([] : List (LamT × ME)) → ∃ k', k = k' + 1 ∧ LamOk P w K mg base k' L mb := fun _ _ h => by cases h
theorem ls_lam {o : Option (Nat → Sm)} {L0 : LamT} {f : (Nat → Sm) → ME} (h : ∀ S, o = some S → ∃ k', k = k' + 1 ∧ LamOk P w K mg base k' L0 (f S)) : ∀ L mb, (L, mb) ∈ lamL o L0 f → ∃ k', k = k' + 1 ∧ LamOk P w K mg base k' L mb := fun L mb hm => by
  cases o with
  | none => cases hm
  | some S =>
    have e := List.mem_singleton.mp hm
    cases e
    exact h S rfl
end
/-- the lambda at the end of a call that a def returns -/
def lamIn : List Stmt → Option (Arguments × PySem.Expr × Scope)
  | [] => none
  | .Return (some (.Call _ args _ _)) _ :: r => match args.getLast? with
    | some (.Lambda p b sc _) => some (p, b, sc)
    | _ => lamIn r
  | _ :: r => lamIn r
def lamAt (st : Stmt) (qual : Str) (ps : List Str) (fv : Str) : LamT := match lamIn (defBody st) with
  | some (p, b, sc) => ⟨qual, p, b, sc, ps, fv⟩
  | none => ⟨qual, defArgs st, .Constant .none 0 ⟨0, 0, 0, 0⟩, defScope st, ps, fv⟩
end Mi

set_option Elab.async false
set_option linter.all false
set_option maxRecDepth 100000
namespace Mi
open PySem PySem.Spec PyProof.Rows L2
section
variable {X : Cx}
/-! ### a dict that is compared with an empty one -/
def rEqDE : R2 := fun x y H Q => ∃ a b ks, x = .ref a ∧ y = .ref b ∧ H a = some (.dK ks) ∧ H b = some (.dK []) ∧ Q (.bl ks.isEmpty) H
theorem op_eqDE (hu : X.A.units < cLine) : OpR X (compareOp .Eq) rEqDE := by
  intro pins s σ H x y v u Q I rx ry h
  obtain ⟨a, b, ks, rfl, rfl, ea, eb, q⟩ := h
  obtain rfl : v = Value.ref a := rx
  obtain rfl : u = Value.ref b := ry
  obtain ⟨_, ya, va, ra, da⟩ := (show ObjOk X.prog X.w H s.heap a (.dK ks) from I.hok a _ ea)
  obtain ⟨_, yb, vb, rb, db⟩ := (show ObjOk X.prog X.w H s.heap b (.dK []) from I.hok b _ eb)
  have lb : vb.length = 0 := by rw [← rb.length]; rfl
  have la : ks.length = va.length := ra.length
  refine PySem.W.keq_eq (knd := mixKind X.prog X.w) (r := true) ya yb da db hu (fun hl => ?_) (fin_bl I q ?_)
  · have : va = [] := List.length_eq_zero_iff.mp (by omega)
    subst this
    exact .nil
  · rw [lb, Bool.and_true]
    cases ks with
    | nil => 
      have : va.length = 0 := by rw [← la]; rfl
      rw [this]; rfl
    | cons z r =>
      have : va.length = r.length + 1 := by rw [← la]; rfl
      rw [this]; rfl
def oEqE : O2 := fun s t G R => ∃ a b kvs, s = .ref a ∧ t = .ref b ∧ G a = some (.dK kvs) ∧ G b = some (.dK []) ∧ R (.bl kvs.isEmpty) G
theorem op_oEqE (hu : X.A.units < cLine) : OpR X (compareOp .Eq) (liO2 X.K oEqE) := (op_eqDE hu).imp fun x y H Q h => by
  obtain ⟨s, t, G, R, rx, ry, hg, ⟨a, b, kvs, rfl, rfl, e1, e2, k⟩, f⟩ := h
  cases rx; cases ry
  obtain ⟨vs, h1, r1⟩ := (show ∃ vs, H a = some (.dK vs) ∧ Rkv X.K H vs kvs from hg _ _ e1)
  obtain ⟨ws, h2, r2⟩ := (show ∃ vs, H b = some (.dK vs) ∧ Rkv X.K H vs [] from hg _ _ e2)
  refine ⟨a, b, vs, rfl, rfl, h1, ?_, f.val hg k ?_⟩
  · obtain ⟨e, _⟩ := r2
    have : ws = [] := by simpa using e
    rw [h2, this]
  · obtain ⟨e, _⟩ := r1
    show V.bl vs.isEmpty = V.bl kvs.isEmpty
    have : vs.length = kvs.length := by have := congrArg List.length e; simpa using this
    cases vs <;> cases kvs <;> simp at this ⊢
theorem x_mulLs {a : Addr} {xs : List T} {k : Int} {G : Gp} {R : KT} (e : G a = some (.lst xs)) (h1 : 0 ≤ k) (h2 : k ≤ 1000) (h3 : xs.length * k.toNat ≤ sizeLine) (h : ∀ p, G p = none → R (.ref p) (put G p (.lst (List.replicate k.toNat xs).flatten))) : oMulU (.ref a) (.int k) G R := .inl ⟨xs, e, by omega, by omega, h3, h⟩
theorem x_eqE {a b : Addr} {kvs : List (Key × T)} {G : Gp} {R : KT} (e : G a = some (.dK kvs)) (e2 : G b = some (.dK [])) (h : R (.bl kvs.isEmpty) G) : oEqE (.ref a) (.ref b) G R := ⟨a, b, kvs, rfl, rfl, e, e2, h⟩
end
end Mi

set_option Elab.async false
set_option linter.all false
set_option maxRecDepth 100000
set_option maxHeartbeats 1000000
namespace Lw
open PySem L2 Mi
local macro_rules | `(tactic| walk_at "get") => `(tactic| first | assumption | exact put_same | (refine get_new (by assumption) ?_; walk_at "get") | (refine get_ne (by assumption) ?_; walk_at "get"))
local macro_rules | `(tactic| walk_at "sq") => `(tactic| first | assumption | exact .inl rfl | exact .inr (.inl rfl) | exact .inr (.inr ⟨_, rfl, by walk_at "get"⟩))
local macro_rules | `(tactic| walk_at "size") => `(tactic| first | assumption | (simp only [List.length_cons, List.length_nil]; decide) | (have := sizeLine_eq; omega))
local macro_rules | `(tactic| walk_at "txt") => `(tactic| first | assumption | (simp only [Str.length, Str.cps_append, Array.size_append]; have := sizeLine_eq; omega))
local macro_rules | `(tactic| walk_at "go1") => `(tactic| first
  | ((with_reducible refine' x_var ?e ?_); (case e => with_unfolding_all rfl))
  | with_reducible refine x_seq ?_
  | with_reducible refine x_asg ?_
  | with_reducible refine x_if ?_
  | with_reducible refine x_ret ?_
  | with_reducible refine x_next ?_
  | with_reducible refine x_expr ?_
  | with_reducible refine x_gname ?_
  | with_reducible refine x_gcons ?_
  | with_reducible refine x_gnil ?_
  | with_reducible refine x_gsub ?_
  | with_reducible refine x_c ?_
  | with_reducible refine x_op ?_
  | with_reducible refine x_call ?_
  | with_reducible refine x_cons ?_
  | with_reducible refine x_nil ?_
  | with_reducible refine x_par ?_
  | with_reducible refine x_tup ?_
  | with_reducible refine x_lst ?_
  | with_reducible refine x_b ?_
  | with_reducible refine x_tru ?_
  | with_reducible refine x_not ?_
  | with_reducible refine x_or ?_
  | with_reducible refine x_and ?_
  | with_reducible refine x_ife ?_
  | with_reducible refine x_add ?_
  | with_reducible refine x_sub ?_
  | with_reducible refine x_gtI ?_
  | with_reducible refine x_ltI ?_
  | with_reducible refine x_geI ?_
  | with_reducible refine x_leI ?_
  | with_reducible refine x_abs ?_
  | with_reducible refine x_intb ?_
  | with_reducible refine x_for ?_
  | with_reducible refine x_irange ?_
  | with_reducible refine x_lc ?_
  | with_reducible refine x_yes ?_
  | with_reducible refine x_bm ?_
  | with_reducible refine x_bm0 ?_
  | with_reducible refine x_andv ?_
  | with_reducible refine x_orv ?_
  | with_reducible refine x_notv ?_
  | with_reducible refine x_eqI ?_
  | with_reducible refine x_tystr ?_
  | ((with_reducible refine' x_gtup ?e ?_); (case e => with_unfolding_all rfl))
  | ((with_reducible refine' x_pow ?e ?_); (case e => exact ⟨by decide, by decide, by decide⟩))
  | ((with_reducible refine' x_ix ?e ?q ?_); (case e => walk_at "get"); (case q => with_unfolding_all rfl))
  | ((with_reducible refine' x_ixt ?q ?_); (case q => with_unfolding_all rfl))
  | ((with_reducible refine' x_sto ?e ?q ?_); (case e => walk_at "get"); (case q => with_unfolding_all rfl))
  | ((with_reducible refine' x_adds ?e ?_); (case e => walk_at "txt"))
  | ((with_reducible refine' x_muls ?e ?f ?g ?_); (case e => omega); (case f => omega); (case g => walk_at "txt"))
  | ((with_reducible refine' x_divmod ?e ?_); (case e => exact ⟨by omega, by omega⟩))
  | ((with_reducible refine' x_mod ?e ?_); (case e => omega))
  | ((with_reducible refine' x_fdivC ?e ?f ?_); (case e => omega); (case f => omega))
  | ((with_reducible refine' x_mulL ?e ?f ?_); (case e => omega); (case f => omega))
  | ((with_reducible refine' x_mulR ?e ?f ?_); (case e => omega); (case f => omega))
  | ((with_reducible refine' x_len ?e ?_); (case e => walk_at "sq"))
  | ((with_reducible refine' x_range ?e ?f ?_); (case e => omega); (case f => omega))
  | ((with_reducible refine' x_tylst ?e ?_); (case e => walk_at "get"))
  | ((with_reducible refine' x_append ?e ?f ?_); (case e => walk_at "get"); (case f => walk_at "size"))
  | ((with_reducible refine' And.intro ?e ?_); (case e => (show _ ≤ sizeLine; walk_at "size")))
  | ((with_reducible refine' Exists.intro _ (And.intro ?e ?_)); (case e => with_unfolding_all rfl)))
/-! ### the box and what is drawn of it -/
def Bx (G : Gp) (a : Addr) (N : Int) : Prop := ∃ b0 b1 b2 : Int, G a = some (.lst [.int b0, .int b1, .int b2]) ∧ 0 ≤ b0 ∧ 0 ≤ b1 ∧ b1 < 2147483647 ∧ 0 ≤ b2 ∧ b2 ≤ N
def Fr (a : Addr) (G G' : Gp) : Prop := ∀ b c, b ≠ a → G b = some c → G' b = some c
theorem Fr.refl {a : Addr} (G : Gp) : Fr a G G := fun _ _ _ h => h
theorem Fr.trans {a : Addr} {A B D : Gp} (h : Fr a A B) (k : Fr a B D) : Fr a A D := fun b c n e => k b c n (h b c n e)
theorem Fr.box {a : Addr} {G : Gp} {c : C} : Fr a G (put G a c) := fun b d n e => by rw [put_ne n]; exact e
theorem Fr.new {a p : Addr} {G : Gp} {c : C} (h : G p = none) : Fr a G (put G p c) := fun b d n e => by
  rw [put_ne (fun z => by rw [z, h] at e; cases e)]
  exact e
theorem Bx.le {a : Addr} {G : Gp} {N M : Int} (h : Bx G a N) (l : N ≤ M) : Bx G a M := by
  obtain ⟨b0, b1, b2, e, h0, h1, h2, h3, h4⟩ := h
  exact ⟨b0, b1, b2, e, h0, h1, h2, h3, by omega⟩
theorem Bx.new {a p : Addr} {G : Gp} {c : C} {N : Int} (h : Bx G a N) (hp : G p = none) : Bx (put G p c) a N := by
  obtain ⟨b0, b1, b2, e, k⟩ := h
  exact ⟨b0, b1, b2, get_new hp e, k⟩
theorem Fr.grow {a D : Addr} {A B : Gp} {c : C} (h : A D = none) (f : Fr a A B) : Fr a A (put B D c) := fun b d n q => by
  rw [put_ne (fun e => by rw [e, h] at q; cases q)]
  exact f b d n q
theorem Bx.put {a D : Addr} {G : Gp} {c : C} {N : Int} (h : Bx G a N) (n : D ≠ a) : Bx (put G D c) a N := by
  obtain ⟨b0, b1, b2, e, k⟩ := h
  exact ⟨b0, b1, b2, by rw [put_ne (Ne.symm n)]; exact e, k⟩
theorem Bx.ne {a D : Addr} {G : Gp} {N : Int} (h : Bx G a N) (n : G D = none) : D ≠ a := fun e => by
  obtain ⟨_, _, _, q, _⟩ := h
  rw [← e, n] at q
  cases q
theorem Fr.none {a D : Addr} {A B : Gp} (f : Fr a A B) (n : D ≠ a) (h : B D = none) : A D = none := by
  cases e : A D with
  | none => rfl
  | some c => rw [f _ _ n e] at h; cases h
/-! ### one of some -/
def Sq (a : Addr) (G : Gp) (s : T) (ts : List T) : Prop := s = .tup ts ∨ s = .cl ts ∨ ∃ p, p ≠ a ∧ s = .ref p ∧ G p = some (.lst ts)
theorem Sq.fr {a : Addr} {G G' : Gp} {s : T} {ts : List T} (f : Fr a G G') (h : Sq a G s ts) : Sq a G' s ts := by
  rcases h with h | h | ⟨p, n, e, h⟩
  · exact .inl h
  · exact .inr (.inl h)
  · exact .inr (.inr ⟨p, n, e, f _ _ n h⟩)
theorem Sq.is {a : Addr} {G : Gp} {s : T} {ts : List T} (h : Sq a G s ts) : isSq G s ts := by
  rcases h with h | h | ⟨p, n, e, h⟩
  · exact .inl h
  · exact .inr (.inl h)
  · exact .inr (.inr ⟨p, e, h⟩)
theorem atI_nat {α : Type} {xs : List α} {i : Int} (h0 : 0 ≤ i) (h1 : i < xs.length) : ∃ u, atI xs i = some u ∧ u ∈ xs := by
  have h : i.toNat < xs.length := by omega
  refine ⟨xs[i.toNat], ?_, List.getElem_mem h⟩
  unfold atI ixN
  rw [if_pos h0, if_pos h1]
  show xs[i.toNat]? = _
  exact List.getElem?_eq_getElem h
/-! ### names -/
def Wd (z : Str) : Prop := 1 ≤ z.cps.size ∧ z.cps.size ≤ 8 ∧ ∀ c ∈ z.cps.toList, 97 ≤ c ∧ c < 123
def Lt (z : Str) : Prop := ∃ c, z = ⟨#[c]⟩ ∧ 97 ≤ c ∧ c < 123
theorem letters_at : ∀ c ∈ (Str.ofString "abcdefghijklmnopqrstuvwxyz").cps.toList, 97 ≤ c ∧ c < 123 := by decide +kernel
theorem letter {i : Int} (h0 : 0 ≤ i) (h1 : i < 26) : ∃ c, atI (Str.ofString "abcdefghijklmnopqrstuvwxyz").cps.toList i = some c ∧ 97 ≤ c ∧ c < 123 := by
  obtain ⟨c, e, m⟩ := atI_nat (xs := (Str.ofString "abcdefghijklmnopqrstuvwxyz").cps.toList) h0 (by rw [show (Str.ofString "abcdefghijklmnopqrstuvwxyz").cps.toList.length = 26 by decide +kernel]; exact h1)
  exact ⟨c, e, letters_at c m⟩
theorem letters_len : (Str.ofString "abcdefghijklmnopqrstuvwxyz").length ≤ sizeLine := by decide +kernel
theorem join_lts : ∀ zs : List Str, (∀ z ∈ zs, Lt z) → (Txt.join (Str.ofString "") zs).cps.size = zs.length ∧ ∀ c ∈ (Txt.join (Str.ofString "") zs).cps.toList, 97 ≤ c ∧ c < 123
  | [], _ => ⟨rfl, fun c h => by cases h⟩
  | [z], h => by
    obtain ⟨c, rfl, h1⟩ := h z (by simp)
    rw [TL.join_eq]
    refine ⟨rfl, fun d hd => ?_⟩
    have : d = c := by simpa [Str.join] using hd
    rw [this]; exact h1
  | z :: y :: r, h => by
    obtain ⟨c, rfl, h1⟩ := h z (by simp)
    obtain ⟨i1, i2⟩ := join_lts (y :: r) fun x hx => h x (List.mem_cons_of_mem _ hx)
    rw [TL.join_eq] at i1 i2 ⊢
    have e : Str.join (Str.ofString "") (⟨#[c]⟩ :: y :: r) = ⟨#[c]⟩ ++ Str.ofString "" ++ Str.join (Str.ofString "") (y :: r) := rfl
    rw [e]
    have e2 : (Str.ofString "").cps = #[] := rfl
    simp only [Str.cps_append, e2, Array.append_empty, Array.size_append, Array.toList_append]
    refine ⟨by rw [i1]; simp; omega, fun d hd => ?_⟩
    rcases List.mem_append.mp hd with q | q
    · have : d = c := by simpa using q
      rw [this]; exact h1
    · exact i2 d q
theorem lts_sum : ∀ zs : List Str, (∀ z ∈ zs, Lt z) → (zs.map (·.length)).sum = zs.length
  | [], _ => rfl
  | z :: r, h => by
    obtain ⟨c, rfl, _⟩ := h z (by simp)
    rw [List.map_cons, List.sum_cons, lts_sum r fun x hx => h x (List.mem_cons_of_mem _ hx)]
    show 1 + r.length = _
    rw [List.length_cons]; omega
theorem map_str {zs : List Str} {z : Str} : zs.map T.str ++ [T.str z] = (zs ++ [z]).map T.str := by simp
theorem app_wd {stem : Str} {c n : Nat} (h1 : stem.cps.size ≤ 5) (h2 : ∀ c ∈ stem.cps.toList, 97 ≤ c ∧ c < 123) (l : 97 ≤ c ∧ c < 123) (hn : n = 0 ∨ n = 1) : Wd (stem ++ ⟨#[c]⟩ ++ repS (Str.ofString "ab") n) := by
  have e : (repS (Str.ofString "ab") n).cps.toList = if n = 1 then [97, 98] else [] := by
    rcases hn with rfl | rfl <;> rfl
  have s2 : (repS (Str.ofString "ab") n).cps.size ≤ 2 := by
    rw [← Array.length_toList, e]
    split <;> simp
  refine ⟨?_, ?_, fun d hd => ?_⟩
  · simp only [Str.cps_append, Array.size_append]
    show 1 ≤ stem.cps.size + 1 + _
    omega
  · simp only [Str.cps_append, Array.size_append]
    show stem.cps.size + 1 + _ ≤ 8
    omega
  · simp only [Str.cps_append, Array.toList_append, List.mem_append] at hd
    rcases hd with (q | q) | q
    · exact h2 d q
    · have : d = c := by simpa using q
      rw [this]; exact l
    · rw [e] at q
      split at q
      · simp at q; omega
      · cases q
theorem ab_size {n : Nat} (hn : n = 0 ∨ n = 1) : (repS (Str.ofString "ab") n).cps.size ≤ 2 := by rcases hn with rfl | rfl <;> decide
theorem x_ab {b : Bool} {G : Gp} {R : KT} (h : ∀ n : Nat, (n = 0 ∨ n = 1) → R (.str (repS (Str.ofString "ab") n)) G) : oMulU (.str (Str.ofString "ab")) (.int (if b = true then 1 else 0)) G R := by
  cases b
  · exact x_muls (by decide) (by decide) (by decide) (h 0 (.inl rfl))
  · exact x_muls (by decide) (by decide) (by decide) (h 1 (.inr rfl))
/-! ### words are texts that can be laid -/
theorem Wd.ok {z : Str} (h : Wd z) : PyData.strOk z = true := by
  unfold PyData.strOk
  rw [Array.all_eq_true']
  intro c hc
  have := h.2.2 c (by simpa using hc)
  exact decide_eq_true (by omega)
theorem depth_strs : ∀ xs : List Str, PyData.depthAll (xs.map PyData.str) = 0 := strs_depth
theorem lay_strs : ∀ xs : List Str, (∀ z ∈ xs, PyData.strOk z = true) → PyData.canLayAll0 (xs.map PyData.str) = true
  | [], _ => rfl
  | x :: xs, h => by
    rw [List.map_cons]
    simp only [PyData.canLayAll0, PyData.canLay0, h x (by simp), lay_strs xs fun z hz => h z (List.mem_cons_of_mem _ hz), Bool.and_self]
theorem dt_strs {G : Gp} : ∀ xs : List Str, DtAll G (xs.map T.str) (xs.map PyData.str)
  | [] => .nil
  | x :: xs => .cons (.str x) (dt_strs xs)
def prT (p : Str × Str) : T := .tup [.str p.1, .str p.2]
def prD (p : Str × Str) : PyData := .tuple [.str p.1, .str p.2]
theorem dt_prs {G : Gp} : ∀ xs : List (Str × Str), DtAll G (xs.map prT) (xs.map prD)
  | [] => .nil
  | x :: xs => .cons (.tup (.cons (.str _) (.cons (.str _) .nil))) (dt_prs xs)
theorem lay_prs : ∀ xs : List (Str × Str), (∀ z ∈ xs, PyData.strOk z.1 = true ∧ PyData.strOk z.2 = true) → PyData.canLayAll0 (xs.map prD) = true
  | [], _ => rfl
  | x :: xs, h => by
    rw [List.map_cons]
    simp only [prD, PyData.canLayAll0, PyData.canLay0, (h x (by simp)).1, (h x (by simp)).2, Bool.and_self, Bool.true_and]
    exact lay_prs xs fun z hz => h z (List.mem_cons_of_mem _ hz)
theorem depth_prs : ∀ xs : List (Str × Str), PyData.depthAll (xs.map prD) ≤ 1
  | [] => Nat.zero_le _
  | x :: xs => by
    rw [List.map_cons]
    have := depth_prs xs
    simp only [prD, PyData.depthAll, PyData.depth]
    simp
    exact Nat.max_le.mpr ⟨Nat.le_refl _, this⟩
theorem x_eqNil {p q : Addr} {G : Gp} {zs : List Str} {R : KT} (e : G p = some (.lst (zs.map T.str))) (e2 : G q = some (.lst [])) (ok : ∀ z ∈ zs, Wd z) (h : R (.bl zs.isEmpty) G) : oEq (.ref p) (.ref q) G R := by
  refine ⟨.list (zs.map PyData.str), .list [], .lst (.inr ⟨p, rfl, e⟩) (dt_strs zs), .lst (.inr ⟨q, rfl, e2⟩) .nil, ?_, rfl, ?_⟩
  · unfold SeqAt.shaped
    have e3 := lay_strs zs fun z hz => (ok z hz).ok
    have e4 := depth_strs zs
    exact Bool.and_eq_true_iff.mpr ⟨e3, decide_eq_true (by show PyData.depthAll _ + 1 ≤ 64; omega)⟩
  · cases zs <;> exact h
theorem x_eqNilP {p q : Addr} {G : Gp} {zs : List (Str × Str)} {R : KT} (e : G p = some (.lst (zs.map prT))) (e2 : G q = some (.lst [])) (ok : ∀ z ∈ zs, Wd z.1 ∧ Wd z.2) (h : R (.bl zs.isEmpty) G) : oEq (.ref p) (.ref q) G R := by
  refine ⟨.list (zs.map prD), .list [], .lst (.inr ⟨p, rfl, e⟩) (dt_prs zs), .lst (.inr ⟨q, rfl, e2⟩) .nil, ?_, rfl, ?_⟩
  · unfold SeqAt.shaped
    have e4 := depth_prs zs
    have e3 := lay_prs zs fun z hz => ⟨(ok z hz).1.ok, (ok z hz).2.ok⟩
    exact Bool.and_eq_true_iff.mpr ⟨e3, decide_eq_true (by show PyData.depthAll _ + 1 ≤ 64; omega)⟩
  · cases zs <;> exact h
/-! ### the words that a term is made of -/
theorem x_dget {mo mi : ME} {r : Mi.Env} {G : Gp} {R : KT} (h : mo r G fun s G1 => mi r G1 fun t G2 => ∃ a u, s = .ref a ∧ gtT G2 a t (some u) ∧ R u G2) : mDGet mo mi r G R := h
/-- an int among ints -/
theorem x_inI {i : Int} {js : List Int} {G : Gp} {R : KT} (h : R (.bl (js.any fun j => j == i)) G) : oInA false (.int i) (.tup (js.map T.int)) G R := by
  refine .inl ⟨_, .inl rfl, rfl, by simp [T.flat], ?_⟩
  simpa [List.any_map, Function.comp_def, T.eqf] using h
theorem x_ninI {i : Int} {js : List Int} {G : Gp} {R : KT} (h : R (.bl (!js.any fun j => j == i)) G) : oInA true (.int i) (.tup (js.map T.int)) G R := by
  refine .inl ⟨_, .inl rfl, rfl, by simp [T.flat], ?_⟩
  simpa [List.any_map, Function.comp_def, T.eqf] using h
/-! ### terms -/
/-! ### slices of mapped lists -/
theorem cut_map {α β : Type} (f : α → β) (xs : List α) (lo hi : Option Int) : cutT (xs.map f) lo hi = (cutT xs lo hi).map f := by
  unfold cutT
  rw [List.length_map, ← List.map_drop, ← List.map_take]
theorem cut_mem {α : Type} {xs : List α} {lo hi : Option Int} {x : α} (h : x ∈ cutT xs lo hi) : x ∈ xs := List.mem_of_mem_drop (List.mem_of_mem_take h)
theorem x_sl {m : ME} {l h : MO} {r : Mi.Env} {G : Gp} {R : KT} (k : m r G fun t G1 => l r G1 fun lo G2 => h r G2 fun hi G3 => oSl t lo hi G3 R) : mSl m l h r G R := k
theorem x_slN {r : Mi.Env} {G : Gp} {R : Option Int → Gp → Prop} (k : R none G) : moN r G R := k
theorem x_slL {p : Addr} {G : Gp} {zs : List Str} {lo hi : Option Int} {R : KT} (e : G p = some (.lst (zs.map T.str))) (k : ∀ q, G q = none → R (.ref q) (put G q (.lst ((cutT zs lo hi).map T.str)))) : oSl (.ref p) lo hi G R :=
  .inr (.inl ⟨_, .inr ⟨p, rfl, e⟩, fun q hq => by rw [cut_map]; exact k q hq⟩)
theorem x_iseq {m : ME} {r : Mi.Env} {G : Gp} {N : MIt → Gp → Prop} (h : m r G fun t G1 => ∃ ts, srcT G1 t ts ∧ N ⟨ts, heldT t ts⟩ G1) : miSeq m r G N := h
/-! ### some of the labels -/
/-! ### what drawing a term costs -/
def Cs (C : Int) : Nat → Int
  | 0 => 0
  | n + 1 => Cs C n + (C + 1)
theorem Cs_le {C : Int} (hC : 0 ≤ C) : ∀ {n m : Nat}, n ≤ m → Cs C n ≤ Cs C m
  | n, 0, h => by rw [Nat.le_zero.mp h]; exact Int.le_refl _
  | n, m + 1, h => by
    by_cases e : n = m + 1
    · rw [e]; exact Int.le_refl _
    · have := Cs_le hC (n := n) (m := m) (by omega)
      show _ ≤ Cs C m + (C + 1)
      omega
theorem Cs9 (C : Int) : Cs C 9 = 9 * C + 9 := by simp only [Cs]; omega
def wayT (p : Str × Str × T) : T := .tup [.str p.1, .str p.2.1, p.2.2]
theorem x_tru_lst {p : Addr} {ts : List T} {G : Gp} {q : Bool → Prop} (e : G p = some (.lst ts)) (h : q (!ts.isEmpty)) : ∃ k, truT G (.ref p) k ∧ q k := ⟨_, .inl ⟨ts, e, rfl⟩, h⟩
theorem x_catL {p q : Addr} {xs ys : List T} {G : Gp} {R : KT} (e : G p = some (.lst xs)) (e2 : G q = some (.lst ys)) (c : xs.length + ys.length ≤ sizeLine) (h : ∀ n, G n = none → R (.ref n) (put G n (.lst (xs ++ ys)))) : oAdd (.ref p) (.ref q) G R := ⟨xs, ys, e, e2, c, h⟩
/-! ### terms as they are drawn -/
theorem x_orT {c d : MT} {r : Mi.Env} {G : Gp} {R : Bool → Gp → Prop} (h : c r G fun b G1 => if b = true then R true G1 else d r G1 R) : tmOr c d r G R := h
theorem beqd (m i : Int) : (m == i) = decide (i = m) := by
  by_cases h : i = m
  · rw [decide_eq_true h, h]
    exact beq_self_eq_true m
  · rw [decide_eq_false h]
    exact beq_eq_false_iff_ne.mpr (Ne.symm h)
theorem x_in2 {i m n : Int} {G : Gp} {R : KT} (h : R (.bl (decide (i = m) || decide (i = n))) G) : oInA false (.int i) (.tup [.int m, .int n]) G R := by
  refine x_inI (js := [m, n]) ?_
  have e : ([m, n].any fun j => j == i) = (decide (i = m) || decide (i = n)) := by
    rw [List.any_cons, List.any_cons, List.any_nil, Bool.or_false, beqd, beqd]
  rw [e]; exact h
theorem x_nin3 {i m n o : Int} {G : Gp} {R : KT} (h : R (.bl (!(decide (i = m) || decide (i = n) || decide (i = o)))) G) : oInA true (.int i) (.tup [.int m, .int n, .int o]) G R := by
  refine x_ninI (js := [m, n, o]) ?_
  have e : ([m, n, o].any fun j => j == i) = (decide (i = m) || decide (i = n) || decide (i = o)) := by
    rw [List.any_cons, List.any_cons, List.any_cons, List.any_nil, Bool.or_false, beqd, beqd, beqd, Bool.or_assoc]
  rw [e]; exact h
theorem x_catT {xs ys : List T} {G : Gp} {R : KT} (c : xs.length + ys.length ≤ sizeLine) (h : R (.tup (xs ++ ys)) G) : oAdd (.tup xs) (.tup ys) G R := ⟨c, h⟩
/-! ### the box as it is made -/
theorem x_lenC {ts : List T} {G : Gp} {R : KT} (h : R (.int ts.length) G) : omLen [.cl ts] G R := ⟨_, rfl, .inl ⟨ts, .inr (.inl rfl), h⟩⟩
/-! ### the words -/
theorem x_disp {ps : List (Str × ME)} {r : Mi.Env} {G : Gp} {R : KT} (h : ∀ p, G p = none → mPairs ps r (put G p (.dK [])) fun kvs G2 => G2 p = some (.dK []) ∧ kvs.length ≤ 15 ∧ R (.ref p) (put G2 p (.dK (mergeT [] kvs)))) : mDisp ps r G R := h
theorem x_pcons {k : Str} {m : ME} {ps : List (Str × ME)} {r : Mi.Env} {G : Gp} {K : List (Key × T) → Gp → Prop} (h : m r G fun t G1 => mPairs ps r G1 fun kvs G2 => K ((.inr k, t) :: kvs) G2) : mPairs ((k, m) :: ps) r G K := h
theorem x_pnil {r : Mi.Env} {G : Gp} {K : List (Key × T) → Gp → Prop} (h : K [] G) : mPairs [] r G K := h
theorem x_slS {m : ME} {r : Mi.Env} {G : Gp} {R : Option Int → Gp → Prop} (k : m r G fun t G1 => ∃ i, t = .int i ∧ R (some i) G1) : moS m r G R := k
theorem len9 {zs : List Str} (h : (zs.length : Int) = 9) : ∃ z0 z1 z2 z3 z4 z5 z6 z7 z8, zs = [z0, z1, z2, z3, z4, z5, z6, z7, z8] := by
  match zs, h with
  | [z0, z1, z2, z3, z4, z5, z6, z7, z8], _ => exact ⟨z0, z1, z2, z3, z4, z5, z6, z7, z8, rfl⟩
  | [], h | [_], h | [_, _], h | [_, _, _], h | [_, _, _, _], h | [_, _, _, _, _], h | [_, _, _, _, _, _], h | [_, _, _, _, _, _, _], h | [_, _, _, _, _, _, _, _], h => simp at h
  | _ :: _ :: _ :: _ :: _ :: _ :: _ :: _ :: _ :: _ :: _, h => simp at h; omega
/-! ### parts -/
def Ext (G G' : Gp) : Prop := ∀ b c, G b = some c → G' b = some c
theorem Ext.refl (G : Gp) : Ext G G := fun _ _ h => h
theorem Ext.trans {A B D : Gp} (h : Ext A B) (k : Ext B D) : Ext A D := fun b c e => k b c (h b c e)
theorem Ext.new {p : Addr} {G : Gp} {c : C} (h : G p = none) : Ext G (put G p c) := fun b d e => get_new h e
theorem Ext.grow {D : Addr} {A B : Gp} {c : C} (h : A D = none) (f : Ext A B) : Ext A (put B D c) := fun b d q => by
  rw [put_ne (fun e => by rw [e, h] at q; cases q)]
  exact f b d q
theorem Ext.none {D : Addr} {A B : Gp} (f : Ext A B) (h : B D = none) : A D = none := by
  cases e : A D with
  | none => rfl
  | some c => rw [f _ _ e] at h; cases h
theorem Ext.fr {a : Addr} {A B : Gp} (f : Ext A B) : Fr a A B := fun b c _ e => f b c e
inductive Kd : T → List T → Prop
  | num {i : Int} : Kd (.tup [.str "num", .int i]) []
  | name {x : Str} : Kd (.tup [.str "name", .str x]) []
  | frm {m x : Str} : Kd (.tup [.str "from", .str m, .str x]) []
  | hole : Kd (.tup [.str "hole"]) []
  | fn {x : Str} {t : T} : Kd (.tup [.str "fun", .str x, t]) [t]
  | bin {w : Str} {s t : T} : Kd (.tup [.str w, s, t]) [s, t]
  | under {s t u v : T} : Kd (.tup [.str "under", s, t, u, v]) [s, t, u, v]
  | rcd {ps : List (Str × T)} : Kd (.tup [.str "rec", .tup (ps.map fun p => .tup [.str p.1, p.2])]) (ps.map (·.2))
  | get {x : Str} {t : T} : Kd (.tup [.str "get", t, .str x]) [t]
  | put {x : Str} {t u : T} : Kd (.tup [.str "put", t, .str x, u]) [t, u]
  | tag {x : Str} {t : T} : Kd (.tup [.str "tag", .str x, t]) [t]
  | case {t : T} {ps : List (Str × Str × T)} : Kd (.tup [.str "case", t, .tup (ps.map fun p => .tup [.str p.1, .str p.2.1, p.2.2])]) (t :: ps.map (·.2.2))
/-- a new list, or a tuple -/
def Fs (G G' : Gp) (s : T) (us : List T) : Prop := s = .tup us ∨ ∃ p, s = .ref p ∧ G p = none ∧ G' p = some (.lst us)
theorem x_inS4 {z w1 w2 w3 w4 : Str} {b : Bool} {G : Gp} {R : KT} (e : (w1 == z || (w2 == z || (w3 == z || w4 == z))) = b) (h : R (.bl b) G) : oInA false (.str z) (.tup [.str w1, .str w2, .str w3, .str w4]) G R := by
  refine .inl ⟨_, .inl rfl, rfl, rfl, ?_⟩
  have e2 : ([T.str w1, .str w2, .str w3, .str w4].any fun y => y.eqf (.str z)) = b := by
    rw [← e]
    simp only [List.any_cons, List.any_nil, Bool.or_false, T.eqf]
  show R (.bl _) G
  rw [if_neg (by decide), e2]
  exact h
theorem x_eqSb {i j : Str} {b : Bool} {G : Gp} {R : KT} (c : SeqAt.shaped (.str i) = true) (c2 : SeqAt.shaped (.str j) = true) (e : (i == j) = b) (h : R (.bl b) G) : oEq (.str i) (.str j) G R := x_eqS c c2 (by rw [← e] at h; exact h)
theorem x_slT {ts : List T} {lo hi : Option Int} {G : Gp} {R : KT} (h : R (.tup (cutT ts lo hi)) G) : oSl (.tup ts) lo hi G R := .inl ⟨ts, rfl, h⟩
theorem last_ok {r : Mi.Env} {G : Gp} {ts us : List T} {w : Str} {R : KT} (h0 : r[0]? = some (some (.tup ts))) (h1 : r[1]? = some (some (.str w)))
    (e : (lookT ([(.inr "fun", T.tup (cutT ts (some 2) none)), (.inr "get", .tup (cutT ts (some 1) (some 2))), (.inr "put", .tup (cutT ts (some 1) (some 2) ++ cutT ts (some 3) none)), (.inr "tag", .tup (cutT ts (some 2) none))] : List (Key × T)) (.inr w)).getD (.tup (cutT ts (some 1) none)) = .tup us)
    (sz : ts.length ≤ 9) (main : ∀ G1, Ext G G1 → R (.tup us) G1) :
    mGet2 (mDisp [("fun", (mSl (mVar 0) (moS (mC (.int 2))) moN)), ("get", (mSl (mVar 0) (moS (mC (.int 1))) (moS (mC (.int 2))))), ("put", (mOp oAdd (mSl (mVar 0) (moS (mC (.int 1))) (moS (mC (.int 2)))) (mSl (mVar 0) (moS (mC (.int 3))) moN))), ("tag", (mSl (mVar 0) (moS (mC (.int 2))) moN))]) (mVar 1) (mSl (mVar 0) (moS (mC (.int 1))) moN) r G R := by
  have l1 := cutT_length ts (some 1) (some 2)
  have l3 := cutT_length ts (some 3) none
  refine x_disp fun d hd => ?_
  refine x_pcons (x_sl (x_var h0 (x_slS (x_c ⟨2, rfl, x_slN (x_slT ?_)⟩))))
  refine x_pcons (x_sl (x_var h0 (x_slS (x_c ⟨1, rfl, x_slS (x_c ⟨2, rfl, x_slT ?_⟩)⟩))))
  refine x_pcons (x_op (x_sl (x_var h0 (x_slS (x_c ⟨1, rfl, x_slS (x_c ⟨2, rfl, x_slT (x_sl (x_var h0 (x_slS (x_c ⟨3, rfl, x_slN (x_slT (x_catT (by have := sizeLine_eq; omega) ?_))⟩))))⟩)⟩)))))
  refine x_pcons (x_sl (x_var h0 (x_slS (x_c ⟨2, rfl, x_slN (x_slT (x_pnil ⟨put_same, by simp, ?_⟩))⟩))))
  refine ⟨d, rfl, .inl ⟨_, put_same⟩, ?_⟩
  refine x_var h1 (x_sl (x_var h0 (x_slS (x_c ⟨1, rfl, x_slN (x_slT ⟨_, .inl ⟨_, .inr w, .inl put_same, rfl, rfl⟩, ?_⟩)⟩))))
  have f : Ext G (put (put G d (.dK [])) d (.dK (mergeT [] [(.inr "fun", .tup (cutT ts (some 2) none)), (.inr "get", .tup (cutT ts (some 1) (some 2))), (.inr "put", .tup (cutT ts (some 1) (some 2) ++ cutT ts (some 3) none)), (.inr "tag", .tup (cutT ts (some 2) none))]))) := Ext.grow hd (Ext.new hd)
  have q := main _ f
  rw [← e] at q
  exact q
/-! ### places -/
inductive Pl : T → List (List Nat) → Prop
  | mk {t : T} {us : List T} {pss : List (List (List Nat))} : Kd t us → pss.length = us.length → (∀ (j : Nat) (u : T) (l : List (List Nat)), us[j]? = some u → pss[j]? = some l → Pl u l) →
    Pl t ((pss.mapIdx fun j l => l.map (j :: ·)).flatten ++ [[]])
def plT (l : List Nat) : T := .tup (l.map fun i => .int (i : Nat))
def Pb : Nat → Nat
  | 0 => 1
  | n + 1 => 10 * Pb n + 1
def Pn (c : Nat) : Nat → Nat
  | 0 => 0
  | i + 1 => Pn c i + c
theorem Pn_le {c : Nat} : ∀ {i m : Nat}, i ≤ m → Pn c i ≤ Pn c m
  | i, 0, h => by rw [Nat.le_zero.mp h]; exact Nat.le_refl _
  | i, m + 1, h => by
    by_cases e : i = m + 1
    · rw [e]; exact Nat.le_refl _
    · exact Nat.le_trans (Pn_le (c := c) (i := i) (m := m) (by omega)) (Nat.le_add_right _ _)
theorem Pn10 (c : Nat) : Pn c 10 = 10 * c := by simp only [Pn]; omega
theorem enum_at {ts : List T} {i : Nat} {t : T} (h : (enumT 0 ts)[i]? = some t) : ∃ u, ts[i]? = some u ∧ t = .pr [.int (i : Nat), u] := by
  unfold enumT at h
  rw [List.getElem?_mapIdx] at h
  cases e : ts[i]? with
  | none => rw [e] at h; cases h
  | some u =>
    rw [e] at h
    refine ⟨u, rfl, ?_⟩
    have q := Option.some.inj h
    rw [← q, Int.zero_add]
theorem x_ienum {m : ME} {r : Mi.Env} {G : Gp} {N : MIt → Gp → Prop} (h : m r G fun t G1 => ∃ ts, srcT G1 t ts ∧ N ⟨enumT 0 ts, heldT t ts⟩ G1) : miEnum m r G N := h
theorem Fs.src {G G' : Gp} {s : T} {us : List T} (h : Fs G G' s us) : srcT G' s us := by
  rcases h with h | ⟨p, e, _, h⟩
  · exact .inl h
  · exact .inr (.inl (.inr ⟨p, e, h⟩))
theorem Fs.held {A G G' : Gp} {s : T} {us : List T} (h : Fs A G s us) (f : Ext G G') : Held G' (heldT s us) := by
  rcases h with h | ⟨p, e, _, h⟩
  · rw [h]; intro q hq; cases hq
  · rw [e]
    intro q hq
    have : q = (p, us) := by simpa [heldT] using hq
    subst this
    exact f _ _ h
/-! ### some term -/
theorem x_neg {m : ME} {r : Mi.Env} {G : Gp} {R : KT} (h : m r G fun t G1 => ∃ i, t = .int i ∧ R (.int (-i)) G1) : mNeg m r G R := h
theorem atI_neg {α : Type} {xs : List α} (h : 1 ≤ xs.length) : ∃ u, atI xs (-1) = some u ∧ u ∈ xs := by
  have l : xs.length - 1 < xs.length := by omega
  refine ⟨xs[xs.length - 1], ?_, List.getElem_mem l⟩
  unfold atI ixN
  rw [if_neg (by decide), if_pos (by omega)]
  show xs[(-1 + (xs.length : Int)).toNat]? = _
  rw [show (-1 + (xs.length : Int)).toNat = xs.length - 1 by omega]
  exact List.getElem?_eq_getElem l
/-! ### words, looked at -/
def nmC (c : Nat) : Bool := decide (97 ≤ c) && decide (c ≤ 122)
def isNm : T → Bool
  | .str z => decide (1 ≤ z.length) && decide (z.length ≤ 8) && z.cps.toList.all nmC
  | _ => false
theorem x_isi {t : T} {c nm : String} {G : Gp} {R : KT} (h : tyN G t = some nm) (hc : knownTy c) (k : R (.bl (isKind nm c)) G) : omIsi [t, .ty c] G R := ⟨t, c, nm, rfl, hc, h, k⟩
theorem x_chain {o o' : O2} {ma mb mc : ME} {r : Mi.Env} {G : Gp} {R : KT} (h : ma r G fun s G1 => mb r G1 fun t G2 => o s t G2 fun z G3 => ∃ k, z = .bl k ∧ (if k = true then mc r G3 fun u G4 => o' t u G4 R else R (.bl false) G3)) : mChain o o' ma mb mc r G R := h
theorem x_leS {x y : Str} {G : Gp} {R : KT} (h : R (.bl (!decide (y.cps.toList < x.cps.toList))) G) : oLeU (.str x) (.str y) G R := h
theorem x_inTx {c : Nat} {z : Str} {G : Gp} {R : KT} (h : R (.bl (decide (c ∈ z.cps.toList))) G) : oInA false (.str ⟨#[c]⟩) (.str z) G R := .inr (.inr ⟨c, z, rfl, rfl, h⟩)
theorem x_all {p : Addr} {bs : List Bool} {G : Gp} {R : KT} (e : G p = some (.lst (bs.map T.bl))) (h : R (.bl (bs.all id)) G) : omAll [.ref p] G R := ⟨_, bs, rfl, .inr ⟨p, rfl, e⟩, h⟩
theorem x_lenS {z : Str} {G : Gp} {R : KT} (l : z.length ≤ sizeLine) (h : R (.int z.length) G) : omLen [.str z] G R := ⟨_, rfl, .inr (.inl ⟨z, rfl, l, h⟩)⟩
theorem le1 (x y : Nat) : (!decide ([y] < [x])) = decide (x ≤ y) := by
  have e : [y] < [x] ↔ y < x := by
    rw [List.cons_lt_cons_iff]
    constructor
    · rintro (h | ⟨_, h⟩)
      · exact h
      · exact absurd h (List.not_lt_nil _)
    · exact .inl
  by_cases h : x ≤ y
  · rw [decide_eq_true h, decide_eq_false (fun q => by have := e.mp q; omega)]
    rfl
  · rw [decide_eq_false h, decide_eq_true (e.mpr (by omega))]
    rfl
theorem sign_at {z : Str} {i : Nat} {t : T} (h : (signT z)[i]? = some t) : ∃ c, z.cps.toList[i]? = some c ∧ t = .str ⟨#[c]⟩ := by
  unfold signT at h
  rw [List.getElem?_map] at h
  cases e : z.cps.toList[i]? with
  | none => rw [e] at h; cases h
  | some c =>
    rw [e] at h
    exact ⟨c, rfl, (Option.some.inj h).symm⟩
theorem isS_false {G : Gp} {t : T} {nm : String} (h : tyN G t = some nm) (ns : ∀ z, t ≠ .str z) : isKind nm "str" = false := by
  cases t with
  | str z => exact absurd rfl (ns z)
  | ref p =>
    unfold tyN at h
    cases e : G p with
    | none => simp [e] at h
    | some c => cases c <;> first | (simp [e] at h; done) | (simp [e] at h; subst h; decide)
  | non => cases h; decide
  | bl _ => cases h; decide
  | int _ => cases h; decide
  | tup _ => cases h; decide
  | cl _ => cases h; decide
  | ty _ => cases h
  | pr _ => cases h
theorem isNm_ns {t : T} (ns : ∀ z, t ≠ .str z) : isNm t = false := by
  cases t with
  | str z => exact absurd rfl (ns z)
  | _ => rfl
theorem isNm_str {z : Str} : isNm (.str z) = (decide (1 ≤ z.length) && decide (z.length ≤ 8) && z.cps.toList.all nmC) := rfl
/-- the signs of a text, each by a test -/
theorem signs_ok {r : Mi.Env} {G : Gp} {z : Str} {i : Nat} {te : ME} {f : Nat → Bool} {R : KT} (h0 : r[0]? = some (some (.str z))) (hz : z.length ≤ 1000)
    (step : ∀ c G1 K, Ext G G1 → K (.bl (f c)) G1 → te ((wipeT r [i]).set i (some (.str ⟨#[c]⟩))) G1 K) (hR : ∀ D G', G' D = some (.lst ((z.cps.toList.map f).map T.bl)) → Ext G G' → R (.ref D) G') :
    mLc (miSeq (mVar 0)) (mgName i) mtYes te [i] r G R := by
  refine x_lc (x_iseq (x_var h0 ⟨signT z, .inr (.inr ⟨z, rfl, rfl⟩), fun D hD => ?_⟩))
  have take_s : ∀ j y, z.cps.toList[j]? = some y → (z.cps.toList.take (j + 1)).map (fun c => T.bl (f c)) = (z.cps.toList.take j).map (fun c => T.bl (f c)) ++ [T.bl (f y)] := fun j y e => by
    rw [List.take_succ, e, List.map_append]
    rfl
  refine ⟨fun j G' => G' D = some (.lst ((z.cps.toList.take j).map fun c => T.bl (f c))) ∧ Ext G G', ⟨put_same, Ext.new hD⟩, fun j G' _ q hq => (by cases hq), ?_, ?_⟩
  · intro j t G' ht ⟨w1, w2⟩
    obtain ⟨c, e, rfl⟩ := sign_at ht
    refine x_gname (x_yes ?_)
    rw [if_pos rfl]
    refine step c G' _ w2 ⟨_, w1, ?_, fwdG.of ⟨by rw [put_same, take_s j c e], Ext.grow hD w2⟩⟩
    rw [List.length_map, List.length_take]
    have := sizeLine_eq
    have l2 : z.cps.toList.length ≤ 1000 := by simpa [Str.length] using hz
    omega
  · intro G' ⟨w1, w2⟩
    have w1' : G' D = some (.lst ((z.cps.toList.take (signT z).length).map fun c => T.bl (f c))) := w1
    rw [show (signT z).length = z.cps.toList.length by unfold signT; rw [List.length_map], List.take_length] at w1'
    exact hR D G' (by rw [List.map_map]; exact w1') w2
theorem word_shape {t : T} {G : Gp} {R : KT} {nm : String} {te : ME} (ht : tyN G t = some nm) (hz : ∀ z, t = .str z → z.length ≤ 1000) (hR : ∀ G', Ext G G' → R (.bl (isNm t)) G')
    (step : ∀ (z : Str) (c : Nat) (G1 : Gp) (K : KT), K (.bl (nmC c)) G1 → te ((wipeT [some (.str z), none] [1]).set 1 (some (.str ⟨#[c]⟩))) G1 K) :
    (msSeq (msIf (tmOr (tmNot (mTru (mCall omIsi (maCons (mVar 0) (maCons (mC (.ty "str")) maNil))))) (tmNot (mB (mChain oLeU oLeU (mC (.int 1)) (mCall omLen (maCons (mVar 0) maNil)) (mC (.int 8)))))) (msRet (mC (.bl false))) msNext) (msRet (mCall omAll (maCons (mLc (miSeq (mVar 0)) (mgName 1) mtYes te [1]) maNil))))
      { nx := fun _ G' => fwdT R T.non G', rt := fwdT R } (List.map some [t] ++ List.replicate (2 - 1) none) G := by
  repeat walk_at "go1"
  refine x_isi ht (by simp [knownTy]) ?_
  refine ⟨_, rfl, ?_⟩
  by_cases hs : ∃ z, t = .str z
  · obtain ⟨z, rfl⟩ := hs
    have hz2 := hz z rfl
    cases ht
    rw [if_neg (by decide)]
    refine x_not (x_b (x_chain (x_c (x_call (x_cons (x_var rfl (x_nil (x_lenS (by have := sizeLine_eq; omega) (x_leI ⟨_, rfl, ?_⟩)))))))))
    have bad : (decide (1 ≤ z.length) && decide (z.length ≤ 8)) = false → fwdT R (.bl false) G := fun e => by
      have := hR G (Ext.refl G)
      rw [isNm_str, e] at this
      exact fwdT.of this
    have body : (decide (1 ≤ z.length) && decide (z.length ≤ 8)) = true → mLc (miSeq (mVar 0)) (mgName 1) mtYes te [1] (List.map some [T.str z] ++ List.replicate (2 - 1) none) G
        (fun t G1 => maNil (List.map some [T.str z] ++ List.replicate (2 - 1) none) G1 fun ts G2 => omAll (t :: ts) G2 (fwdT R)) := by
      intro e
      refine signs_ok (f := nmC) rfl hz2 (fun c G1 K f1 k => ?_) fun D G' e1 f1 => ?_
      · exact step z c G1 K k
      · refine x_nil (x_all e1 (fwdT.of ?_))
        have := hR G' f1
        rw [isNm_str, e, Bool.true_and] at this
        rw [List.all_map]
        exact this
    have i1 : decide ((1 : Int) ≤ (z.length : Nat)) = decide (1 ≤ z.length) := by by_cases h : 1 ≤ z.length <;> simp [h] <;> omega
    have i2 : decide (((z.length : Nat) : Int) ≤ 8) = decide (z.length ≤ 8) := by by_cases h : z.length ≤ 8 <;> simp [h] <;> omega
    refine x_ite (fun q => ?_) (fun q => ?_)
    · rw [i1] at q
      refine x_c (x_leI ⟨_, rfl, ?_⟩)
      rw [i2]
      refine x_ite (fun q2 => ?_) (fun q2 => ?_)
      · repeat walk_at "go1"
        refine bad ?_
        rw [q]
        cases h8 : decide (z.length ≤ 8)
        · rfl
        · rw [h8] at q2; cases q2
      · with_reducible refine x_next ?_
        with_reducible refine x_ret ?_
        with_reducible refine x_call ?_
        with_reducible refine x_cons ?_
        refine body ?_
        rw [q]
        cases h8 : decide (z.length ≤ 8)
        · rw [h8] at q2; cases q2
        · rfl
    · rw [i1] at q
      refine ⟨_, rfl, ?_⟩
      rw [if_pos (by decide)]
      repeat walk_at "go1"
      refine bad ?_
      rw [q]
      rfl
  · have ns : ∀ z, t ≠ .str z := fun z e => hs ⟨z, e⟩
    rw [isS_false ht ns]
    rw [if_pos (by decide)]
    rw [if_pos rfl]
    repeat walk_at "go1"
    have := hR G (Ext.refl G)
    rw [isNm_ns ns] at this
    exact fwdT.of this
theorem letters_all : (Str.ofString "abcdefghijklmnopqrstuvwxyz").cps.toList = (List.range 26).map (· + 97) := by decide +kernel
theorem letters_in (c : Nat) : decide (c ∈ (Str.ofString "abcdefghijklmnopqrstuvwxyz").cps.toList) = nmC c := by
  rw [letters_all]
  unfold nmC
  rw [← Bool.decide_and]
  refine decide_eq_decide.mpr ?_
  rw [List.mem_map]
  constructor
  · rintro ⟨i, hi, rfl⟩
    have := List.mem_range.mp hi
    omega
  · intro h
    exact ⟨c - 97, List.mem_range.mpr (by omega), by omega⟩
/-! a text stripped of letters: nothing is left where all are letters -/
theorem tw_all {g : Nat → Bool} : ∀ {l : List Nat}, l.all g = true → (l.takeWhile g).length = l.length
  | [], _ => rfl
  | a :: r, h => by
    rw [List.all_cons, Bool.and_eq_true] at h
    rw [List.takeWhile_cons, if_pos h.1, List.length_cons, List.length_cons, tw_all h.2]
theorem tw_not {g : Nat → Bool} : ∀ {l : List Nat}, l.all g = false → (l.takeWhile g).length < l.length ∧ ∃ c r, l.drop (l.takeWhile g).length = c :: r ∧ g c = false
  | [], h => by cases h
  | a :: r, h => by
    by_cases ha : g a = true
    · rw [List.all_cons, ha, Bool.true_and] at h
      obtain ⟨h1, c, r2, h2, h3⟩ := tw_not h
      rw [List.takeWhile_cons, if_pos ha, List.length_cons, List.length_cons]
      exact ⟨by omega, c, r2, h2, h3⟩
    · rw [List.takeWhile_cons, if_neg ha]
      exact ⟨by simp, a, r, rfl, by simpa using ha⟩
theorem tw_end {g : Nat → Bool} {c : Nat} (hc : g c = false) : ∀ xs : List Nat, ((xs ++ [c]).takeWhile g).length ≤ xs.length
  | [] => by rw [List.nil_append, List.takeWhile_cons, if_neg (by rw [hc]; decide)]; exact Nat.le_refl _
  | a :: r => by
    have := tw_end hc r
    rw [List.cons_append, List.takeWhile_cons]
    split
    · rw [List.length_cons, List.length_cons]; omega
    · exact Nat.zero_le _
theorem sub_len (z : Str) (i j : Nat) : (Builtin.Str.strSub z i j).length = min j z.length - i := by
  show (z.cps.extract i j).size = _
  rw [Array.size_extract]
  rfl
theorem strip_len (z y : Str) (h1 : 1 ≤ z.length) : (((Txt.stripChars z y).length : Int) != 0) = !(z.cps.toList.all y.cps.contains) := by
  have hl : z.cps.toList.length = z.length := by simp [Str.length]
  have sl := sub_len z
  have key : (Txt.stripChars z y).length = 0 ↔ z.cps.toList.all y.cps.contains = true := by
    unfold Txt.stripChars Txt.stripBy
    cases ha : z.cps.toList.all y.cps.contains with
    | true =>
      have e1 := tw_all ha
      have e2 : stripLo y.cps.contains true z = z.length := by
        unfold stripLo
        rw [if_pos rfl, e1, hl]
      have e3 : stripSame y.cps.contains true true z = false := by
        unfold stripSame
        rw [e2, show (z.length == 0) = false from beq_eq_false_iff_ne.mpr (by omega)]
        rfl
      rw [e3, if_neg (by decide)]
      unfold stripped
      rw [e2, sl]
      have : min (stripHi y.cps.contains true z z.length) z.length ≤ z.length := Nat.min_le_right _ _
      constructor
      · intro _; rfl
      · intro _; omega
    | false =>
      obtain ⟨e1, c, r, e2, e3⟩ := tw_not ha
      have e4 : stripLo y.cps.contains true z = (z.cps.toList.takeWhile y.cps.contains).length := by
        unfold stripLo
        rw [if_pos rfl]
      have e5 : stripHi y.cps.contains true z (stripLo y.cps.contains true z) = z.length - ((c :: r).reverse.takeWhile y.cps.contains).length := by
        unfold stripHi
        rw [if_pos rfl, e4, e2]
      have e6 := tw_end (g := y.cps.contains) e3 r.reverse
      rw [← List.reverse_cons, List.length_reverse] at e6
      have e7 := congrArg List.length e2
      rw [List.length_drop, List.length_cons] at e7
      constructor
      · intro h
        exfalso
        split at h
        · omega
        · unfold stripped at h
          rw [e5, e4, sl] at h
          have e8 : min (z.length - ((c :: r).reverse.takeWhile y.cps.contains).length) z.length = z.length - ((c :: r).reverse.takeWhile y.cps.contains).length := Nat.min_eq_left (Nat.sub_le _ _)
          rw [e8] at h
          omega
      · intro h; cases h
  cases ha : z.cps.toList.all y.cps.contains with
  | true => rw [key.mpr ha]; rfl
  | false =>
    have : (Txt.stripChars z y).length ≠ 0 := fun e => by rw [key.mp e] at ha; cases ha
    show (((Txt.stripChars z y).length : Int) != 0) = true
    rw [bne_iff_ne]
    omega
theorem strip_le (z y : Str) : (Txt.stripChars z y).length ≤ z.length := by
  unfold Txt.stripChars Txt.stripBy
  split
  · exact Nat.le_refl _
  · unfold stripped
    rw [sub_len]
    have : min (stripHi y.cps.contains true z (stripLo y.cps.contains true z)) z.length ≤ z.length := Nat.min_le_right _ _
    omega
theorem x_strip {z y : Str} {G : Gp} {R : KT} (l : z.length ≤ sizeLine) (h : R (.str (Txt.stripChars z y)) G) : omStripChars (.str z) [.str y] G R := ⟨z, y, rfl, rfl, l, h⟩
theorem letters_con (c : Nat) : (Str.ofString "abcdefghijklmnopqrstuvwxyz").cps.contains c = nmC c := by
  rw [← letters_in c, Bool.eq_iff_iff]
  simp
/-! ### data: numbers, texts, truths, None, tuples and lists of these -/
inductive Nd (G : Gp) : Nat → T → PyData → Prop
  | non {n : Nat} : Nd G n .non .none
  | bl {n : Nat} {b : Bool} : Nd G n (.bl b) (.bool b)
  | int {n : Nat} {i : Int} : i.natAbs ≤ 1000000000 → Nd G n (.int i) (.int i)
  | str {n : Nat} {z : Str} : z.length ≤ 1000 → PyData.strOk z = true → Nd G n (.str z) (.str z)
  | tup {n : Nat} {ts : List T} {ds : List PyData} : ts.length ≤ 60 → ds.length = ts.length → (∀ (i : Nat) (t : T) (d : PyData), ts[i]? = some t → ds[i]? = some d → Nd G n t d) → Nd G (n + 1) (.tup ts) (.tuple ds)
  | lst {n : Nat} {p : Addr} {ts : List T} {ds : List PyData} : G p = some (.lst ts) → ts.length ≤ 60 → ds.length = ts.length → (∀ (i : Nat) (t : T) (d : PyData), ts[i]? = some t → ds[i]? = some d → Nd G n t d) → Nd G (n + 1) (.ref p) (.list ds)
theorem Nd.ext {G G' : Gp} (f : Ext G G') {n : Nat} {t : T} {d : PyData} (h : Nd G n t d) : Nd G' n t d := by
  induction h with
  | non => exact .non
  | bl => exact .bl
  | int a => exact .int a
  | str a b => exact .str a b
  | tup a b _ i => exact .tup a b i
  | lst e a b _ i => exact .lst (f _ _ e) a b i
theorem Nd.le {G : Gp} {n : Nat} {t : T} {d : PyData} (h : Nd G n t d) : ∀ {m : Nat}, n ≤ m → Nd G m t d := by
  induction h with
  | non => intro m _; exact .non
  | bl => intro m _; exact .bl
  | int a => intro m _; exact .int a
  | str a b => intro m _; exact .str a b
  | tup a b _ i => intro m l; obtain ⟨m, rfl⟩ : ∃ m', m = m' + 1 := ⟨m - 1, by omega⟩; exact .tup a b fun j t d e1 e2 => i j t d e1 e2 (by omega)
  | lst e a b _ i => intro m l; obtain ⟨m, rfl⟩ : ∃ m', m = m' + 1 := ⟨m - 1, by omega⟩; exact .lst e a b fun j t d e1 e2 => i j t d e1 e2 (by omega)
theorem dtAll_of {G : Gp} : ∀ {ts : List T} {ds : List PyData}, ds.length = ts.length → (∀ (i : Nat) (t : T) (d : PyData), ts[i]? = some t → ds[i]? = some d → Dt G t d) → DtAll G ts ds
  | [], [], _, _ => .nil
  | t :: ts, d :: ds, h, k => .cons (k 0 t d rfl rfl) (dtAll_of (by simpa using h) fun i t d a b => k (i + 1) t d (by simpa using a) (by simpa using b))
  | [], _ :: _, h, _ => by simp at h
  | _ :: _, [], h, _ => by simp at h
theorem Nd.dt {G : Gp} {n : Nat} {t : T} {d : PyData} (h : Nd G n t d) : Dt G t d := by
  induction h with
  | non => exact .non
  | bl => exact .bl _
  | int a => exact .int _
  | str a b => exact .str _
  | tup a b _ i => exact .tup (dtAll_of b i)
  | lst e a b _ i => exact .lst (.inr ⟨_, rfl, e⟩) (dtAll_of b i)
theorem all_of {p : PyData → Prop} {ts : List T} {ds : List PyData} (h : ds.length = ts.length) (k : ∀ (i : Nat) (t : T) (d : PyData), ts[i]? = some t → ds[i]? = some d → p d) : ∀ d ∈ ds, p d := by
  intro d hd
  obtain ⟨i, hi, e⟩ := List.mem_iff_getElem.mp hd
  have hi2 : i < ts.length := by omega
  exact k i ts[i] d (List.getElem?_eq_getElem hi2) (by rw [List.getElem?_eq_getElem hi, e])
theorem canLay_all : ∀ {ds : List PyData}, (∀ d ∈ ds, d.canLay0 = true) → PyData.canLayAll0 ds = true
  | [], _ => rfl
  | d :: ds, h => by
    simp only [PyData.canLayAll0, h d (by simp), canLay_all fun x hx => h x (List.mem_cons_of_mem _ hx), Bool.and_self]
theorem depth_all : ∀ {ds : List PyData} {n : Nat}, (∀ d ∈ ds, d.depth ≤ n) → PyData.depthAll ds ≤ n
  | [], _, _ => Nat.zero_le _
  | d :: ds, n, h => Nat.max_le.mpr ⟨h d (by simp), depth_all fun x hx => h x (List.mem_cons_of_mem _ hx)⟩
theorem show_all : ∀ {ds : List PyData}, (∀ d ∈ ds, d.showable = true) → PyData.showableAll ds = true
  | [], _ => rfl
  | d :: ds, h => by simp only [PyData.showableAll, h d (by simp), show_all fun x hx => h x (List.mem_cons_of_mem _ hx), Bool.and_self]
theorem nodict_all : ∀ {ds : List PyData}, (∀ d ∈ ds, d.hasDict = false) → PyData.hasDictAll ds = false
  | [], _ => rfl
  | d :: ds, h => by simp only [PyData.hasDictAll, h d (by simp), nodict_all fun x hx => h x (List.mem_cons_of_mem _ hx), Bool.or_self]
theorem Nd.lay {G : Gp} {n : Nat} {t : T} {d : PyData} (h : Nd G n t d) : d.canLay0 = true := by
  induction h with
  | non => rfl
  | bl => rfl
  | int a => rfl
  | str a b => exact b
  | tup a b _ i => exact canLay_all (all_of b i)
  | lst e a b _ i => exact canLay_all (all_of b i)
theorem Nd.depth {G : Gp} {n : Nat} {t : T} {d : PyData} (h : Nd G n t d) : d.depth ≤ n := by
  induction h with
  | non => exact Nat.zero_le _
  | bl => exact Nat.zero_le _
  | int a => exact Nat.zero_le _
  | str a b => exact Nat.zero_le _
  | tup a b _ i => exact Nat.succ_le_succ (depth_all (all_of b i))
  | lst e a b _ i => exact Nat.succ_le_succ (depth_all (all_of b i))
theorem Nd.shaped {G : Gp} {n : Nat} {t : T} {d : PyData} (h : Nd G n t d) (hn : n ≤ 64) : SeqAt.shaped d = true := Bool.and_eq_true_iff.mpr ⟨h.lay, decide_eq_true (Nat.le_trans h.depth hn)⟩
theorem Nd.shows {G : Gp} {n : Nat} {t : T} {d : PyData} (h : Nd G n t d) : d.showable = true := by
  induction h with
  | non => rfl
  | bl => rfl
  | int a =>
    rename_i i
    refine decide_eq_true ?_
    by_cases h0 : i.natAbs = 0
    · rw [h0]; decide
    · exact Nat.lt_trans ((Nat.log2_lt h0).mpr (show i.natAbs < 2 ^ 40 by omega)) (by decide)
  | str a b => rfl
  | tup a b _ i => exact show_all (all_of b i)
  | lst e a b _ i => exact show_all (all_of b i)
theorem Nd.nodict {G : Gp} {n : Nat} {t : T} {d : PyData} (h : Nd G n t d) : d.hasDict = false := by
  induction h with
  | non => rfl
  | bl => rfl
  | int a => rfl
  | str a b => rfl
  | tup a b _ i => exact nodict_all (all_of b i)
  | lst e a b _ i => exact nodict_all (all_of b i)
theorem Nd.ty {G : Gp} {n : Nat} {t : T} {d : PyData} (h : Nd G n t d) : ∃ nm, tyN G t = some nm := by
  cases h with
  | lst e _ _ _ => exact ⟨"list", by simp only [tyN, e]⟩
  | non => exact ⟨_, rfl⟩
  | bl => exact ⟨_, rfl⟩
  | int _ => exact ⟨_, rfl⟩
  | str _ _ => exact ⟨_, rfl⟩
  | tup _ _ _ => exact ⟨_, rfl⟩
theorem Nd.len {G : Gp} {n : Nat} {t : T} {d : PyData} (h : Nd G n t d) : ∀ z, t = .str z → z.length ≤ 1000 := fun z e => by
  subst e
  cases h with
  | str a b => exact a
theorem Nd.kid {G : Gp} {n : Nat} {ts : List T} {d : PyData} (h : Nd G n (.tup ts) d) : ∀ t ∈ ts, ∃ m d', n = m + 1 ∧ Nd G m t d' := by
  cases h with
  | tup a b c =>
    rename_i m ds
    intro t ht
    obtain ⟨i, hi, e⟩ := List.mem_iff_getElem.mp ht
    have hi2 : i < ds.length := by omega
    exact ⟨m, ds[i], rfl, c i t ds[i] (by rw [List.getElem?_eq_getElem hi, e]) (List.getElem?_eq_getElem hi2)⟩
theorem Nd.size60 {G : Gp} {n : Nat} {ts : List T} {d : PyData} (h : Nd G n (.tup ts) d) : ts.length ≤ 60 := by
  cases h with
  | tup a b c => exact a
theorem Nd.size {G : Gp} {n : Nat} {ts : List T} {d : PyData} (h : Nd G n (.tup ts) d) : ts.length ≤ 1000 := Nat.le_trans h.size60 (by decide)

/-! ### pairs, each by a test -/
theorem srcT.ext {G G' : Gp} {s : T} {ts : List T} (f : Ext G G') (h : srcT G s ts) : srcT G' s ts := by
  rcases h with h | (h | ⟨p, e, h⟩) | h
  · exact .inl h
  · exact .inr (.inl (.inl h))
  · exact .inr (.inl (.inr ⟨p, e, f _ _ h⟩))
  · exact .inr (.inr h)
theorem x_izip {m m2 : ME} {r : Mi.Env} {G : Gp} {N : MIt → Gp → Prop} (h : m r G fun t G1 => m2 r G1 fun u G2 => ∃ ts us, srcT G2 t ts ∧ srcT G2 u us ∧ N ⟨List.zipWith (fun a b => T.pr [a, b]) ts us, heldT t ts ++ heldT u us⟩ G2) : miZip m m2 r G N := h
theorem zip_ok {r : Mi.Env} {G : Gp} {m1 m2 te : ME} {i j : Nat} {ts us : List T} {f : T → T → Bool} {R : KT} (hl : ts.length ≤ 1000)
    (src : ∀ K : T → T → Gp → Prop, (∀ s1 s2 G1, Ext G G1 → srcT G1 s1 ts → srcT G1 s2 us → K s1 s2 G1) → m1 r G fun t G1 => m2 r G1 fun u G2 => K t u G2)
    (step : ∀ a b G1 K, a ∈ ts → b ∈ us → Ext G G1 → K (.bl (f a b)) G1 → te (((wipeT r [i, j]).set i (some a)).set j (some b)) G1 K)
    (hR : ∀ D G', G' D = some (.lst ((List.zipWith f ts us).map T.bl)) → Ext G G' → R (.ref D) G') :
    mLc (miZip m1 m2) (mgTup 2 (mgCons (mgName i) (mgCons (mgName j) mgNil))) mtYes te [i, j] r G R := by
  refine x_lc (x_izip (src (fun t u G2 => ∃ ts us, srcT G2 t ts ∧ srcT G2 u us ∧ ∀ D, G2 D = none → ∃ W : Nat → Gp → Prop, W 0 (Mi.put G2 D (.lst [])) ∧ (∀ i G, W i G → Held G (heldT t ts ++ heldT u us)) ∧
    (∀ i_1 t_1 G, (List.zipWith (fun a b => T.pr [a, b]) ts us)[i_1]? = some t_1 → W i_1 G → mgTup 2 (mgCons (mgName i) (mgCons (mgName j) mgNil)) t_1 (wipeT r [i, j]) G fun r2 G2 => mtYes r2 G2 fun b G3 =>
      if b = true then te r2 G3 fun u G4 => ∃ acc, G4 D = some (.lst acc) ∧ acc.length < sizeLine ∧ fwdG (W (i_1 + 1)) (Mi.put G4 D (.lst (acc ++ [u]))) else fwdG (W (i_1 + 1)) G3) ∧ ∀ G, W (List.zipWith (fun a b => T.pr [a, b]) ts us).length G → R (.ref D) G) ?_))
  intro s1 s2 G1 f1 h1 h2
  refine ⟨ts, us, h1, h2, fun D hD => ?_⟩
  have zl : (List.zipWith f ts us).length ≤ 1000 := by rw [List.length_zipWith]; omega
  refine ⟨fun n G' => G' D = some (.lst (((List.zipWith f ts us).take n).map T.bl)) ∧ Ext G1 G', ⟨put_same, Ext.new hD⟩, ?_, ?_, ?_⟩
  · intro n G' ⟨_, w2⟩ p hp
    rcases List.mem_append.mp hp with q | q
    · exact srcT.held (Lw.srcT.ext w2 h1) p q
    · exact srcT.held (Lw.srcT.ext w2 h2) p q
  · intro n t G' ht ⟨w1, w2⟩
    rw [List.getElem?_zipWith] at ht
    cases e1 : ts[n]? with
    | none => rw [e1] at ht; cases ht
    | some a =>
      cases e2 : us[n]? with
      | none => rw [e1, e2] at ht; cases ht
      | some b =>
        rw [e1, e2] at ht
        cases ht
        have e3 : (List.zipWith f ts us)[n]? = some (f a b) := by rw [List.getElem?_zipWith, e1, e2]
        refine x_gpr rfl (x_gcons (x_gname (x_gcons (x_gname (x_gnil (x_yes ?_))))))
        rw [if_pos rfl]
        refine step a b G' _ (List.mem_of_getElem? e1) (List.mem_of_getElem? e2) (f1.trans w2) ⟨_, w1, ?_, fwdG.of ⟨?_, Ext.grow hD w2⟩⟩
        · rw [List.length_map, List.length_take]
          have := sizeLine_eq
          omega
        · rw [put_same, List.take_succ, e3, List.map_append]
          rfl
  · intro G' ⟨w1, w2⟩
    have e : (List.zipWith (fun a b => T.pr [a, b]) ts us).length = (List.zipWith f ts us).length := by rw [List.length_zipWith, List.length_zipWith]
    have w1' : G' D = some (.lst (((List.zipWith f ts us).take (List.zipWith (fun a b => T.pr [a, b]) ts us).length).map T.bl)) := w1
    rw [e, List.take_length] at w1'
    exact hR D G' w1' (f1.trans w2)
theorem zip_ok2 {r : Mi.Env} {G : Gp} {m1 m2 te : ME} {i j : Nat} {ts us : List T} {f : T → T → Bool} {R : KT} (hl : ts.length ≤ 1000)
    (src : ∀ K : T → T → Gp → Prop, (∀ s1 s2 G1, Ext G G1 → srcT G1 s1 ts → srcT G1 s2 us → K s1 s2 G1) → m1 r G fun t G1 => m2 r G1 fun u G2 => K t u G2)
    (step : ∀ a b G1 K, a ∈ ts → b ∈ us → Ext G G1 → (∀ G', Ext G1 G' → K (.bl (f a b)) G') → te (((wipeT r [i, j]).set i (some a)).set j (some b)) G1 K)
    (hR : ∀ D G', G' D = some (.lst ((List.zipWith f ts us).map T.bl)) → Ext G G' → R (.ref D) G') :
    mLc (miZip m1 m2) (mgTup 2 (mgCons (mgName i) (mgCons (mgName j) mgNil))) mtYes te [i, j] r G R := by
  refine x_lc (x_izip (src (fun t u G2 => ∃ ts us, srcT G2 t ts ∧ srcT G2 u us ∧ ∀ D, G2 D = none → ∃ W : Nat → Gp → Prop, W 0 (Mi.put G2 D (.lst [])) ∧ (∀ i G, W i G → Held G (heldT t ts ++ heldT u us)) ∧
    (∀ i_1 t_1 G, (List.zipWith (fun a b => T.pr [a, b]) ts us)[i_1]? = some t_1 → W i_1 G → mgTup 2 (mgCons (mgName i) (mgCons (mgName j) mgNil)) t_1 (wipeT r [i, j]) G fun r2 G2 => mtYes r2 G2 fun b G3 =>
      if b = true then te r2 G3 fun u G4 => ∃ acc, G4 D = some (.lst acc) ∧ acc.length < sizeLine ∧ fwdG (W (i_1 + 1)) (Mi.put G4 D (.lst (acc ++ [u]))) else fwdG (W (i_1 + 1)) G3) ∧ ∀ G, W (List.zipWith (fun a b => T.pr [a, b]) ts us).length G → R (.ref D) G) ?_))
  intro s1 s2 G1 f1 h1 h2
  refine ⟨ts, us, h1, h2, fun D hD => ?_⟩
  have zl : (List.zipWith f ts us).length ≤ 1000 := by rw [List.length_zipWith]; omega
  refine ⟨fun n G' => G' D = some (.lst (((List.zipWith f ts us).take n).map T.bl)) ∧ Ext G1 G', ⟨put_same, Ext.new hD⟩, ?_, ?_, ?_⟩
  · intro n G' ⟨_, w2⟩ p hp
    rcases List.mem_append.mp hp with q | q
    · exact srcT.held (Lw.srcT.ext w2 h1) p q
    · exact srcT.held (Lw.srcT.ext w2 h2) p q
  · intro n t G' ht ⟨w1, w2⟩
    rw [List.getElem?_zipWith] at ht
    cases e1 : ts[n]? with
    | none => rw [e1] at ht; cases ht
    | some a =>
      cases e2 : us[n]? with
      | none => rw [e1, e2] at ht; cases ht
      | some b =>
        rw [e1, e2] at ht
        cases ht
        have e3 : (List.zipWith f ts us)[n]? = some (f a b) := by rw [List.getElem?_zipWith, e1, e2]
        refine x_gpr rfl (x_gcons (x_gname (x_gcons (x_gname (x_gnil (x_yes ?_))))))
        rw [if_pos rfl]
        refine step a b G' _ (List.mem_of_getElem? e1) (List.mem_of_getElem? e2) (f1.trans w2) fun G4 f4 => ⟨_, f4 _ _ w1, ?_, fwdG.of ⟨?_, Ext.grow hD (w2.trans f4)⟩⟩
        · rw [List.length_map, List.length_take]
          have := sizeLine_eq
          omega
        · rw [put_same, List.take_succ, e3, List.map_append]
          rfl
  · intro G' ⟨w1, w2⟩
    have e : (List.zipWith (fun a b => T.pr [a, b]) ts us).length = (List.zipWith f ts us).length := by rw [List.length_zipWith, List.length_zipWith]
    have w1' : G' D = some (.lst (((List.zipWith f ts us).take (List.zipWith (fun a b => T.pr [a, b]) ts us).length).map T.bl)) := w1
    rw [e, List.take_length] at w1'
    exact hR D G' w1' (f1.trans w2)
/-! ### texts that rise -/
def sLt (x y : T) : Bool := match x, y with
  | .str a, .str b => decide (a.cps.toList < b.cps.toList)
  | _, _ => false
def asc (xs : List T) : Bool := (List.zipWith sLt xs (xs.drop 1)).all id
theorem cut1 {α : Type} (xs : List α) : cutT xs (some 1) none = xs.drop 1 := by
  unfold cutT HT.sIx
  cases xs with
  | nil => rfl
  | cons x r => simp
theorem x_ltS {x y : Str} {G : Gp} {R : KT} (h : R (.bl (decide (x.cps.toList < y.cps.toList))) G) : oLtU (.str x) (.str y) G R := h
theorem x_geS {x y : Str} {G : Gp} {R : KT} (h : R (.bl (!decide (x.cps.toList < y.cps.toList))) G) : oGeU (.str x) (.str y) G R := h
/-! ### rows, by the program -/
theorem isT_false {G : Gp} {t : T} {nm : String} (h : tyN G t = some nm) (ns : ∀ z, t ≠ .tup z) : isKind nm "tuple" = false := by
  cases t with
  | tup z => exact absurd rfl (ns z)
  | ref p =>
    unfold tyN at h
    cases e : G p with
    | none => simp [e] at h
    | some c => cases c <;> first | (simp [e] at h; done) | (simp [e] at h; subst h; decide)
  | non => cases h; decide
  | bl _ => cases h; decide
  | int _ => cases h; decide
  | str _ => cases h; decide
  | cl _ => cases h; decide
  | ty _ => cases h
  | pr _ => cases h
theorem x_neI {i j : Int} {G : Gp} {R : KT} (h : R (.bl (!decide (i = j))) G) : oNe (.int i) (.int j) G R := ⟨.int i, .int j, .int i, .int j, rfl, rfl, h⟩
def headT : T → T
  | .tup (x :: _) => x
  | _ => .non
def rowOkP (w : Int) : T → Bool
  | .tup ts => decide ((ts.length : Nat) = w) && isNm (headT (.tup ts))
  | _ => false
def rowsP (w : Int) : T → Bool
  | .tup rs => rs.all (rowOkP w) && asc (rs.map headT)
  | _ => false
theorem rowsP_nt {w : Int} {t : T} (h : ∀ z, t ≠ .tup z) : rowsP w t = false := by
  cases t with
  | tup z => exact absurd rfl (h z)
  | _ => rfl
theorem rowOkP_nt {w : Int} {t : T} (h : ∀ z, t ≠ .tup z) : rowOkP w t = false := by
  cases t with
  | tup z => exact absurd rfl (h z)
  | _ => rfl
theorem isNm_s {t : T} (h : isNm t = true) : ∃ z, t = .str z := by
  cases t with
  | str z => exact ⟨z, rfl⟩
  | _ => cases h
theorem strs_of : ∀ {ts : List T}, (∀ t ∈ ts, ∃ z, t = T.str z) → ∃ zs : List Str, ts = zs.map T.str
  | [], _ => ⟨[], rfl⟩
  | t :: ts, h => by
    obtain ⟨z, rfl⟩ := h t (by simp)
    obtain ⟨zs, rfl⟩ := strs_of fun u hu => h u (List.mem_cons_of_mem _ hu)
    exact ⟨z :: zs, rfl⟩
theorem atI0 {α : Type} (x : α) (r : List α) : atI (x :: r) 0 = some x := by
  unfold atI ixN
  rw [if_pos (by decide), if_pos (by rw [List.length_cons]; omega)]
  rfl
/-! ### rows, by the law -/
theorem cutLast {α : Type} (xs : List α) : cutT xs none (some (-1)) = xs.dropLast := by
  unfold cutT HT.sIx
  rw [List.dropLast_eq_take]
  cases xs with
  | nil => rfl
  | cons x r => simp; omega
def lastT : List T → T
  | [] => .non
  | [x] => x
  | _ :: y :: r => lastT (y :: r)
theorem atI_last : ∀ {xs : List T}, xs ≠ [] → atI xs (-1) = some (lastT xs) := by
  intro xs h
  have l : xs.length - 1 < xs.length := by have := List.length_pos_iff.mpr h; omega
  unfold atI ixN
  rw [if_neg (by decide), if_pos (by omega)]
  show xs[(-1 + (xs.length : Int)).toNat]? = _
  rw [show (-1 + (xs.length : Int)).toNat = xs.length - 1 by omega]
  have key : ∀ (xs : List T), xs ≠ [] → xs[xs.length - 1]? = some (lastT xs) := by
    intro xs
    induction xs with
    | nil => intro h; exact absurd rfl h
    | cons x r ih =>
      intro _
      cases r with
      | nil => rfl
      | cons y r2 =>
        have := ih (by simp)
        show (x :: y :: r2)[(y :: r2).length]? = some (lastT (y :: r2))
        rw [← this]
        simp
  exact key xs h
theorem last_mem : ∀ {xs : List T}, xs ≠ [] → lastT xs ∈ xs
  | [], h => absurd rfl h
  | [x], _ => by simp [lastT]
  | x :: y :: r, _ => List.mem_cons_of_mem _ (last_mem (xs := y :: r) (by simp))
def rowOkL (one : T → Bool) (size : Int) : T → Bool
  | .tup xs => decide ((xs.length : Nat) = size) && (xs.dropLast.all isNm && one (lastT xs))
  | _ => false
def rowsL (one : T → Bool) (size least : Int) : T → Bool
  | .tup rs => decide (least ≤ (rs.length : Nat)) && (rs.all (rowOkL one size) && asc (rs.map headT))
  | _ => false
theorem rowOkL_nt {one : T → Bool} {w : Int} {t : T} (h : ∀ z, t ≠ .tup z) : rowOkL one w t = false := by
  cases t with
  | tup z => exact absurd rfl (h z)
  | _ => rfl
theorem rowsL_nt {one : T → Bool} {w l : Int} {t : T} (h : ∀ z, t ≠ .tup z) : rowsL one w l t = false := by
  cases t with
  | tup z => exact absurd rfl (h z)
  | _ => rfl
/-! ### terms, looked at -/
def isNumT : List T → Bool
  | [.int i] => decide (0 ≤ i) && decide (i ≤ 99990)
  | _ => false
def bySort (one : T → Bool) (c : Nat) (t : T) : Bool := if c = 116 then one t else isNm t
def recL (one : T → Bool) : List T → Bool
  | [t] => rowsL one 2 0 t
  | _ => false
def caseL (one : T → Bool) : List T → Bool
  | [t, rs] => one t && rowsL one 3 1 rs
  | _ => false
def tabL (one : T → Bool) (rest : List T) : Option Str → Bool
  | some sg => decide (rest.length = sg.length) && (List.zipWith (bySort one) sg.cps.toList rest).all id
  | none => false
theorem zipBy_congr {f g : Nat → T → Bool} : ∀ {cs : List Nat} {ts : List T}, (∀ t ∈ ts, ∀ c, f c t = g c t) → List.zipWith f cs ts = List.zipWith g cs ts
  | [], _, _ => by simp
  | _ :: _, [], _ => by simp
  | c :: cs, t :: ts, h => by
    rw [List.zipWith_cons_cons, List.zipWith_cons_cons, h t (by simp) c, zipBy_congr fun u hu => h u (List.mem_cons_of_mem _ hu)]
theorem all_congr {α : Type} {f g : α → Bool} : ∀ {xs : List α}, (∀ x ∈ xs, f x = g x) → xs.all f = xs.all g
  | [], _ => rfl
  | x :: xs, h => by
    rw [List.all_cons, List.all_cons, h x (by simp), all_congr fun y hy => h y (List.mem_cons_of_mem _ hy)]
theorem rowsL_congr {f g : T → Bool} {w l : Int} {t : T} (hw : 1 ≤ w) (h : ∀ rs, t = .tup rs → ∀ y ∈ rs, ∀ xs, y = .tup xs → ∀ u ∈ xs, f u = g u) : rowsL f w l t = rowsL g w l t := by
  cases t with
  | tup rs =>
    have e : rs.all (rowOkL f w) = rs.all (rowOkL g w) := all_congr fun y hy => by
      cases y with
      | tup xs =>
        show (decide ((xs.length : Nat) = w) && (xs.dropLast.all isNm && f (lastT xs))) = (decide ((xs.length : Nat) = w) && (xs.dropLast.all isNm && g (lastT xs)))
        by_cases hx : xs = []
        · subst hx
          rw [decide_eq_false (by simp; omega)]
          rfl
        · rw [h rs rfl _ hy xs rfl _ (last_mem hx)]
      | _ => rfl
    show (decide _ && (rs.all (rowOkL f w) && _)) = (decide _ && (rs.all (rowOkL g w) && _))
    rw [e]
  | _ => rfl
/-! ### the law's table of words -/
def tb (ps : List (Str × Str)) : List (Key × T) := ps.map fun p => (.inr p.1, .str p.2)
theorem look_tb : ∀ (ps : List (Str × Str)) (w : Str), lookT (tb ps) (.inr w) = (ps.lookup w).map T.str
  | [], _ => rfl
  | (k, v) :: ps, w => by
    have ih := look_tb ps w
    by_cases e : k = w
    · subst e
      have e1 : ((k, v) :: ps).lookup k = some v := by simp [List.lookup]
      rw [e1]
      show (List.find? _ ((Sum.inr k, T.str v) :: tb ps)).map (·.2) = _
      rw [List.find?_cons_of_pos (by simp)]
      rfl
    · have e1 : ((k, v) :: ps).lookup w = ps.lookup w := by
        have : (w == k) = false := beq_eq_false_iff_ne.mpr (Ne.symm e)
        simp [List.lookup, this]
      rw [e1, ← ih]
      show (List.find? _ ((Sum.inr k, T.str v) :: tb ps)).map (·.2) = _
      rw [List.find?_cons_of_neg (by simpa using e)]
      rfl
theorem lookup_mem : ∀ {ps : List (Str × Str)} {w v : Str}, ps.lookup w = some v → (w, v) ∈ ps
  | [], _, _, h => by cases h
  | (k, u) :: ps, w, v, h => by
    by_cases e : w = k
    · subst e
      have e1 : ((w, u) :: ps).lookup w = some u := by simp [List.lookup]
      rw [e1] at h; cases h
      simp
    · have e1 : ((k, u) :: ps).lookup w = ps.lookup w := by
        have : (w == k) = false := beq_eq_false_iff_ne.mpr e
        simp [List.lookup, this]
      rw [e1] at h
      exact List.mem_cons_of_mem _ (lookup_mem h)
theorem x_iteF {b : Bool} {p q : Prop} (e : b = false) (h : q) : if b = true then p else q := by rw [if_neg (by rw [e]; decide)]; exact h
theorem x_dnin {mi mo : ME} {r : Mi.Env} {G : Gp} {R : KT} (h : mi r G fun t G1 => mo r G1 fun s G2 => ∃ a u, s = .ref a ∧ gtT G2 a t u ∧ R (.bl (!u.isSome)) G2) : mDIn true mi mo r G R := h
theorem x_tydct {a : Addr} {kvs : List (Key × T)} {G : Gp} {p : Prop} (e : G a = some (.dK kvs)) (h : p) : isTy G "dict" (.ref a) ∧ p := ⟨.inr ⟨rfl, .inl ⟨kvs, e⟩⟩, h⟩
theorem sign_len {sg : Str} (h : sg.length ≤ 4) : (signT sg).length ≤ 1000 := by
  unfold signT
  rw [List.length_map]
  have : sg.cps.toList.length = sg.length := by simp [Str.length]
  omega
def codeT : T → Nat
  | .str z => z.cps.toList.headD 0
  | _ => 0

theorem x_iteT {b : Bool} {p q : Prop} (e : b = true) (h : p) : if b = true then p else q := by rw [if_pos e]; exact h
theorem eqvAll_nil : ∀ ds : List PyData, PyData.eqvAll ds [] = ds.isEmpty
  | [] => rfl
  | _ :: _ => rfl
theorem x_eqU {G : Gp} {n : Nat} {ts : List T} {d : PyData} {R : KT} (h : Nd G n (.tup ts) d) (hn : n ≤ 60) (k : R (.bl ts.isEmpty) G) : oEq (.tup ts) (.tup []) G R := by
  refine ⟨d, .tuple [], h.dt, .tup .nil, h.shaped (by omega), rfl, ?_⟩
  cases h with
  | tup a b c =>
    rename_i m ds
    have e : PyData.eqv (.tuple ds) (.tuple []) = ts.isEmpty := by
      show PyData.eqvAll ds [] = _
      rw [eqvAll_nil]
      cases ds with
      | nil => cases ts with
        | nil => rfl
        | cons _ _ => simp at b
      | cons _ _ => cases ts with
        | nil => simp at b
        | cons _ _ => rfl
    rw [e]
    exact k
theorem x_eqW {G : Gp} {n : Nat} {w v : Str} {d : PyData} {R : KT} (h : Nd G n (.str w) d) (hv : SeqAt.shaped (.str v) = true) (k : R (.bl (decide (w = v))) G) : oEq (.str w) (.str v) G R := by
  have hs : SeqAt.shaped (.str w) = true := by
    cases h with
    | str a b => exact Bool.and_eq_true_iff.mpr ⟨b, rfl⟩
  refine x_eqS hs hv ?_
  have e : PyData.eqv (.str w) (.str v) = decide (w = v) := by
    show (w == v) = _
    by_cases q : w = v
    · rw [decide_eq_true q, q]; exact beq_self_eq_true v
    · rw [decide_eq_false q]; exact beq_eq_false_iff_ne.mpr q
  rw [e]
  exact k
def beqS (a b : Str) : (a == b) = decide (b = a) := by
  by_cases q : b = a
  · rw [decide_eq_true q, q]; exact beq_self_eq_true a
  · rw [decide_eq_false q]; exact beq_eq_false_iff_ne.mpr (Ne.symm q)
theorem x_inS2 {z w1 w2 : Str} {G : Gp} {R : KT} (h : R (.bl (decide (z = w1) || decide (z = w2))) G) : oInA false (.str z) (.tup [.str w1, .str w2]) G R := by
  refine .inl ⟨_, .inl rfl, rfl, rfl, ?_⟩
  have e2 : ([T.str w1, .str w2].any fun y => y.eqf (.str z)) = (decide (z = w1) || decide (z = w2)) := by
    simp only [List.any_cons, List.any_nil, Bool.or_false, T.eqf]
    rw [beqS, beqS]
  show R (.bl _) G
  rw [if_neg (by decide), e2]
  exact h
/-! ### terms, by the program -/
def atT (xs : List T) (t : T) : T := match t with
  | .int i => xs.getD i.toNat .non
  | _ => .non
def secT : T → T
  | .tup (_ :: x :: _) => x
  | _ => .non
def thirdT : T → T
  | .tup (_ :: _ :: x :: _) => x
  | _ => .non
def bindsP : T → Bool
  | .tup rs => rs.all fun y => isNm (secT y)
  | _ => false
def nonemp : T → Bool
  | .tup rs => !rs.isEmpty
  | _ => false
def recP : List T → Bool
  | [t] => rowsP 2 t
  | _ => false
def caseP : List T → Bool
  | [_, rs] => rowsP 3 rs && (nonemp rs && bindsP rs)
  | _ => false
def recQ : List T → List T
  | [.tup rs] => rs.map secT
  | _ => []
def caseQ : List T → List T
  | [t, .tup rs] => t :: rs.map thirdT
  | _ => []
theorem all_and {α : Type} (f g : α → Bool) : ∀ xs : List α, (xs.all fun x => f x && g x) = (xs.all f && xs.all g)
  | [] => rfl
  | x :: xs => by
    simp only [List.all_cons, all_and f g xs]
    cases f x <;> cases g x <;> simp
theorem row2 (one : T → Bool) (y : T) : rowOkL one 2 y = (rowOkP 2 y && one (secT y)) := by
  cases y with
  | tup xs =>
    match xs with
    | [a, b] => show (true && ((isNm a && true) && one b)) = ((true && isNm a) && one b); simp
    | [] => rfl
    | [_] => rfl
    | a :: b :: c :: r =>
      have e : decide ((((a :: b :: c :: r).length : Nat) : Int) = 2) = false := decide_eq_false (by simp only [List.length_cons]; omega)
      simp only [rowOkL, rowOkP, e, Bool.false_and]
  | _ => rfl
theorem row3 (one : T → Bool) (y : T) : rowOkL one 3 y = ((rowOkP 3 y && isNm (secT y)) && one (thirdT y)) := by
  cases y with
  | tup xs =>
    match xs with
    | [a, b, c] => show (true && ((isNm a && (isNm b && true)) && one c)) = (((true && isNm a) && isNm b) && one c); simp
    | [] => rfl
    | [_] => rfl
    | [_, _] => rfl
    | a :: b :: c :: d :: r =>
      have e : decide ((((a :: b :: c :: d :: r).length : Nat) : Int) = 3) = false := decide_eq_false (by simp only [List.length_cons]; omega)
      simp only [rowOkL, rowOkP, e, Bool.false_and]
  | _ => rfl
theorem rows2 (one : T → Bool) (rs : List T) : rowsL one 2 0 (.tup rs) = (rowsP 2 (.tup rs) && (rs.map secT).all one) := by
  show (decide ((0 : Int) ≤ (rs.length : Nat)) && (rs.all (rowOkL one 2) && asc (rs.map headT))) = ((rs.all (rowOkP 2) && asc (rs.map headT)) && (rs.map secT).all one)
  rw [decide_eq_true (by omega), all_congr (g := fun y => rowOkP 2 y && one (secT y)) fun y _ => row2 one y, all_and, List.all_map]
  cases rs.all (rowOkP 2) <;> cases asc (rs.map headT) <;> simp [Function.comp_def]
theorem rows3 (one : T → Bool) (rs : List T) : rowsL one 3 1 (.tup rs) = ((rowsP 3 (.tup rs) && (nonemp (.tup rs) && bindsP (.tup rs))) && (rs.map thirdT).all one) := by
  show (decide ((1 : Int) ≤ (rs.length : Nat)) && (rs.all (rowOkL one 3) && asc (rs.map headT))) = (((rs.all (rowOkP 3) && asc (rs.map headT)) && (!rs.isEmpty && rs.all fun y => isNm (secT y))) && (rs.map thirdT).all one)
  have e : decide ((1 : Int) ≤ (rs.length : Nat)) = !rs.isEmpty := by
    cases rs with
    | nil => rfl
    | cons x r => exact decide_eq_true (by simp only [List.length_cons]; omega)
  rw [e, all_congr (g := fun y => (rowOkP 3 y && isNm (secT y)) && one (thirdT y)) fun y _ => row3 one y, all_and (fun y => rowOkP 3 y && isNm (secT y)), all_and (rowOkP 3), List.all_map]
  cases rs.all (rowOkP 3) <;> cases asc (rs.map headT) <;> cases rs.isEmpty <;> cases (rs.all fun y => isNm (secT y)) <;> simp [Function.comp_def]
/-! the table -/
def pos (c : Nat) : Nat → List Nat → List T
  | _, [] => []
  | i, d :: ds => if d = c then .int (i : Nat) :: pos c (i + 1) ds else pos c (i + 1) ds
theorem pos_in {c : Nat} : ∀ {cs : List Nat} {i : Nat} {t : T}, t ∈ pos c i cs → ∃ j : Nat, t = .int (j : Nat) ∧ i ≤ j ∧ j < i + cs.length
  | [], _, _, h => by cases h
  | d :: ds, i, t, h => by
    unfold pos at h
    by_cases e : d = c
    · rw [if_pos e] at h
      rcases List.mem_cons.mp h with q | q
      · exact ⟨i, q, Nat.le_refl _, by rw [List.length_cons]; omega⟩
      · obtain ⟨j, a, b, z⟩ := pos_in q
        exact ⟨j, a, by omega, by rw [List.length_cons]; omega⟩
    · rw [if_neg e] at h
      obtain ⟨j, a, b, z⟩ := pos_in h
      exact ⟨j, a, by omega, by rw [List.length_cons]; omega⟩
theorem lkT_mem : ∀ {kvs : List (Str × T)} {z : Str} {t : T}, lkT kvs z = some t → ∃ p ∈ kvs, p.1 = z ∧ p.2 = t
  | [], _, _, h => by cases h
  | (k, u) :: r, z, t, h => by
    unfold lkT at h
    by_cases e : k = z
    · rw [if_pos e] at h; cases h
      exact ⟨(k, u), by simp, e, rfl⟩
    · rw [if_neg e] at h
      obtain ⟨p, a, b, c⟩ := lkT_mem h
      exact ⟨p, List.mem_cons_of_mem _ a, b, c⟩
theorem pos_all (one : T → Bool) : ∀ (cs : List Nat) (rest pre : List T), rest.length = cs.length → (∀ c ∈ cs, c = 116 ∨ c = 120) →
    (List.zipWith (bySort one) cs rest).all id = ((pos 120 pre.length cs).all (fun t => isNm (atT (pre ++ rest) t)) && ((pos 116 pre.length cs).map (atT (pre ++ rest))).all one)
  | [], rest, pre, h, _ => by simp [pos]
  | c :: cs, [], pre, h, _ => by simp at h
  | c :: cs, t :: rest, pre, h, hc => by
    have ih := pos_all one cs rest (pre ++ [t]) (by simpa using h) fun d hd => hc d (List.mem_cons_of_mem _ hd)
    rw [List.length_append, List.length_singleton, List.append_assoc, List.singleton_append] at ih
    have ea : atT (pre ++ t :: rest) (.int ((pre.length : Nat) : Int)) = t := by
      show (pre ++ t :: rest).getD ((pre.length : Nat) : Int).toNat .non = t
      rw [Int.toNat_natCast]
      simp [List.getD]
    rw [List.zipWith_cons_cons, List.all_cons, ih]
    rcases hc c (by simp) with rfl | rfl
    · have e1 : pos 120 pre.length (116 :: cs) = pos 120 (pre.length + 1) cs := by
        show (if 116 = 120 then _ else _) = _
        rw [if_neg (by decide)]
      have e2 : pos 116 pre.length (116 :: cs) = .int ((pre.length : Nat) : Int) :: pos 116 (pre.length + 1) cs := by
        show (if 116 = 116 then _ else _) = _
        rw [if_pos rfl]
      rw [e1, e2, List.map_cons, List.all_cons, ea]
      have e3 : bySort one 116 t = one t := if_pos rfl
      rw [e3]
      show (one t && _) = _
      cases one t <;> simp
    · have e1 : pos 120 pre.length (120 :: cs) = .int ((pre.length : Nat) : Int) :: pos 120 (pre.length + 1) cs := by
        show (if 120 = 120 then _ else _) = _
        rw [if_pos rfl]
      have e2 : pos 116 pre.length (120 :: cs) = pos 116 (pre.length + 1) cs := by
        show (if 120 = 116 then _ else _) = _
        rw [if_neg (by decide)]
      rw [e1, e2, List.all_cons, ea]
      have e3 : bySort one 120 t = isNm t := if_neg (by decide)
      rw [e3]
      show (isNm t && _) = _
      cases isNm t <;> simp
/-! ### the program's look at one term -/
theorem x_knin {kvs : List (Str × T)} {ma : ME} {r : Mi.Env} {G : Gp} {R : KT} (h : ma r G fun t G1 => ∃ z, t = .str z ∧ R (.bl (!(lkT kvs z).isSome)) G1) : mKIn true kvs ma r G R := h
theorem x_kix {kvs : List (Str × T)} {me : ME} {r : Mi.Env} {G : Gp} {R : KT} (h : me r G fun t G1 => ∃ z u, t = .str z ∧ lkT kvs z = some u ∧ R u G1) : mKIx kvs me r G R := h
theorem x_iksrc {kvs : List (Str × List T)} {me : ME} {r : Mi.Env} {G : Gp} {N : MIt → Gp → Prop} (h : me r G fun t G1 => ∃ z ts, t = .str z ∧ lkL kvs z = some ts ∧ N ⟨ts, []⟩ G1) : miKSrc kvs me r G N := h
/-- a comprehension over one source, each item by a function -/
theorem comp_ok {r : Mi.Env} {G : Gp} {i : Nat} {wi : MI} {te : ME} {ts : List T} {f : T → T} {R : KT} (hl : ts.length ≤ 1000)
    (src : ∀ N : MIt → Gp → Prop, (∀ held G1, Ext G G1 → (∀ G', Ext G1 G' → Held G' held) → N ⟨ts, held⟩ G1) → wi r G N)
    (step : ∀ (t : T) (G1 : Gp) (K : KT), t ∈ ts → Ext G G1 → (∀ G', Ext G1 G' → K (f t) G') → te ((wipeT r [i]).set i (some t)) G1 K)
    (hR : ∀ D G', G D = none → G' D = some (.lst (ts.map f)) → Ext G G' → R (.ref D) G') : mLc wi (mgName i) mtYes te [i] r G R := by
  refine x_lc (src _ fun held G1 f1 hh D hD => ?_)
  refine ⟨fun j G' => G' D = some (.lst ((ts.take j).map f)) ∧ Ext G1 G', ⟨put_same, Ext.new hD⟩, fun j G' ⟨_, w2⟩ => hh G' w2, ?_, ?_⟩
  · intro j t G' ht ⟨w1, w2⟩
    refine x_gname (x_yes ?_)
    rw [if_pos rfl]
    refine step t G' _ (List.mem_of_getElem? ht) (f1.trans w2) fun G2 f2 => ⟨_, f2 _ _ w1, ?_, fwdG.of ⟨?_, Ext.grow hD (w2.trans f2)⟩⟩
    · rw [List.length_map, List.length_take]
      have := sizeLine_eq
      omega
    · rw [put_same]
      have e : ts[j]? = some t := ht
      rw [List.take_succ, e, List.map_append]
      rfl
  · intro G' ⟨w1, w2⟩
    have w1' : G' D = some (.lst ((ts.take ts.length).map f)) := w1
    rw [List.take_length] at w1'
    exact hR D G' (f1.none hD) w1' (f1.trans w2)
theorem src_var {r : Mi.Env} {G : Gp} {m : ME} {ts : List T} (h : ∀ K : KT, (∀ s G1, Ext G G1 → srcT G1 s ts → K s G1) → m r G K) :
    ∀ N : MIt → Gp → Prop, (∀ held G1, Ext G G1 → (∀ G', Ext G1 G' → Held G' held) → N ⟨ts, held⟩ G1) → miSeq m r G N := fun N k =>
  x_iseq (h _ fun s G1 f1 h1 => ⟨ts, h1, k _ G1 f1 fun G' f2 => srcT.held (Lw.srcT.ext f2 h1)⟩)
def isIntT : T → Bool
  | .int _ => true
  | _ => false
/-- rows of so many things -/
theorem rowsP_rows {w : Int} {t : T} (h : rowsP w t = true) : ∃ rs, t = .tup rs ∧ ∀ y ∈ rs, ∃ xs, y = .tup xs ∧ ((xs.length : Nat) : Int) = w := by
  cases t with
  | tup rs =>
    refine ⟨rs, rfl, fun y hy => ?_⟩
    have q : (rs.all (rowOkP w) && asc (rs.map headT)) = true := h
    rw [Bool.and_eq_true] at q
    have q2 := List.all_eq_true.mp q.1 y hy
    cases y with
    | tup xs =>
      have q3 : (decide ((xs.length : Nat) = w) && isNm (headT (.tup xs))) = true := q2
      rw [Bool.and_eq_true] at q3
      exact ⟨xs, rfl, of_decide_eq_true q3.1⟩
    | _ => cases q2
  | _ => cases h
theorem len3 {xs : List T} (h : ((xs.length : Nat) : Int) = 3) : ∃ a b c, xs = [a, b, c] := by
  match xs, h with
  | [a, b, c], _ => exact ⟨a, b, c, rfl⟩
  | [], h | [_], h | [_, _], h => simp at h
  | _ :: _ :: _ :: _ :: _, h => simp at h; omega
theorem len2 {xs : List T} (h : ((xs.length : Nat) : Int) = 2) : ∃ a b, xs = [a, b] := by
  match xs, h with
  | [a, b], _ => exact ⟨a, b, rfl⟩
  | [], h | [_], h => simp at h
  | _ :: _ :: _ :: _, h => simp at h; omega
theorem atI_at {xs : List T} {j : Nat} (h : j < xs.length) : atI xs ((j : Nat) : Int) = some (atT xs (.int (j : Nat))) := by
  unfold atI ixN atT
  rw [if_pos (by omega), if_pos (by omega)]
  show xs[((j : Nat) : Int).toNat]? = _
  rw [Int.toNat_natCast, List.getElem?_eq_getElem h]
  simp [List.getD, h]
/-! ### the parts of a term, by the program -/
mutual
def szT : T → Nat
  | .tup ts => 1 + szL ts
  | _ => 1
def szL : List T → Nat
  | [] => 0
  | t :: ts => szT t + szL ts
end
theorem szT_tup (ts : List T) : szT (.tup ts) = 1 + szL ts := by rw [szT]
theorem szL_nil : szL [] = 0 := by rw [szL]
theorem szL_cons (t : T) (ts : List T) : szL (t :: ts) = szT t + szL ts := by rw [szL]
theorem szT_pos (t : T) : 1 ≤ szT t := by
  cases t <;> simp only [szT] <;> omega
theorem szL_app : ∀ xs ys : List T, szL (xs ++ ys) = szL xs + szL ys
  | [], ys => by rw [List.nil_append, szL_nil]; omega
  | x :: xs, ys => by rw [List.cons_append, szL_cons, szL_cons, szL_app xs ys]; omega
theorem szL_len : ∀ xs : List T, xs.length ≤ szL xs
  | [] => Nat.zero_le _
  | x :: xs => by
    have := szL_len xs
    have := szT_pos x
    rw [szL_cons, List.length_cons]
    omega
theorem szL_map {f : T → T} (h : ∀ t, szT (f t) ≤ szT t) : ∀ xs : List T, szL (xs.map f) ≤ szL xs
  | [] => Nat.le_refl _
  | x :: xs => by
    have := szL_map h xs
    have := h x
    rw [List.map_cons, szL_cons, szL_cons]
    omega
theorem sz_sec (t : T) : szT (secT t) ≤ szT t := by
  cases t with
  | tup xs =>
    match xs with
    | [] => exact Nat.le_refl _
    | [a] => show szT .non ≤ _; have := szT_pos (.tup [a]); simpa only [szT] using this
    | a :: b :: r =>
      show szT b ≤ _
      rw [szT_tup, szL_cons, szL_cons]
      omega
  | _ => simp only [secT, szT]; omega
theorem sz_third (t : T) : szT (thirdT t) ≤ szT t := by
  cases t with
  | tup xs =>
    match xs with
    | [] => exact Nat.le_refl _
    | [a] => show szT .non ≤ _; have := szT_pos (.tup [a]); simpa only [szT] using this
    | [a, b] => show szT .non ≤ _; have := szT_pos (.tup [a, b]); simpa only [szT] using this
    | a :: b :: c :: r =>
      show szT c ≤ _
      rw [szT_tup, szL_cons, szL_cons, szL_cons]
      omega
  | _ => simp only [thirdT, szT]; omega
theorem pos_sz (c : Nat) : ∀ (cs : List Nat) (rest pre : List T), rest.length = cs.length → szL ((pos c pre.length cs).map (atT (pre ++ rest))) ≤ szL rest
  | [], rest, pre, _ => by
    show szL [] ≤ _
    rw [szL_nil]
    omega
  | d :: cs, [], pre, h => by simp at h
  | d :: cs, t :: rest, pre, h => by
    have ih := pos_sz c cs rest (pre ++ [t]) (by simpa using h)
    rw [List.length_append, List.length_singleton, List.append_assoc, List.singleton_append] at ih
    have ea : atT (pre ++ t :: rest) (.int ((pre.length : Nat) : Int)) = t := by
      show (pre ++ t :: rest).getD ((pre.length : Nat) : Int).toNat .non = t
      rw [Int.toNat_natCast]
      simp [List.getD]
    rw [szL_cons]
    unfold pos
    split
    · rw [List.map_cons, szL_cons, ea]
      omega
    · omega
theorem at_mem {xs : List T} {j : Nat} (h : j < xs.length) : atT xs (.int (j : Nat)) ∈ xs := by
  show xs.getD ((j : Nat) : Int).toNat .non ∈ _
  rw [Int.toNat_natCast]
  simp only [List.getD, List.getElem?_eq_getElem h, Option.getD_some]
  exact List.getElem_mem h
theorem x_addL {a b : Addr} {xs ys : List T} {G : Gp} {R : KT} (e1 : G a = some (.lst xs)) (e2 : G b = some (.lst ys)) (l : xs.length + ys.length ≤ sizeLine) (h : ∀ p, G p = none → R (.ref p) (Mi.put G p (.lst (xs ++ ys)))) : oAdd (.ref a) (.ref b) G R := ⟨xs, ys, e1, e2, l, h⟩
/-! ### the program's look at a thing -/
theorem x_while {t : MT} {s : MS} {M : MEnds} {r : Mi.Env} {G : Gp} (W : Nat → Mi.Env → Gp → Prop) (h0 : ∃ n, W n r G) (h : ∀ n r G, W n r G → t r G fun c G1 =>
  if c = true then s { M with nx := fwd fun r' G' => ∃ n', n' < n ∧ W n' r' G', ct := fwd fun r' G' => ∃ n', n' < n ∧ W n' r' G', bk := M.nx } r G1 else M.nx r G1) : msWhile t s M r G := ⟨W, h0, h⟩
theorem x_pop {a : Addr} {xs : List T} {u : T} {G : Gp} {R : KT} (e : G a = some (.lst (xs ++ [u]))) (h : R u (Mi.put G a (.lst xs))) : omPop (.ref a) [] G R := ⟨a, xs, u, rfl, rfl, e, h⟩
theorem x_extend {a b : Addr} {xs ys : List T} {G : Gp} {R : KT} (e : G a = some (.lst xs)) (e2 : G b = some (.lst ys)) (l : xs.length + ys.length ≤ sizeLine) (h : R .non (Mi.put G a (.lst (xs ++ ys)))) : omExtendS (.ref a) [.ref b] G R := .inl ⟨a, b, xs, ys, rfl, rfl, e, e2, l, h⟩
theorem x_extT {a : Addr} {xs ys : List T} {G : Gp} {R : KT} (e : G a = some (.lst xs)) (l : xs.length + ys.length ≤ sizeLine) (h : R .non (Mi.put G a (.lst (xs ++ ys)))) : omExtendS (.ref a) [.tup ys] G R := .inr ⟨a, xs, ys, rfl, rfl, e, l, h⟩
theorem tru_lst {a : Addr} {ts : List T} {G : Gp} (e : G a = some (.lst ts)) : truT G (.ref a) (!ts.isEmpty) := .inl ⟨ts, e, rfl⟩
/-! ### data beside the box, with bounds -/
def Asc (z : Str) : Prop := ∀ c ∈ z.cps.toList, c < 128
/-- all stays but what is in S -/
def FrS (S : Addr → Prop) (G G' : Gp) : Prop := ∀ b c, ¬ S b → G b = some c → G' b = some c
theorem Fr.toS {S : Addr → Prop} {a : Addr} {G G' : Gp} (h : S a) (f : Fr a G G') : FrS S G G' := fun b c n e => f b c (fun z => n (by rw [z]; exact h)) e
theorem FrS.trans {S : Addr → Prop} {A B D : Gp} (h : FrS S A B) (k : FrS S B D) : FrS S A D := fun b c n e => k b c n (h b c n e)
theorem FrS.put {S : Addr → Prop} {G : Gp} {p : Addr} {c : C} (h : S p) : FrS S G (Mi.put G p c) := fun b d n e => by rw [put_ne (fun z => n (by rw [z]; exact h))]; exact e
inductive Da (S : Addr → Prop) (G : Gp) (L : Nat) : Nat → T → PyData → Prop
  | non {n : Nat} : Da S G L n .non .none
  | bl {n : Nat} {b : Bool} : Da S G L n (.bl b) (.bool b)
  | int {n : Nat} {i : Int} : i.natAbs ≤ 9000000 + L → Da S G L n (.int i) (.int i)
  | str {n : Nat} {z : Str} : z.length ≤ 20 + L → Asc z → Da S G L n (.str z) (.str z)
  | tup {n : Nat} {ts : List T} {ds : List PyData} : ts.length ≤ 40 + 2 * L → ds.length = ts.length → (∀ (i : Nat) (t : T) (d : PyData), ts[i]? = some t → ds[i]? = some d → Da S G L n t d) → Da S G L (n + 1) (.tup ts) (.tuple ds)
  | lst {n : Nat} {p : Addr} {ts : List T} {ds : List PyData} : ¬ S p → G p = some (.lst ts) → ts.length ≤ 40 + 2 * L → ds.length = ts.length → (∀ (i : Nat) (t : T) (d : PyData), ts[i]? = some t → ds[i]? = some d → Da S G L n t d) → Da S G L (n + 1) (.ref p) (.list ds)
section
variable {S : Addr → Prop} {G G' : Gp} {L n : Nat} {t : T} {d : PyData}
theorem Asc.ok {z : Str} (h : Asc z) : PyData.strOk z = true := by
  unfold PyData.strOk
  rw [Array.all_eq_true']
  intro c hc
  have := h c (by simpa using hc)
  exact decide_eq_true (by omega)
theorem Wd.asc {z : Str} (h : Wd z) : Asc z := fun c hc => by have := h.2.2 c hc; omega
theorem Da.nd (h : Da S G L n t d) (hL : L ≤ 10) : Nd G n t d := by
  induction h with
  | non => exact .non
  | bl => exact .bl
  | int b => exact .int (by omega)
  | str b c => exact .str (by omega) c.ok
  | tup b c _ i => exact .tup (by omega) c i
  | lst _ e b c _ i => exact .lst e (by omega) c i
theorem Da.fr (h : Da S G L n t d) (f : FrS S G G') : Da S G' L n t d := by
  induction h with
  | non => exact .non
  | bl => exact .bl
  | int b => exact .int b
  | str b c => exact .str b c
  | tup b c _ i => exact .tup b c i
  | lst ne e b c _ i => exact .lst ne (f _ _ ne e) b c i
theorem Da.le (h : Da S G L n t d) : ∀ {m M : Nat}, n ≤ m → L ≤ M → Da S G M m t d := by
  induction h with
  | non => intro m M _ _; exact .non
  | bl => intro m M _ _; exact .bl
  | int b => intro m M _ l; exact .int (by omega)
  | str b c => intro m M _ l; exact .str (by omega) c
  | tup b c _ i => intro m M l l2; obtain ⟨m, rfl⟩ : ∃ m', m = m' + 1 := ⟨m - 1, by omega⟩; exact .tup (by omega) c fun j t d e1 e2 => i j t d e1 e2 (by omega) l2
  | lst ne e b c _ i => intro m M l l2; obtain ⟨m, rfl⟩ : ∃ m', m = m' + 1 := ⟨m - 1, by omega⟩; exact .lst ne e (by omega) c fun j t d e1 e2 => i j t d e1 e2 (by omega) l2
end
/-! rows of such -/
inductive DaL (S : Addr → Prop) (G : Gp) (L n : Nat) : List T → List PyData → Prop
  | nil : DaL S G L n [] []
  | cons {t : T} {d : PyData} {ts : List T} {ds : List PyData} : Da S G L n t d → DaL S G L n ts ds → DaL S G L n (t :: ts) (d :: ds)
section
variable {S : Addr → Prop} {G G' : Gp} {L n : Nat} {ts us : List T} {ds es : List PyData}
theorem DaL.of : ∀ {ts : List T} {ds : List PyData}, ds.length = ts.length → (∀ (i : Nat) (t : T) (d : PyData), ts[i]? = some t → ds[i]? = some d → Da S G L n t d) → DaL S G L n ts ds
  | [], [], _, _ => .nil
  | t :: ts, d :: ds, h, k => .cons (k 0 t d rfl rfl) (DaL.of (by simpa using h) fun i t d a b => k (i + 1) t d (by simpa using a) (by simpa using b))
  | [], _ :: _, h, _ => by simp at h
  | _ :: _, [], h, _ => by simp at h
theorem DaL.len (h : DaL S G L n ts ds) : ds.length = ts.length := by
  induction h with
  | nil => rfl
  | cons _ _ i => rw [List.length_cons, List.length_cons, i]
theorem DaL.get (h : DaL S G L n ts ds) : ∀ (i : Nat) (t : T) (d : PyData), ts[i]? = some t → ds[i]? = some d → Da S G L n t d := by
  induction h with
  | nil => intro i t d e; simp at e
  | cons b _ ih =>
    intro i t d e1 e2
    cases i with
    | zero => simp at e1 e2; subst e1; subst e2; exact b
    | succ i => exact ih i t d (by simpa using e1) (by simpa using e2)
theorem DaL.app (h : DaL S G L n ts ds) (k : DaL S G L n us es) : DaL S G L n (ts ++ us) (ds ++ es) := by
  induction h with
  | nil => exact k
  | cons b _ ih => exact .cons b ih
theorem DaL.take (h : DaL S G L n ts ds) : ∀ i : Nat, DaL S G L n (ts.take i) (ds.take i) := by
  induction h with
  | nil => intro i; simp; exact .nil
  | cons b _ ih =>
    intro i
    cases i with
    | zero => exact .nil
    | succ i => exact .cons b (ih i)
theorem DaL.drop (h : DaL S G L n ts ds) : ∀ i : Nat, DaL S G L n (ts.drop i) (ds.drop i) := by
  induction h with
  | nil => intro i; simp; exact .nil
  | cons b c ih =>
    intro i
    cases i with
    | zero => exact .cons b c
    | succ i => exact ih i
theorem DaL.rev (h : DaL S G L n ts ds) : DaL S G L n ts.reverse ds.reverse := by
  induction h with
  | nil => exact .nil
  | cons b _ ih => rw [List.reverse_cons, List.reverse_cons]; exact ih.app (.cons b .nil)
theorem DaL.set {t : T} {d : PyData} (h : DaL S G L n ts ds) (k : Da S G L n t d) : ∀ i : Nat, DaL S G L n (ts.set i t) (ds.set i d) := by
  induction h with
  | nil => intro i; simp; exact .nil
  | cons b c ih =>
    intro i
    cases i with
    | zero => exact .cons k c
    | succ i => exact .cons b (ih i)
theorem DaL.fr (h : DaL S G L n ts ds) (f : FrS S G G') : DaL S G' L n ts ds := by
  induction h with
  | nil => exact .nil
  | cons b _ ih => exact .cons (b.fr f) ih
theorem DaL.le {m M : Nat} (h : DaL S G L n ts ds) (l : n ≤ m) (l2 : L ≤ M) : DaL S G M m ts ds := by
  induction h with
  | nil => exact .nil
  | cons b _ ih => exact .cons (b.le l l2) ih
theorem DaL.mem {t : T} (h : DaL S G L n ts ds) (ht : t ∈ ts) : ∃ d ∈ ds, Da S G L n t d := by
  induction h with
  | nil => cases ht
  | cons b _ ih =>
    rcases List.mem_cons.mp ht with rfl | q
    · exact ⟨_, by simp, b⟩
    · obtain ⟨d, q1, q2⟩ := ih q
      exact ⟨d, List.mem_cons_of_mem _ q1, q2⟩
theorem DaL.tup (h : DaL S G L n ts ds) (l : ts.length ≤ 40 + 2 * L) : Da S G L (n + 1) (.tup ts) (.tuple ds) := .tup l h.len h.get
theorem DaL.lst {p : Addr} (h : DaL S G L n ts ds) (l : ts.length ≤ 40 + 2 * L) (ne : ¬ S p) (e : G p = some (.lst ts)) : Da S G L (n + 1) (.ref p) (.list ds) := .lst ne e l h.len h.get
end
/-! how long its text is, at most -/
mutual
def wtD : PyData → Nat
  | .none => 5
  | .bool _ => 5
  | .int _ => 12
  | .str z => 10 * z.length + 2
  | .list xs => 3 + wtA xs
  | .tuple xs => 3 + wtA xs
  | .dict _ => 0
def wtA : List PyData → Nat
  | [] => 0
  | d :: ds => wtD d + 2 + wtA ds
end
theorem wtA_nil : wtA [] = 0 := by rw [wtA]
theorem wtA_cons (d : PyData) (ds : List PyData) : wtA (d :: ds) = wtD d + 2 + wtA ds := by rw [wtA]
theorem wt_tup (ds : List PyData) : wtD (.tuple ds) = 3 + wtA ds := by rw [wtD]
theorem wt_lst (ds : List PyData) : wtD (.list ds) = 3 + wtA ds := by rw [wtD]
theorem wt_int (i : Int) : wtD (.int i) = 12 := by rw [wtD]
theorem wt_str (z : Str) : wtD (.str z) = 10 * z.length + 2 := by rw [wtD]
theorem wt_non : wtD .none = 5 := by rw [wtD]
theorem wt_bl (b : Bool) : wtD (.bool b) = 5 := by rw [wtD]
theorem wtA_app : ∀ xs ys : List PyData, wtA (xs ++ ys) = wtA xs + wtA ys
  | [], ys => by rw [List.nil_append, wtA_nil, Nat.zero_add]
  | x :: xs, ys => by rw [List.cons_append, wtA_cons, wtA_cons, wtA_app xs ys]; omega
theorem wtA_rev : ∀ xs : List PyData, wtA xs.reverse = wtA xs
  | [] => rfl
  | x :: xs => by rw [List.reverse_cons, wtA_app, wtA_rev xs, wtA_cons, wtA_cons, wtA_nil]; omega
theorem wtA_cut (i : Nat) (xs : List PyData) : wtA (xs.take i) + wtA (xs.drop i) = wtA xs := by
  rw [← wtA_app, List.take_append_drop]
theorem wtA_set : ∀ (xs : List PyData) (i : Nat) (d e : PyData), xs[i]? = some e → wtA (xs.set i d) + wtD e = wtA xs + wtD d
  | [], i, d, e, h => by simp at h
  | x :: xs, 0, d, e, h => by
    simp at h; subst h
    rw [List.set_cons_zero, wtA_cons, wtA_cons]; omega
  | x :: xs, i + 1, d, e, h => by
    have := wtA_set xs i d e (by simpa using h)
    rw [List.set_cons_succ, wtA_cons, wtA_cons]; omega
theorem wtA_mem : ∀ {xs : List PyData} {d : PyData}, d ∈ xs → wtD d + 2 ≤ wtA xs
  | x :: xs, d, h => by
    rw [wtA_cons]
    rcases List.mem_cons.mp h with rfl | q
    · omega
    · have := wtA_mem q
      omega
theorem int_text {i : Int} (h : i.natAbs < 10000000) : (Str.ofString (toString i)).length ≤ 8 := by
  rw [ofString_length]
  exact int_text_length_le10 (k := 7) (by decide) h
theorem tup_text (ts : List Str) : (tupleText ts).length ≤ 3 + piled ts := by
  unfold tupleText
  rw [strLen_append, strLen_append]
  have e1 : ((("(" : String) : Str)).length = 1 := rfl
  have e2 : ((if ts.length == 1 then ",)" else ")" : String) : Str).length ≤ 2 := by split <;> decide
  cases ts with
  | nil =>
    have e3 : (Str.join ", " ([] : List Str)).length = 0 := rfl
    omega
  | cons t r =>
    have := join_length_add (t :: r) (by simp)
    omega
theorem lst_text (ts : List Str) : (listText ts).length ≤ 3 + piled ts := by
  unfold listText
  rw [strLen_append]
  cases ts with
  | nil => show _ ≤ 3 + piled []; decide
  | cons t r =>
    have h := textFrom_length_pos r 1 (("[" : Str) ++ (if (0 : Nat) > 0 then ", " else "" : String) ++ t) (Nat.succ_pos 0)
    have e1 : (textFrom 0 "[" (t :: r)) = textFrom 1 (("[" : Str) ++ (if (0 : Nat) > 0 then ", " else "" : String) ++ t) r := rfl
    rw [e1, h, piled_cons, strLen_append, strLen_append]
    have e2 : (("[" : String) : Str).length = 1 := rfl
    have e3 : ((if (0 : Nat) > 0 then ", " else "" : String) : Str).length = 0 := rfl
    have e4 : (("]" : String) : Str).length = 1 := rfl
    omega
theorem Da.text {S : Addr → Prop} {G : Gp} {L n : Nat} {t : T} {d : PyData} (h : Da S G L n t d) (hL : L ≤ 10) : d.shown.length ≤ wtD d := by
  have all : ∀ {ts : List T} {ds : List PyData}, ds.length = ts.length → (∀ (i : Nat) (t : T) (d : PyData), ts[i]? = some t → ds[i]? = some d → d.shown.length ≤ wtD d) → piled (PyData.shownAll ds) ≤ wtA ds := by
    intro ts ds
    induction ds generalizing ts with
    | nil => intro _ _; simp [PyData.shownAll, piled_nil]
    | cons d ds ih =>
      intro hl hk
      cases ts with
      | nil => simp at hl
      | cons t ts =>
        have := ih (ts := ts) (by simpa using hl) fun i t d a b => hk (i + 1) t d (by simpa using a) (by simpa using b)
        have := hk 0 t d rfl rfl
        rw [wtA_cons, PyData.shownAll, piled_cons]
        omega
  induction h with
  | non => rw [wt_non, PyData.shown]; decide
  | bl => rename_i b; rw [wt_bl, PyData.shown]; cases b <;> decide
  | int b =>
    rename_i i
    rw [wt_int, PyData.shown]
    have := int_text (i := i) (by omega)
    omega
  | str b c => rw [wt_str, PyData.shown]; exact StrLaws.reprText_len _ fun d hd => by have := c d hd; omega
  | tup b c _ i =>
    rw [wt_tup, PyData.shown]
    have := all c i
    have := tup_text (PyData.shownAll ‹List PyData›)
    omega
  | lst _ e b c _ i =>
    rw [wt_lst, PyData.shown]
    have := all c i
    have := lst_text (PyData.shownAll ‹List PyData›)
    omega
theorem Da.sz {S : Addr → Prop} {G : Gp} {L n : Nat} {t : T} {d : PyData} (h : Da S G L n t d) : szT t ≤ wtD d := by
  have all : ∀ {ts : List T} {ds : List PyData}, ds.length = ts.length → (∀ (i : Nat) (t : T) (d : PyData), ts[i]? = some t → ds[i]? = some d → szT t ≤ wtD d) → szL ts ≤ wtA ds := by
    intro ts ds
    induction ds generalizing ts with
    | nil =>
      intro hl _
      cases ts with
      | nil => rw [szL_nil]; exact Nat.zero_le _
      | cons _ _ => simp at hl
    | cons d ds ih =>
      intro hl hk
      cases ts with
      | nil => simp at hl
      | cons t ts =>
        have := ih (ts := ts) (by simpa using hl) fun i t d a b => hk (i + 1) t d (by simpa using a) (by simpa using b)
        have := hk 0 t d rfl rfl
        rw [wtA_cons, szL_cons]
        omega
  induction h with
  | tup b c _ i => have := all c i; rw [szT_tup, wt_tup]; omega
  | lst _ e b c _ i => rw [wt_lst]; simp only [szT]; omega
  | non => rw [wt_non]; simp only [szT]; omega
  | bl => rw [wt_bl]; simp only [szT]; omega
  | int _ => rw [wt_int]; simp only [szT]; omega
  | str _ _ => rw [wt_str]; simp only [szT]; omega
/-- what is new isn't in it -/
theorem Da.more {S S' : Addr → Prop} {G : Gp} {L n : Nat} {t : T} {d : PyData} (h : Da S G L n t d) (k : ∀ p c, ¬ S p → G p = some c → ¬ S' p) : Da S' G L n t d := by
  induction h with
  | non => exact .non
  | bl => exact .bl
  | int b => exact .int b
  | str b c => exact .str b c
  | tup b c _ i => exact .tup b c i
  | lst ne e b c _ i => exact .lst (k _ _ ne e) e b c i
theorem DaL.more {S S' : Addr → Prop} {G : Gp} {L n : Nat} {ts : List T} {ds : List PyData} (h : DaL S G L n ts ds) (k : ∀ p c, ¬ S p → G p = some c → ¬ S' p) : DaL S' G L n ts ds := by
  induction h with
  | nil => exact .nil
  | cons b _ ih => exact .cons (b.more k) ih

/-! ### odd data -/
theorem upper_one : ∀ c < 128, ∃ e, Unicode.upperOf c = [e] ∧ e < 128 := by
  have h : (List.range 128).all (fun c => match Unicode.upperOf c with | [e] => decide (e < 128) | _ => false) = true := by decide +kernel
  intro c hc
  have := List.all_eq_true.mp h c (List.mem_range.mpr hc)
  split at this
  · rename_i e he; exact ⟨e, he, of_decide_eq_true this⟩
  · cases this
theorem upper_list : ∀ l : List Nat, (∀ c ∈ l, c < 128) → (l.map Unicode.upperOf).flatten.length = l.length ∧ ∀ c ∈ (l.map Unicode.upperOf).flatten, c < 128
  | [], _ => ⟨rfl, fun c h => by simp at h⟩
  | c :: l, h => by
    obtain ⟨e, he, hl⟩ := upper_one c (h c (by simp))
    obtain ⟨i1, i2⟩ := upper_list l fun d hd => h d (List.mem_cons_of_mem _ hd)
    rw [List.map_cons, he, List.flatten_cons]
    refine ⟨by simp [i1], fun d hd => ?_⟩
    rcases List.mem_append.mp hd with q | q
    · rw [List.mem_singleton.mp q]; exact hl
    · exact i2 d q
theorem upper_cps (z : Str) : (Txt.upper z).cps.toList = (z.cps.toList.map Unicode.upperOf).flatten := by
  unfold Txt.upper placed
  simp [Array.toList_flatten, List.mapIdx_eq_zipIdx_map, Function.comp_def]
  rw [show (fun x : Nat × Nat => Unicode.upperOf x.fst) = Unicode.upperOf ∘ Prod.fst from rfl, ← List.map_map, List.zipIdx_map_fst]
theorem upper_asc {z : Str} (h : Asc z) : Asc (Txt.upper z) ∧ (Txt.upper z).length = z.length := by
  obtain ⟨a, b⟩ := upper_list z.cps.toList h
  have e := upper_cps z
  refine ⟨fun c hc => b c (by rw [← e]; exact hc), ?_⟩
  show (Txt.upper z).cps.size = z.cps.size
  rw [← Array.length_toList, ← Array.length_toList, e, a]
theorem Asc.app {x y : Str} (h : Asc x) (k : Asc y) : Asc (x ++ y) := fun c hc => by
  rw [Str.cps_append, Array.toList_append] at hc
  rcases List.mem_append.mp hc with q | q
  · exact h c q
  · exact k c q
theorem len_app (x y : Str) : (x ++ y).length = x.length + y.length := strLen_append x y
/-- what may be told instead: some data of small weight -/
def Odd (S : Addr → Prop) (G : Gp) (L W : Nat) (t : T) : Prop := ∃ d, Da S G (L + 1) 3 t d ∧ wtD d ≤ W
theorem Odd.fr {S : Addr → Prop} {G G' : Gp} {L W : Nat} {t : T} (h : Odd S G L W t) (f : FrS S G G') : Odd S G' L W t := by
  obtain ⟨d, x, y⟩ := h
  exact ⟨d, x.fr f, y⟩
theorem Odd.str {S : Addr → Prop} {G : Gp} {L W : Nat} {z : Str} (h : z.length ≤ 20 + L + 1) (k : Asc z) (w : 10 * z.length + 2 ≤ W) : Odd S G L W (.str z) := ⟨_, .str h k, by rw [wt_str]; exact w⟩
theorem Odd.int {S : Addr → Prop} {G : Gp} {L W : Nat} {i : Int} (h : i.natAbs ≤ 1000000 + L + 1) (w : 12 ≤ W) : Odd S G L W (.int i) := ⟨_, .int (by omega), by rw [wt_int]; exact w⟩
theorem Odd.of {S : Addr → Prop} {G : Gp} {L W : Nat} {t : T} {ts : List T} (h : t ∈ ts) (k : ∀ t ∈ ts, Odd S G L W t) : Odd S G L W t := k t h
/-! written data -/
mutual
def okT : Nat → T → Bool
  | _, .non => true
  | _, .bl _ => true
  | _, .int i => decide (i.natAbs ≤ 1000000)
  | _, .str z => decide (z.length ≤ 20) && z.cps.toList.all fun c => decide (c < 128)
  | n, .tup ts => decide (1 ≤ n) && (decide (ts.length ≤ 40) && okL (n - 1) ts)
  | _, _ => false
def okL : Nat → List T → Bool
  | _, [] => true
  | n, t :: ts => okT n t && okL n ts
end
mutual
def dOf : T → PyData
  | .non => .none
  | .bl b => .bool b
  | .int i => .int i
  | .str z => .str z
  | .tup ts => .tuple (dOfL ts)
  | _ => .none
def dOfL : List T → List PyData
  | [] => []
  | t :: ts => dOf t :: dOfL ts
end
mutual
theorem okT_da {S : Addr → Prop} {G : Gp} {L : Nat} : ∀ {n : Nat} {t : T}, okT n t = true → Da S G L n t (dOf t)
  | n, .non, _ => by simp only [dOf]; exact .non
  | n, .bl b, _ => by simp only [dOf]; exact .bl
  | n, .int i, h => by
    simp only [okT] at h
    have := of_decide_eq_true h
    simp only [dOf]
    exact .int (by omega)
  | n, .str z, h => by
    simp only [okT, Bool.and_eq_true] at h
    have h1 := of_decide_eq_true h.1
    simp only [dOf]
    exact .str (by omega) fun c hc => of_decide_eq_true (List.all_eq_true.mp h.2 c hc)
  | n, .tup ts, h => by
    simp only [okT, Bool.and_eq_true] at h
    have h1 := of_decide_eq_true h.1
    have h2 := of_decide_eq_true h.2.1
    obtain ⟨m, rfl⟩ : ∃ m, n = m + 1 := ⟨n - 1, by omega⟩
    have := okL_da (S := S) (G := G) (L := L) h.2.2
    simp only [dOf]
    exact DaL.tup (n := m) (by simpa using this) (by omega)
  | n, .ty _, h => by simp [okT] at h
  | n, .ref _, h => by simp [okT] at h
  | n, .cl _, h => by simp [okT] at h
theorem okL_da {S : Addr → Prop} {G : Gp} {L : Nat} : ∀ {n : Nat} {ts : List T}, okL n ts = true → DaL S G L n ts (dOfL ts)
  | n, [], _ => by simp only [dOfL]; exact .nil
  | n, t :: ts, h => by
    simp only [okL, Bool.and_eq_true] at h
    simp only [dOfL]
    exact .cons (okT_da h.1) (okL_da h.2)
end
theorem Odd.w {S : Addr → Prop} {G : Gp} {L W : Nat} {t : T} (h : okT 3 t = true) (w : wtD (dOf t) ≤ 300) (hW : 300 ≤ W) : Odd S G L W t := ⟨_, okT_da h, Nat.le_trans w hW⟩
def odd8 : List T := [.tup [.str "num", .bl true], .tup [.str "rec", .tup []], .tup [.str "case", .tup [.str "hole"], .tup []], .tup [.str "name"], .tup [.str "hole", .int 0], .tup [.str "rec"], .str "hole", .tup [.int 0]]
theorem x_strI {i : Int} {G : Gp} {R : KT} (h : i.natAbs.log2 < 1920) (k : R (.str (toString i)) G) : omStr [.int i] G R := .inl ⟨i, rfl, h, k⟩
theorem int_asc (v : Int) : Asc (Str.ofString (toString v)) := fun c hc => by
  rw [Str.ofString_eq_toList] at hc
  obtain ⟨e, he, rfl⟩ := List.mem_map.mp (show c ∈ (toString v).toList.map Char.toNat by simpa using hc)
  exact int_ascii v e he
theorem cutS_asc {z : Str} (lo hi : Option Int) (h : Asc z) : Asc (cutS z lo hi) ∧ (cutS z lo hi).length ≤ z.length := by
  refine ⟨fun c hc => h c (List.mem_of_mem_drop (List.mem_of_mem_take hc)), ?_⟩
  show (((z.cps.toList.drop (HT.sIx z.length 0 lo)).take (HT.sIx z.length z.length hi - HT.sIx z.length 0 lo)).toArray).size ≤ z.cps.size
  rw [List.size_toArray, List.length_take, List.length_drop, ← Array.length_toList]
  omega
theorem x_upper {z : Str} {G : Gp} {R : KT} (l : z.length ≤ 5592405) (h : R (.str (Txt.upper z)) G) : omUpper (.str z) [] G R := ⟨z, rfl, rfl, l, h⟩
theorem x_slZ {z : Str} {lo hi : Option Int} {G : Gp} {R : KT} (l : z.length ≤ sizeLine) (h : R (.str (cutS z lo hi)) G) : oSl (.str z) lo hi G R := .inr (.inr ⟨z, rfl, l, h⟩)
/-! ### slices -/
theorem cut_hi {α : Type} (xs : List α) {i : Int} (h : 0 ≤ i) : cutT xs none (some i) = xs.take i.toNat := by
  unfold cutT HT.sIx
  simp only [List.drop_zero, Nat.sub_zero]
  split
  · omega
  · by_cases hl : i.toNat ≤ xs.length
    · congr 1; omega
    · rw [List.take_of_length_le (by omega), List.take_of_length_le (by omega)]
theorem cut_lo {α : Type} (xs : List α) {i : Int} (h : 0 ≤ i) : cutT xs (some i) none = xs.drop i.toNat := by
  unfold cutT HT.sIx
  simp only []
  split
  · omega
  · by_cases hl : i.toNat ≤ xs.length
    · rw [List.take_of_length_le (by rw [List.length_drop]; omega)]
      congr 1; omega
    · rw [List.drop_of_length_le (by omega), List.drop_of_length_le (by omega)]
      simp
theorem sIx_nn {n d : Nat} {i : Int} (h : 0 ≤ i) : HT.sIx n d (some i) = min i.toNat n := by
  unfold HT.sIx
  simp only []
  rw [if_neg (by omega)]
theorem cut_mid {α : Type} (xs : List α) {i : Int} (j : Option Int) (h : 0 ≤ i) : ∃ y, cutT xs (some i) j = (xs.drop i.toNat).take y := by
  unfold cutT
  rw [sIx_nn h]
  by_cases hl : i.toNat ≤ xs.length
  · exact ⟨_, by rw [Nat.min_eq_left hl]⟩
  · refine ⟨0, ?_⟩
    rw [Nat.min_eq_right (by omega), List.drop_of_length_le (Nat.le_refl _)]
    simp
theorem cut_two {α : Type} (xs : List α) {i c : Int} (h : 0 ≤ i) (hc : 0 ≤ c) : (cutT xs (some i) (some (i + c))).length ≤ c.toNat := by
  unfold cutT
  rw [sIx_nn h, sIx_nn (by omega), List.length_take]
  omega
theorem wtA_take (i : Nat) (xs : List PyData) : wtA (xs.take i) ≤ wtA xs := by have := wtA_cut i xs; omega
theorem wtA_drop (i : Nat) (xs : List PyData) : wtA (xs.drop i) ≤ wtA xs := by have := wtA_cut i xs; omega
theorem wtA_gap {i j : Nat} (h : i ≤ j) (xs : List PyData) : wtA (xs.take i) + wtA (xs.drop j) ≤ wtA xs := by
  have a := wtA_cut i xs
  have b := wtA_drop (j - i) (xs.drop i)
  rw [List.drop_drop] at b
  rw [show i + (j - i) = j by omega] at b
  omega
section
variable {S : Addr → Prop} {G : Gp} {L n : Nat} {ts : List T} {ds : List PyData}
theorem DaL.mid (h : DaL S G L n ts ds) {i : Int} (j : Option Int) (hi : 0 ≤ i) : ∃ ds', DaL S G L n (cutT ts (some i) j) ds' ∧ wtA ds' ≤ wtA ds := by
  obtain ⟨y, e⟩ := cut_mid ts j hi
  rw [e]
  exact ⟨_, (h.drop i.toNat).take y, Nat.le_trans (wtA_take _ _) (wtA_drop _ _)⟩
end
theorem x_slA {p : Addr} {G : Gp} {ts : List T} {lo hi : Option Int} {R : KT} (e : G p = some (.lst ts)) (k : ∀ q, G q = none → R (.ref q) (Mi.put G q (.lst (cutT ts lo hi)))) : oSl (.ref p) lo hi G R := .inr (.inl ⟨ts, .inr ⟨p, rfl, e⟩, k⟩)
theorem x_slV {m : ME} {r : Mi.Env} {G : Gp} {R : Option Int → Gp → Prop} (k : m r G fun t G1 => ∃ i, t = .int i ∧ R (some i) G1) : moS m r G R := k
theorem x_isi2 {m : ME} {b c : String} {r : Mi.Env} {G : Gp} {R : KT} (h : m r G fun t G1 => ∃ a, knownTy b ∧ knownTy c ∧ tyN G1 t = some a ∧ R (.bl (isKind a b || isKind a c)) G1) : mIsi2 m b c r G R := h
theorem x_list {t : T} {us : List T} {G : Gp} {R : KT} (e : isSq G t us) (h : ∀ p, G p = none → R (.ref p) (Mi.put G p (.lst us))) : omList [t] G R := ⟨t, us, rfl, e, h⟩
theorem x_tuple {t : T} {us : List T} {G : Gp} {R : KT} (e : isSq G t us) (l : us.length ≤ sizeLine) (h : R (.tup us) G) : omTuple [t] G R := ⟨t, us, rfl, e, l, h⟩
theorem x_rev {m : ME} {r : Mi.Env} {G : Gp} {R : KT} (h : m r G fun t G1 => ∃ ts, isL G1 t ts ∧ ∀ p, G1 p = none → R (.ref p) (Mi.put G1 p (.lst ts.reverse))) : mRev m r G R := h
/-- what stands while lists are made -/
structure Hq (a p : Addr) (ts : List T) (M : Int) (G G' : Gp) : Prop where
  f : Fr a G G'
  b : Bx G' a M
  e : G' p = some (.lst ts)
theorem Hq.new {a p q : Addr} {ts : List T} {M : Int} {G G' : Gp} {c : C} (h : Hq a p ts M G G') (hq : G' q = none) : Hq a p ts M G (Mi.put G' q c) := ⟨h.f.trans (Fr.new hq), h.b.new hq, get_new hq h.e⟩
theorem Hq.fr {a p : Addr} {ts : List T} {M M' : Int} {G G' G2 : Gp} (h : Hq a p ts M G G') (f : Fr a G' G2) (b : Bx G2 a M') (n : p ≠ a) : Hq a p ts M' G G2 := ⟨h.f.trans f, b, f _ _ n h.e⟩
/-- a tuple or a list of data -/
theorem seq_of {S : Addr → Prop} {G : Gp} {L n : Nat} {t : T} {d : PyData} {nm : String} (h : Da S G L n t d) (ht : tyN G t = some nm) :
    (isKind nm "tuple" || isKind nm "list") = false ∨ ∃ ts ds n' b, n = n' + 1 ∧ isSq G t ts ∧ DaL S G L n' ts ds ∧ wtD d = 3 + wtA ds ∧ ts.length ≤ 40 + 2 * L ∧ (isKind nm "tuple" || isKind nm "list") = true ∧ isKind nm "tuple" = b ∧ ∀ G', FrS S G G' → tyN G' t = some nm := by
  cases h with
  | non => cases ht; exact .inl (by decide)
  | bl => cases ht; exact .inl (by decide)
  | int _ => cases ht; exact .inl (by decide)
  | str _ _ => cases ht; exact .inl (by decide)
  | tup b c e =>
    cases ht
    exact .inr ⟨_, _, _, true, rfl, .inl rfl, DaL.of c e, wt_tup _, b, by decide, by decide, fun _ _ => rfl⟩
  | lst ne e0 b c e =>
    have : nm = "list" := by simp only [tyN, e0] at ht; exact (Option.some.inj ht).symm
    subst this
    exact .inr ⟨_, _, _, false, rfl, .inr (.inr ⟨_, rfl, e0⟩), DaL.of c e, wt_lst _, b, by decide, by decide, fun G' f => by simp only [tyN, f _ _ ne e0]⟩
/-! lists that are made of a row -/
def MoOk (at_ : Int) (m : MO) (lo : Option Int) : Prop := ∀ (r : Mi.Env) (G : Gp) (R : Option Int → Gp → Prop), r[4]? = some (some (.int at_)) → R lo G → m r G R
theorem mo_none {at_ : Int} : MoOk at_ moN none := fun r G R _ h => x_slN h
theorem mo_at {at_ : Int} : MoOk at_ (moS (mVar 4)) (some at_) := fun r G R e h => x_slV (x_var e ⟨_, rfl, h⟩)
theorem mo_up {at_ c : Int} : MoOk at_ (moS (mOp oAdd (mVar 4) (mC (.int c)))) (some (at_ + c)) := fun r G R e h => x_slV (x_op (x_var e (x_c (x_add ⟨_, rfl, h⟩))))
def Gv (S : Addr → Prop) (a p5 : Addr) (ts : List T) (at_ : Int) (G : Gp) (L n : Nat) (m : ME) (c : Int) (len w : Nat) : Prop :=
  ∀ (r : Mi.Env) (G' : Gp) (M : Int) (K : KT), r[0]? = some (some (.ref a)) → r[4]? = some (some (.int at_)) → r[5]? = some (some (.ref p5)) → M + c + 10 < 1000000000 → Hq a p5 ts M G G' →
    (∀ q G2 us es, q ≠ a → ¬ S q → G q = none → Hq a p5 ts (M + c) G G2 → Fr a G' G2 → G2 q = some (.lst us) → DaL S G2 (L + 1) n us es → us.length ≤ len → wtA es ≤ w → K (.ref q) G2) → m r G' K
section
variable {S : Addr → Prop} {a p5 : Addr} {ts : List T} {at_ : Int} {G : Gp} {L n : Nat} {m m1 m2 : ME} {c c1 c2 : Int} {len l1 l2 w w1 w2 : Nat}
theorem gv_sl {lo hi : Option Int} {ml mh : MO} {es : List PyData} (hSa : S a) (hSd : ∀ s, S s → G s ≠ none) (hl : MoOk at_ ml lo) (hh : MoOk at_ mh hi) (d : DaL S G L n (cutT ts lo hi) es) (hw : wtA es ≤ w) (hlen : (cutT ts lo hi).length ≤ len) : Gv S a p5 ts at_ G L n (mSl (mVar 5) ml mh) 0 len w := by
  intro r G' M K r0 r4 r5 _ H k
  refine x_sl (x_var r5 (hl _ _ _ r4 (hh _ _ _ r4 (x_slA H.e fun q hq => ?_))))
  have qa := H.b.ne hq
  have G0 := H.f.none qa hq
  have H2 := H.new (c := .lst (cutT ts lo hi)) hq
  rw [Int.add_zero] at k
  exact k q _ _ _ qa (fun z => hSd _ z G0) G0 H2 (Fr.new hq) put_same ((d.fr (H2.f.toS hSa)).le (Nat.le_refl _) (by omega)) hlen hw
theorem gv_cat (hSa : S a) (hSd : ∀ s, S s → G s ≠ none) (h1 : Gv S a p5 ts at_ G L n m1 c1 l1 w1) (h2 : Gv S a p5 ts at_ G L n m2 c2 l2 w2) (hc1 : 0 ≤ c1) (hc2 : 0 ≤ c2) (hl : l1 + l2 ≤ 2000) : Gv S a p5 ts at_ G L n (mOp oAdd m1 m2) (c1 + c2) (l1 + l2) (w1 + w2) := by
  intro r G' M K r0 r4 r5 hM H k
  refine x_op (h1 r G' M _ r0 r4 r5 (by omega) H fun q1 G1 us1 es1 q1a q1S q10 H1 f1 e1 d1 le1 we1 => ?_)
  refine h2 r G1 (M + c1) _ r0 r4 r5 (by omega) H1 fun q2 G2 us2 es2 q2a q2S q20 H2 f2 e2 d2 le2 we2 => ?_
  refine x_addL (f2 _ _ q1a e1) e2 (by have := sizeLine_eq; omega) fun q hq => ?_
  have qa := H2.b.ne hq
  have G0 := H2.f.none qa hq
  have H3 := H2.new (c := .lst (us1 ++ us2)) hq
  have f3 : Fr a G2 (Mi.put G2 q (.lst (us1 ++ us2))) := Fr.new hq
  rw [Int.add_assoc] at H3
  exact k q _ _ _ qa (fun z => hSd _ z G0) G0 H3 (f1.trans (f2.trans f3)) put_same ((d1.fr ((f2.trans f3).toS hSa)).app (d2.fr (f3.toS hSa))) (by rw [List.length_append]; omega) (by rw [wtA_app]; omega)
theorem gv_rev (hSa : S a) (hSd : ∀ s, S s → G s ≠ none) (h1 : Gv S a p5 ts at_ G L n m c len w) : Gv S a p5 ts at_ G L n (mRev m) c len w := by
  intro r G' M K r0 r4 r5 hM H k
  refine x_rev (h1 r G' M _ r0 r4 r5 hM H fun q1 G1 us1 es1 q1a q1S q10 H1 f1 e1 d1 le1 we1 => ⟨us1, .inr ⟨q1, rfl, e1⟩, fun q hq => ?_⟩)
  have qa := H1.b.ne hq
  have G0 := H1.f.none qa hq
  have H3 := H1.new (c := .lst us1.reverse) hq
  have f3 : Fr a G1 (Mi.put G1 q (.lst us1.reverse)) := Fr.new hq
  exact k q _ _ _ qa (fun z => hSd _ z G0) G0 H3 (f1.trans f3) put_same ((d1.fr (f3.toS hSa)).rev) (by rw [List.length_reverse]; exact le1) (by rw [wtA_rev]; exact we1)
end
def Made (S : Addr → Prop) (a : Addr) (L n len w : Nat) (G : Gp) (q : Addr) : Prop := ∃ us es, q ≠ a ∧ ¬ S q ∧ G q = some (.lst us) ∧ DaL S G (L + 1) n us es ∧ us.length ≤ len ∧ wtA es ≤ w
theorem Made.fr {S : Addr → Prop} {a q : Addr} {L n len w : Nat} {G G' : Gp} (h : Made S a L n len w G q) (f : FrS S G G') : Made S a L n len w G' q := by
  obtain ⟨us, es, x1, x2, x3, x4, x5, x6⟩ := h
  exact ⟨us, es, x1, x2, f _ _ x2 x3, x4.fr f, x5, x6⟩
theorem Made.le {S : Addr → Prop} {a q : Addr} {L n len w len' w' : Nat} {G : Gp} (h : Made S a L n len w G q) (l : len ≤ len') (l2 : w ≤ w') : Made S a L n len' w' G q := by
  obtain ⟨us, es, x1, x2, x3, x4, x5, x6⟩ := h
  exact ⟨us, es, x1, x2, x3, x4, Nat.le_trans x5 l, Nat.le_trans x6 l2⟩
theorem x_and2 {t1 t2 : MT} {b1 b2 : Bool} {r : Mi.Env} {G : Gp} {R : Bool → Gp → Prop} (h1 : ∀ K : Bool → Gp → Prop, K b1 G → t1 r G K) (h2 : ∀ K : Bool → Gp → Prop, K b2 G → t2 r G K) (h : R (b1 && b2) G) : tmAnd t1 t2 r G R := x_and (h1 _ (by
  cases b1 with
  | false => exact x_iteF rfl h
  | true => exact x_iteT rfl (h2 _ h)))
/-! ### bent data -/
/-! ### terms are data -/
theorem Wd.len {x : Str} (h : Wd x) : x.length ≤ 8 := h.2.1
theorem Wd.da {S : Addr → Prop} {G : Gp} {L n : Nat} {x : Str} (h : Wd x) : Da S G L n (.str x) (.str x) ∧ wtD (.str x) ≤ 82 := ⟨.str (by have := h.len; omega) h.asc, by rw [wt_str]; have := h.len; omega⟩
theorem word_da {S : Addr → Prop} {G : Gp} {L n : Nat} {x : Str} (h : (decide (x.length ≤ 5) && x.cps.toList.all fun c => decide (c < 128)) = true) : Da S G L n (.str x) (.str x) ∧ wtD (.str x) ≤ 52 := by
  rw [Bool.and_eq_true] at h
  have := of_decide_eq_true h.1
  exact ⟨.str (by omega) fun c hc => of_decide_eq_true (List.all_eq_true.mp h.2 c hc), by rw [wt_str]; omega⟩
section
variable {S : Addr → Prop} {G : Gp} {L n : Nat}
theorem DaL.rows {α : Type} {f : α → T} {c : Nat} : ∀ {ps : List α}, (∀ p ∈ ps, ∃ d, Da S G L n (f p) d ∧ wtD d + 2 ≤ c) → ∃ ds, DaL S G L n (ps.map f) ds ∧ wtA ds ≤ ps.length * c
  | [], _ => ⟨[], .nil, by rw [wtA_nil]; exact Nat.zero_le _⟩
  | p :: ps, h => by
    obtain ⟨d, hd, hw⟩ := h p (by simp)
    obtain ⟨ds, hds, hws⟩ := DaL.rows (ps := ps) fun q hq => h q (List.mem_cons_of_mem _ hq)
    refine ⟨d :: ds, .cons hd hds, ?_⟩
    rw [wtA_cons, List.length_cons, Nat.add_mul]
    omega
theorem Da.mk1 {t : T} {d : PyData} (h : Da S G L n t d) : ∃ e, Da S G L (n + 1) (.tup [t]) e ∧ wtD e = wtD d + 5 := ⟨_, DaL.tup (.cons h .nil) (by show 1 ≤ _; omega), by rw [wt_tup, wtA_cons, wtA_nil]; omega⟩
theorem Da.mk2 {t u : T} {d e : PyData} (h : Da S G L n t d) (k : Da S G L n u e) : ∃ z, Da S G L (n + 1) (.tup [t, u]) z ∧ wtD z = wtD d + wtD e + 7 := ⟨_, DaL.tup (.cons h (.cons k .nil)) (by show 2 ≤ _; omega), by rw [wt_tup, wtA_cons, wtA_cons, wtA_nil]; omega⟩
theorem Da.mk3 {t u v : T} {d e f : PyData} (h : Da S G L n t d) (k : Da S G L n u e) (l : Da S G L n v f) : ∃ z, Da S G L (n + 1) (.tup [t, u, v]) z ∧ wtD z = wtD d + wtD e + wtD f + 9 := ⟨_, DaL.tup (.cons h (.cons k (.cons l .nil))) (by show 3 ≤ _; omega), by rw [wt_tup, wtA_cons, wtA_cons, wtA_cons, wtA_nil]; omega⟩
end
/-! ### the text of data: plain signs -/
theorem repr_sign : ∀ c < 128, ∀ e ∈ Builtin.Str.reprChar 39 c ++ Builtin.Str.reprChar 34 c, e < 128 := by
  have h : (List.range 128).all (fun c => (Builtin.Str.reprChar 39 c ++ Builtin.Str.reprChar 34 c).all fun e => decide (e < 128)) = true := by decide +kernel
  intro c hc e he
  exact of_decide_eq_true (List.all_eq_true.mp (List.all_eq_true.mp h c (List.mem_range.mpr hc)) e he)
theorem fold_sign {q : Nat} (hq : q = 39 ∨ q = 34) : ∀ (l : List Nat) (acc : Array Nat), (∀ c ∈ l, c < 128) → (∀ c ∈ acc.toList, c < 128) → ∀ c ∈ (l.foldl (fun out c => out ++ (Builtin.Str.reprChar q c).toArray) acc).toList, c < 128
  | [], acc, _, h => h
  | c :: l, acc, h, k => by
    rw [List.foldl_cons]
    refine fold_sign hq l _ (fun d hd => h d (List.mem_cons_of_mem _ hd)) fun d hd => ?_
    rw [Array.toList_append] at hd
    rcases List.mem_append.mp hd with z | z
    · exact k d z
    · have := repr_sign c (h c (by simp)) d
      rcases hq with rfl | rfl
      · exact this (List.mem_append_left _ (by simpa using z))
      · exact this (List.mem_append_right _ (by simpa using z))
theorem quote_is (x : Str) : reprQuote x = 39 ∨ reprQuote x = 34 := by
  unfold reprQuote
  split
  · exact .inr rfl
  · exact .inl rfl
theorem repr_asc {x : Str} (h : Asc x) : Asc (reprText x) := by
  intro c hc
  unfold reprText at hc
  have hc : c ∈ ((x.cps.foldl (fun out c => out ++ (Builtin.Str.reprChar (reprQuote x) c).toArray) #[reprQuote x]).push (reprQuote x)).toList := hc
  rw [Array.toList_push, ← Array.foldl_toList] at hc
  have hq := quote_is x
  have q128 : reprQuote x < 128 := by rcases hq with e | e <;> rw [e] <;> decide
  rcases List.mem_append.mp hc with z | z
  · exact fold_sign hq _ _ h (fun d hd => by
      have : d = reprQuote x := by simpa using hd
      rw [this]; exact q128) c z
  · rw [List.mem_singleton.mp z]; exact q128
theorem asc_lit {s : String} (h : (Str.ofString s).cps.toList.all (fun c => decide (c < 128)) = true) : Asc (Str.ofString s) := fun c hc => of_decide_eq_true (List.all_eq_true.mp h c hc)
theorem asc_join {ts : List Str} (h : ∀ t ∈ ts, Asc t) : Asc (Str.join ", " ts) := fun c hc => by
  rcases (PyProof.Rows.mem_join _ c ts).mp hc with ⟨t, ht, q⟩ | ⟨_, q⟩
  · exact h t ht c q
  · exact asc_lit (s := ", ") (by decide +kernel) c q
theorem asc_from : ∀ (ts : List Str) (k : Nat) (acc : Str), Asc acc → (∀ t ∈ ts, Asc t) → Asc (textFrom k acc ts)
  | [], _, acc, h, _ => h
  | t :: r, k, acc, h, k2 => by
    refine asc_from r (k + 1) _ ?_ fun u hu => k2 u (List.mem_cons_of_mem _ hu)
    refine (h.app ?_).app (k2 t (by simp))
    split
    · exact asc_lit (s := ", ") (by decide +kernel)
    · exact asc_lit (s := "") (by decide +kernel)
theorem asc_tup {ts : List Str} (h : ∀ t ∈ ts, Asc t) : Asc (tupleText ts) := by
  unfold tupleText
  refine ((asc_lit (s := "(") (by decide +kernel)).app (asc_join h)).app ?_
  split
  · exact asc_lit (s := ",)") (by decide +kernel)
  · exact asc_lit (s := ")") (by decide +kernel)
theorem asc_lst {ts : List Str} (h : ∀ t ∈ ts, Asc t) : Asc (listText ts) := by
  unfold listText
  exact (asc_from ts 0 _ (asc_lit (s := "[") (by decide +kernel)) h).app (asc_lit (s := "]") (by decide +kernel))
theorem Da.asc {S : Addr → Prop} {G : Gp} {L n : Nat} {t : T} {d : PyData} (h : Da S G L n t d) : Asc d.shown := by
  have all : ∀ {ts : List T} {ds : List PyData}, ds.length = ts.length → (∀ (i : Nat) (t : T) (d : PyData), ts[i]? = some t → ds[i]? = some d → Asc d.shown) → ∀ z ∈ PyData.shownAll ds, Asc z := by
    intro ts ds
    induction ds generalizing ts with
    | nil => intro _ _ z hz; simp [PyData.shownAll] at hz
    | cons d ds ih =>
      intro hl hk z hz
      cases ts with
      | nil => simp at hl
      | cons t ts =>
        rw [PyData.shownAll] at hz
        rcases List.mem_cons.mp hz with rfl | q
        · exact hk 0 t d rfl rfl
        · exact ih (ts := ts) (by simpa using hl) (fun i t d a b => hk (i + 1) t d (by simpa using a) (by simpa using b)) z q
  induction h with
  | non => rw [PyData.shown]; exact asc_lit (s := "None") (by decide +kernel)
  | bl =>
    rename_i b
    rw [PyData.shown]
    cases b
    · exact asc_lit (s := "False") (by decide +kernel)
    · exact asc_lit (s := "True") (by decide +kernel)
  | int b => rw [PyData.shown]; exact int_asc _
  | str b c => rw [PyData.shown]; exact repr_asc c
  | tup b c _ i => rw [PyData.shown]; exact asc_tup (all c i)
  | lst _ e b c _ i => rw [PyData.shown]; exact asc_lst (all c i)
/-! ### what is looked at -/
def Ok1 (S : Addr → Prop) (G : Gp) (t : T) : Prop := ∃ d, Da S G 2 48 t d ∧ wtD d ≤ 3000000
theorem Ok1.fr {S : Addr → Prop} {G G' : Gp} {t : T} (h : Ok1 S G t) (f : FrS S G G') : Ok1 S G' t := by
  obtain ⟨d, x, y⟩ := h
  exact ⟨d, x.fr f, y⟩
theorem Ok1.of {S : Addr → Prop} {G : Gp} {L n : Nat} {t : T} {d : PyData} (h : Da S G L n t d) (hL : L ≤ 2) (hn : n ≤ 48) (w : wtD d ≤ 3000000) : Ok1 S G t := ⟨d, h.le hn hL, w⟩
theorem x_repr {t : T} {d : PyData} {G : Gp} {R : KT} (h1 : Dt G t d) (h2 : d.showable = true) (h3 : d.hasDict = false) (h4 : d.depth ≤ 60) (h5 : d.shown.length ≤ sizeLine) (h : R (.str d.shown) G) : omRepr [t] G R := ⟨t, d, rfl, h1, h2, h3, h4, h5, h⟩
theorem x_neB {b : Bool} {G : Gp} {R : KT} (h : R (.bl false) G) : oNe (.bl b) (.bl b) G R := ⟨.bool b, .bool b, .bl b, .bl b, rfl, rfl, by cases b <;> exact h⟩
theorem x_neZ {z : Str} {G : Gp} {R : KT} (c : PyData.strOk z = true) (h : R (.bl false) G) : oNe (.str z) (.str z) G R := by
  have hs : SeqAt.shaped (.str z) = true := Bool.and_eq_true_iff.mpr ⟨c, rfl⟩
  refine ⟨.str z, .str z, .str z, .str z, hs, hs, ?_⟩
  have e : PyData.eqv (.str z) (.str z) = true := by
    show (z == z) = true
    exact beq_self_eq_true z
  rw [e]
  exact h

/-! ### what the law asks of one box -/
theorem Ok1.w {S : Addr → Prop} {G : Gp} {t : T} (h : okT 3 t = true) (w : wtD (dOf t) ≤ 300) : Ok1 S G t := Ok1.of (okT_da (L := 0) h) (by decide) (by decide) (by omega)
/-! ### the law -/
theorem x_max2 {i j : Int} {G : Gp} {R : KT} (h : R (.int (if j > i then j else i)) G) : omMax2 [.int i, .int j] G R := ⟨i, j, rfl, h⟩
theorem x_min2 {i j : Int} {G : Gp} {R : KT} (h : R (.int (if j < i then j else i)) G) : omMin2 [.int i, .int j] G R := ⟨i, j, rfl, h⟩end Lw

set_option Elab.async false
set_option linter.all false
set_option maxRecDepth 100000
set_option maxHeartbeats 4000000
namespace Lw
open PySem L2 Mi
def topS (i : Nat) : Stmt := PySem.Challenge.pw_sealedkinds_k03_sealed_kinds_opened.main.body.getD i (.Pass ⟨0, 0, 0, 0⟩)
abbrev s0 : Stmt := topS 1
abbrev s1 : Stmt := topS 3
abbrev s2 : Stmt := topS 4
abbrev s3 : Stmt := topS 5
abbrev s4 : Stmt := topS 6
abbrev s5 : Stmt := topS 7
abbrev s6 : Stmt := topS 9
abbrev s7 : Stmt := topS 10
abbrev s8 : Stmt := topS 11
abbrev s9 : Stmt := topS 12
abbrev s10 : Stmt := topS 13
abbrev s11 : Stmt := topS 14
abbrev s12 : Stmt := topS 15
abbrev s13 : Stmt := topS 16
abbrev s14 : Stmt := topS 17
abbrev s15 : Stmt := topS 18
abbrev s16 : Stmt := topS 19
abbrev s17 : Stmt := topS 20
abbrev s18 : Stmt := topS 21
abbrev s19 : Stmt := topS 22
abbrev s20 : Stmt := topS 23
abbrev s21 : Stmt := topS 24
abbrev s22 : Stmt := topS 25
def lam3 : LamT := lamAt s3 "opened.<locals>.<lambda>" ["part", "parts"] "seals"
def mlam3 [Tb] (S : Nat → Sm) : ME := (mCall (S 5) (maCons (mVar 0) (maCons (mVar 1) (maCons (mVar 2) maNil))))
/-- folded -/
def b0 [Tb] (S : Nat → Sm) (So : Option (Nat → Sm)) : MS := (msSeq (msAsg (mLst maNil) (mgName 3)) (msSeq (msAsg (mLst (maCons (mVar 0) maNil)) (mgName 4)) (msSeq (msWhile (mTru (mVar 4)) (msSeq (msAsg (mBm0 "list" omPop (mVar 4)) (mgName 5)) (msSeq (msAsg (mCallV 1 [("kind_parts", S 1)] [] (maCons (mVar 5) maNil)) (mgName 6)) (msSeq (msExpr (mBm "list" omAppend (mVar 3) (maCons (mTup (maCons (mVar 5) (maCons (mCall omLen (maCons (mVar 6) maNil)) maNil))) maNil))) (msExpr (mBm "list" omExtendS (mVar 4) (maCons (mVar 6) maNil))))))) (msSeq (msAsg (mLst maNil) (mgName 7)) (msSeq (msFor (miSeq (mRev (mVar 3))) (mgTup 2 (mgCons (mgName 5) (mgCons (mgName 8) mgNil))) (msSeq (msAsg (mOp oSub (mCall omLen (maCons (mVar 7) maNil)) (mVar 8)) (mgName 9)) (msSeq (msAsg (mSl (mVar 7) (moS (mVar 9)) moN) (mgName 10)) (msSeq (msDelFrom (mVar 7) (moS (mVar 9))) (msExpr (mBm "list" omAppend (mVar 7) (maCons (mCallV 2 [] (lamL So lam3 mlam3) (maCons (mVar 5) (maCons (mVar 10) maNil))) maNil))))))) (msRet (mOp oIx (mVar 7) (mC (.int 0)))))))))
/-- kind_parts -/
def b1 (S : Nat → Sm) : MS := (msSeq (msIf (mB (mOp oEq (mOp oIx (mVar 0) (mC (.int 0))) (mC (.str "fun")))) (msRet (mLst (maCons (mOp oIx (mVar 0) (mC (.int 1))) (maCons (mOp oIx (mVar 0) (mC (.int 2))) maNil)))) msNext) (msSeq (msIf (mB (mOp (oInA false) (mOp oIx (mVar 0) (mC (.int 0))) (mTup (maCons (mC (.str "rec")) (maCons (mC (.str "sum")) maNil))))) (msRet (mLc (miSeq (mOp oIx (mVar 0) (mC (.int 1)))) (mgName 1) mtYes (mOp oIx (mVar 1) (mC (.int 1))) [1])) msNext) (msRet (mLst maNil))))
/-- with_kinds -/
def b2 (S : Nat → Sm) : MS := (msSeq (msIf (mB (mOp oEq (mOp oIx (mVar 0) (mC (.int 0))) (mC (.str "fun")))) (msRet (mTup (maCons (mC (.str "fun")) (maCons (mOp oIx (mVar 1) (mC (.int 0))) (maCons (mOp oIx (mVar 1) (mC (.int 1))) maNil))))) msNext) (msSeq (msIf (mB (mOp (oInA false) (mOp oIx (mVar 0) (mC (.int 0))) (mTup (maCons (mC (.str "rec")) (maCons (mC (.str "sum")) maNil))))) (msSeq (msAsg (mLc (miSeq (mOp oIx (mVar 0) (mC (.int 1)))) (mgName 3) mtYes (mOp oIx (mVar 3) (mC (.int 0))) [3]) (mgName 2)) (msRet (mTup (maCons (mOp oIx (mVar 0) (mC (.int 0))) (maCons (mTupZip (mVar 2) (mVar 1)) (maCons (mOp oIx (mVar 0) (mC (.int 2))) maNil)))))) msNext) (msRet (mVar 0))))
/-- opened -/
def b3 [Tb] (S : Nat → Sm) : MS := (msSeq (msIf (tmOr (tmNot (mTru (mVar 1))) (tmNot (mTru (mCall (S 4) (maCons (mVar 0) maNil))))) (msRet (mVar 0)) msNext) (msSeq (msAsg (mDcT (miSeq (mVar 1)) (mgTup 3 (mgCons (mgName 3) (mgCons (mgName 4) (mgCons (mgName 5) mgNil)))) (mTupK (maCons (mVar 3) (maCons (mVar 4) maNil))) (mVar 5) [3, 4, 5]) (mgName 2)) (msRet (mCallLam2 (Tb.at_ 3) lam3 2 (S 0) (mVar 0) (mGf "kind_parts")))))
/-- has_own -/
def b4 (S : Nat → Sm) : MS := (msSeq (msAsg (mLst (maCons (mVar 0) maNil)) (mgName 1)) (msSeq (msWhile (mTru (mVar 1)) (msSeq (msAsg (mBm0 "list" omPop (mVar 1)) (mgName 2)) (msSeq (msIf (mB (mOp oEq (mOp oIx (mVar 2) (mC (.int 0))) (mC (.str "own")))) (msRet (mC (.bl true))) msNext) (msExpr (mBm "list" omExtendS (mVar 1) (maCons (mCall (S 1) (maCons (mVar 2) maNil)) maNil)))))) (msRet (mC (.bl false)))))
/-- unsealed -/
def b5 (S : Nat → Sm) : MS := (msSeq (msIf (mB (mOp oEq (mOp oIx (mVar 0) (mC (.int 0))) (mC (.str "own")))) (msRet (mGet2 (mVar 2) (mTupK (maCons (mOp oIx (mVar 0) (mC (.int 1))) (maCons (mOp oIx (mVar 0) (mC (.int 2))) maNil))) (mVar 0))) msNext) (msRet (mCall (S 2) (maCons (mVar 0) (maCons (mVar 1) maNil)))))
/-- _law_box -/
def b6 (S : Nat → Sm) : MS := (msSeq (msAsg (mIf (mB (mOp oLtU (mVar 1) (mCall omLen (maCons (mVar 0) maNil)))) (mOp oIx (mVar 0) (mVar 1)) (mC (.int 0))) (mgName 2)) (msRet (mLst (maCons (mOp oMulU (mCall omAbs (maCons (mVar 2) maNil)) (mCall omInt (maCons (mOp oGeU (mCall omAbs (maCons (mVar 2) maNil)) (mOp oPow (mC (.int 10)) (mC (.int 18)))) maNil))) (maCons (mOp oMod (mOp oMulU (mOp oAdd (mOp oAdd (mOp oMod (mVar 2) (mC (.int 2147483629))) (mOp oMulU (mC (.int 15485863)) (mVar 1))) (mC (.int 43))) (mC (.int 48271))) (mC (.int 2147483647))) (maCons (mC (.int 0)) maNil))))))
/-- _law_take -/
def b7 (S : Nat → Sm) : MS := (msSeq (msIf (mB (mOp oGtU (mOp oIx (mVar 0) (mC (.int 0))) (mC (.int 0)))) (msSeq (msAsg (mCall omDivmod (maCons (mOp oIx (mVar 0) (mC (.int 0))) (maCons (mVar 1) maNil))) (mgTup 2 (mgCons (mgSub (mVar 0) (mC (.int 0)) osLst) (mgCons (mgName 2) mgNil)))) (msRet (mVar 2))) msNext) (msSeq (msIf (mB (mOp oGtU (mVar 1) (mOp oPow (mC (.int 10)) (mC (.int 7))))) (msRet (mOp oMod (mOp oAdd (mCall (S 7) (maCons (mVar 0) (maCons (mOp oPow (mC (.int 10)) (mC (.int 7))) maNil))) (mOp oMulU (mOp oPow (mC (.int 10)) (mC (.int 7))) (mCall (S 7) (maCons (mVar 0) (maCons (mOp oAdd (mOp oFdiv (mOp oSub (mVar 1) (mC (.int 1))) (mOp oPow (mC (.int 10)) (mC (.int 7)))) (mC (.int 1))) maNil))))) (mVar 1))) msNext) (msSeq (msAsg (mOp oAdd (mOp oIx (mVar 0) (mC (.int 2))) (mC (.int 1))) (mgSub (mVar 0) (mC (.int 2)) osLst)) (msSeq (msAsg (mOp oAdd (mC (.int 69621)) (mOp oMulU (mOp oIx (mVar 0) (mC (.int 2))) (mOp oIx (mVar 0) (mC (.int 2))))) (mgName 3)) (msSeq (msAsg (mOp oMod (mOp oMulU (mOp oAdd (mOp oIx (mVar 0) (mC (.int 1))) (mOp oMulU (mC (.int 39373)) (mOp oIx (mVar 0) (mC (.int 2))))) (mVar 3)) (mC (.int 2147483587))) (mgName 4)) (msSeq (msAsg (mOp oMod (mOp oAdd (mOp oMulU (mVar 4) (mOp oAdd (mOp oMod (mVar 4) (mC (.int 30011))) (mC (.int 5)))) (mOp oIx (mVar 0) (mC (.int 2)))) (mC (.int 2147483563))) (mgName 5)) (msRet (mOp oMod (mOp oFdiv (mOp oMod (mOp oMulU (mVar 5) (mOp oAdd (mOp oMod (mVar 5) (mC (.int 1013))) (mC (.int 3)))) (mC (.int 998244353))) (mC (.int 16))) (mVar 1)))))))))
/-- _law_folded -/
def b8 (S : Nat → Sm) : MS := (msSeq (msAsg (mCall omList (maCons (mSl (mVar 0) moN (moS (mVar 1))) maNil)) (mgName 2)) (msSeq (msFor (miEnum (mSl (mVar 0) (moS (mVar 1)) (moS (mC (.int 63))))) (mgTup 2 (mgCons (mgName 3) (mgCons (mgName 4) mgNil))) (msAsg (mOp oAdd (mOp oIx (mVar 2) (mOp oMod (mVar 3) (mVar 1))) (mOp oMulU (mVar 4) (mOp oAdd (mVar 3) (mC (.int 2))))) (mgSub (mVar 2) (mOp oMod (mVar 3) (mVar 1)) osLst))) (msRet (mVar 2))))
/-- _law_same -/
def b9 (S : Nat → Sm) : MS := (msSeq (msIf (mTru (mIsi2 (mVar 1) "list" "tuple")) (msSeq (msIf (tmOr (mB (mOp oNe (mCall omIsi (maCons (mVar 0) (maCons (mC (.ty "list")) maNil))) (mCall omIsi (maCons (mVar 1) (maCons (mC (.ty "list")) maNil))))) (mB (mOp oNe (mCall omIsi (maCons (mVar 0) (maCons (mC (.ty "tuple")) maNil))) (mCall omIsi (maCons (mVar 1) (maCons (mC (.ty "tuple")) maNil)))))) (msRet (mC (.bl false))) msNext) (msRet (mAndV (mOp oEq (mCall omLen (maCons (mVar 0) maNil)) (mCall omLen (maCons (mVar 1) maNil))) (mCall omAll (maCons (mLc (miZip (mVar 0) (mVar 1)) (mgTup 2 (mgCons (mgName 2) (mgCons (mgName 3) mgNil))) mtYes (mCall (S 9) (maCons (mVar 2) (maCons (mVar 3) maNil))) [2, 3]) maNil))))) msNext) (msSeq (msIf (tmOr (mB (mOp oIsN (mVar 1) (mC .non))) (mTru (mCall omIsi (maCons (mVar 1) (maCons (mC (.ty "str")) maNil))))) (msRet (mAndV (mOp oEq (mVar 0) (mVar 1)) (mOp oEq (mCall omIsi (maCons (mVar 0) (maCons (mC (.ty "str")) maNil))) (mCall omIsi (maCons (mVar 1) (maCons (mC (.ty "str")) maNil)))))) msNext) (msRet (mAndV (mCall omIsi (maCons (mVar 0) (maCons (mC (.ty "int")) maNil))) (mAndV (mOp oEq (mCall omIsi (maCons (mVar 0) (maCons (mC (.ty "bool")) maNil))) (mCall omIsi (maCons (mVar 1) (maCons (mC (.ty "bool")) maNil)))) (mOp oEq (mVar 0) (mVar 1)))))))
/-- _law_of -/
def b10 (S : Nat → Sm) : MS := (msRet (mOp oIx (mVar 1) (mCall (S 7) (maCons (mVar 0) (maCons (mCall omLen (maCons (mVar 1) maNil)) maNil)))))
/-- _law_names -/
def b11 (S : Nat → Sm) : MS := (msSeq (msAsg (mTup (maCons (mC (.str "abcdefghijklmnopqrstuvwxyz")) (maCons (mCall (S 7) (maCons (mVar 0) (maCons (mC (.int 26)) maNil))) (maCons (mLst maNil) maNil)))) (mgTup 3 (mgCons (mgName 2) (mgCons (mgName 3) (mgCons (mgName 4) mgNil))))) (msSeq (msAsg (mBm "str" omJoin (mC (.str "")) (maCons (mLc (miRange (mCall (S 7) (maCons (mVar 0) (maCons (mC (.int 6)) maNil)))) (mgName 10) mtYes (mOp oIx (mVar 2) (mCall (S 7) (maCons (mVar 0) (maCons (mC (.int 26)) maNil)))) [10]) maNil)) (mgName 5)) (msSeq (msPar 6 7 (maCons (mOp oIx (mLst (maCons (mC (.int 1)) (maCons (mC (.int 3)) (maCons (mC (.int 25)) maNil)))) (mCall (S 7) (maCons (mVar 0) (maCons (mC (.int 3)) maNil)))) (maCons (mCall (S 7) (maCons (mVar 0) (maCons (mC (.int 2)) maNil))) maNil))) (msSeq (msFor (miRange (mVar 1)) (mgName 8) (msSeq (msAsg (mOp oIx (mVar 2) (mOp oMod (mOp oAdd (mVar 3) (mOp oMulU (mVar 6) (mIf (mB (mOp oEq (mVar 7) (mC (.int 1)))) (mOp oFdiv (mVar 8) (mC (.int 2))) (mVar 8)))) (mC (.int 26)))) (mgName 9)) (msExpr (mBm "list" omAppend (mVar 4) (maCons (mOp oAdd (mOp oAdd (mVar 5) (mVar 9)) (mOp oMulU (mC (.str "ab")) (mCall omInt (maCons (mAndV (mOp oEq (mVar 7) (mC (.int 1))) (mOp oEq (mOp oMod (mVar 8) (mC (.int 2))) (mC (.int 1)))) maNil)))) maNil))))) (msRet (mVar 4))))))
/-- _law_world -/
def b12 (S : Nat → Sm) : MS := (msSeq (msAsg (mDisp [("labels", (mCall omSortS (maCons (mCall (S 11) (maCons (mVar 0) (maCons (mVar 1) maNil))) maNil))), ("owns", (mLst maNil)), ("anys", (mLst (maCons (mC (.int 0)) (maCons (mC (.int 1)) (maCons (mC (.int 2)) maNil))))), ("rests", mDNew), ("next", (mC (.int 3)))]) (mgName 2)) (msRet (mVar 2)))
/-- _law_pairs -/
def b13 (S : Nat → Sm) : MS := (msSeq (msAsg (mLc (miSeq (mDGet (mVar 1) (mC (.str "labels")))) (mgName 5) (mB (mOp oEq (mCall (S 7) (maCons (mVar 0) (maCons (mC (.int 2)) maNil))) (mC (.int 0)))) (mVar 5) [5]) (mgName 4)) (msSeq (msIf (mB (mOp oLtU (mCall omLen (maCons (mVar 4) maNil)) (mVar 3))) (msAsg (mLst (maCons (mOp oIx (mDGet (mVar 1) (mC (.str "labels"))) (mCall (S 7) (maCons (mVar 0) (maCons (mCall omLen (maCons (mDGet (mVar 1) (mC (.str "labels"))) maNil)) maNil)))) maNil)) (mgName 4)) msNext) (msRet (mCall omTuple (maCons (mLc (miSeq (mVar 4)) (mgName 5) mtYes (mTup (maCons (mVar 5) (maCons (mCall (S 15) (maCons (mVar 0) (maCons (mVar 1) (maCons (mVar 2) maNil)))) maNil))) [5]) maNil)))))
/-- _law_rest -/
def b14 (S : Nat → Sm) : MS := (msSeq (msIf (mB (mOp oEq (mCall (S 7) (maCons (mVar 0) (maCons (mC (.int 2)) maNil))) (mC (.int 0)))) (msRet (mC .non)) msNext) (msSeq (msAsg (mOp oAdd (mOp oAdd (mVar 2) (mC (.str " "))) (mBm "str" omJoin (mC (.str " ")) (maCons (mLc (miSeq (mVar 3)) (mgTup 2 (mgCons (mgName 5) (mgCons (mgName 6) mgNil))) mtYes (mVar 5) [5, 6]) maNil))) (mgName 4)) (msSeq (msIf (mB (mDIn true (mVar 4) (mDGet (mVar 1) (mC (.str "rests"))))) (msAsg (mTup (maCons (mDGet (mVar 1) (mC (.str "next"))) (maCons (mOp oAdd (mDGet (mVar 1) (mC (.str "next"))) (mC (.int 1))) maNil))) (mgTup 2 (mgCons (mgSub (mDGet (mVar 1) (mC (.str "rests"))) (mVar 4) osDct) (mgCons (mgSub (mVar 1) (mC (.str "next")) osDct) mgNil)))) msNext) (msRet (mDGet (mDGet (mVar 1) (mC (.str "rests"))) (mVar 4))))))
/-- _law_kind -/
def b15 (S : Nat → Sm) : MS := (msSeq (msAsg (mIf (mB (mOp oGtU (mVar 2) (mC (.int 1)))) (mCall (S 7) (maCons (mVar 0) (maCons (mC (.int 8)) maNil))) (mCall (S 7) (maCons (mVar 0) (maCons (mC (.int 3)) maNil)))) (mgName 3)) (msSeq (msIf (tmOr (mB (mOp oEq (mVar 3) (mC (.int 0)))) (tmOr (tmAnd (mB (mOp oEq (mVar 3) (mC (.int 1)))) (mB (mOp oEq (mDGet (mVar 1) (mC (.str "anys"))) (mLst maNil)))) (tmAnd (mB (mOp oEq (mVar 3) (mC (.int 2)))) (mB (mOp oEq (mDGet (mVar 1) (mC (.str "owns"))) (mLst maNil)))))) (msRet (mTup (maCons (mC (.str "num")) maNil))) msNext) (msSeq (msIf (mB (mOp oEq (mVar 3) (mC (.int 1)))) (msRet (mTup (maCons (mC (.str "any")) (maCons (mCall (S 10) (maCons (mVar 0) (maCons (mDGet (mVar 1) (mC (.str "anys"))) maNil))) maNil)))) msNext) (msSeq (msIf (mB (mOp oEq (mVar 3) (mC (.int 2)))) (msRet (mOp oAdd (mTup (maCons (mC (.str "own")) maNil)) (mCall (S 10) (maCons (mVar 0) (maCons (mDGet (mVar 1) (mC (.str "owns"))) maNil))))) msNext) (msSeq (msIf (mB (mOp oLtU (mVar 3) (mC (.int 5)))) (msSeq (msAsg (mCall (S 15) (maCons (mVar 0) (maCons (mVar 1) (maCons (mOp oSub (mVar 2) (mC (.int 1))) maNil)))) (mgName 4)) (msRet (mTup (maCons (mC (.str "fun")) (maCons (mVar 4) (maCons (mCall (S 15) (maCons (mVar 0) (maCons (mVar 1) (maCons (mOp oSub (mVar 2) (mC (.int 1))) maNil)))) maNil)))))) msNext) (msSeq (msAsg (mOp oIx (mLst (maCons (mC (.str "rec")) (maCons (mC (.str "sum")) maNil))) (mOp oMod (mVar 3) (mC (.int 2)))) (mgName 5)) (msSeq (msAsg (mCall (S 13) (maCons (mVar 0) (maCons (mVar 1) (maCons (mOp oSub (mVar 2) (mC (.int 1))) (maCons (mCall omInt (maCons (mOp oEq (mVar 5) (mC (.str "sum"))) maNil)) maNil))))) (mgName 6)) (msRet (mTup (maCons (mVar 5) (maCons (mVar 6) (maCons (mCall (S 14) (maCons (mVar 0) (maCons (mVar 1) (maCons (mVar 5) (maCons (mVar 6) maNil))))) maNil))))))))))))
/-- _law_open_world -/
def b16 (S : Nat → Sm) : MS := (msSeq (msAsg (mCall (S 12) (maCons (mVar 0) (maCons (mVar 1) maNil))) (mgName 2)) (msSeq (msAsg (mCall (S 11) (maCons (mVar 0) (maCons (mC (.int 4)) maNil))) (mgName 3)) (msSeq (msDPut (mVar 2) (mC (.str "owns")) (mLc (miRange (mCall (S 7) (maCons (mVar 0) (maCons (mC (.int 4)) maNil)))) (mgName 5) mtYes (mTup (maCons (mOp oIx (mVar 3) (mCall (S 7) (maCons (mVar 0) (maCons (mC (.int 4)) maNil)))) (maCons (mOp oIx (mVar 3) (mCall (S 7) (maCons (mVar 0) (maCons (mC (.int 4)) maNil)))) maNil))) [5])) (msSeq (msAsg (mOp oIx (mLst (maCons (mC (.int 0)) (maCons (mCall (S 7) (maCons (mVar 0) (maCons (mC (.int 9)) maNil))) (maCons (mOp oPow (mC (.int 10)) (mC (.int 6))) maNil)))) (mCall (S 7) (maCons (mVar 0) (maCons (mC (.int 3)) maNil)))) (mgName 4)) (msSeq (msAsg (mTup (maCons (mSl (mLst (maCons (mVar 4) (maCons (mOp oAdd (mVar 4) (mC (.int 1))) (maCons (mOp oAdd (mVar 4) (mC (.int 7))) maNil)))) moN (moS (mCall (S 7) (maCons (mVar 0) (maCons (mC (.int 4)) maNil))))) (maCons (mOp oAdd (mVar 4) (mC (.int 8))) maNil))) (mgTup 2 (mgCons (mgSub (mVar 2) (mC (.str "anys")) osDct) (mgCons (mgSub (mVar 2) (mC (.str "next")) osDct) mgNil)))) (msRet (mVar 2)))))))
/-- _law_size -/
def b17 (S : Nat → Sm) : MS := (msSeq (msIf (mB (mOp oEq (mOp oIx (mVar 0) (mC (.int 0))) (mC (.str "fun")))) (msRet (mOp oAdd (mOp oAdd (mC (.int 1)) (mCall (S 17) (maCons (mOp oIx (mVar 0) (mC (.int 1))) maNil))) (mCall (S 17) (maCons (mOp oIx (mVar 0) (mC (.int 2))) maNil)))) msNext) (msRet (mIf (mB (mOp (oInA false) (mOp oIx (mVar 0) (mC (.int 0))) (mTup (maCons (mC (.str "rec")) (maCons (mC (.str "sum")) maNil))))) (mOp oAdd (mC (.int 1)) (mCall omSum (maCons (mLc (miSeq (mOp oIx (mVar 0) (mC (.int 1)))) (mgTup 2 (mgCons (mgName 1) (mgCons (mgName 2) mgNil))) mtYes (mCall (S 17) (maCons (mVar 2) maNil)) [1, 2]) maNil))) (mC (.int 1)))))
/-- _law_small -/
def b18 (S : Nat → Sm) : MS := (msSeq (msAsg (mCall (S 15) (maCons (mVar 0) (maCons (mVar 1) (maCons (mVar 2) maNil)))) (mgName 3)) (msRet (mIf (mB (mOp oLtU (mCall (S 17) (maCons (mVar 3) maNil)) (mC (.int 31)))) (mVar 3) (mTup (maCons (mC (.str "fun")) (maCons (mTup (maCons (mC (.str "num")) maNil)) (maCons (mTup (maCons (mC (.str "num")) maNil)) maNil)))))))
/-- _law_opened -/
def b19 (S : Nat → Sm) : MS := (msSeq (msIf (mB (mOp oEq (mOp oIx (mVar 0) (mC (.int 0))) (mC (.str "own")))) (msSeq (msAsg (mLc (miSeq (mVar 1)) (mgTup 3 (mgCons (mgName 3) (mgCons (mgName 4) (mgCons (mgName 5) mgNil)))) (mB (mOp oEq (mTup (maCons (mVar 3) (maCons (mVar 4) maNil))) (mSl (mVar 0) (moS (mC (.int 1))) moN))) (mVar 5) [3, 4, 5]) (mgName 2)) (msRet (mIf (mB (mOp oNe (mVar 2) (mLst maNil))) (mOp oIx (mVar 2) (mC (.int 0))) (mVar 0)))) msNext) (msSeq (msIf (mB (mOp oEq (mOp oIx (mVar 0) (mC (.int 0))) (mC (.str "fun")))) (msRet (mTup (maCons (mC (.str "fun")) (maCons (mCall (S 19) (maCons (mOp oIx (mVar 0) (mC (.int 1))) (maCons (mVar 1) maNil))) (maCons (mCall (S 19) (maCons (mOp oIx (mVar 0) (mC (.int 2))) (maCons (mVar 1) maNil))) maNil))))) msNext) (msSeq (msIf (mB (mOp (oInA true) (mOp oIx (mVar 0) (mC (.int 0))) (mTup (maCons (mC (.str "rec")) (maCons (mC (.str "sum")) maNil))))) (msRet (mVar 0)) msNext) (msRet (mTup (maCons (mOp oIx (mVar 0) (mC (.int 0))) (maCons (mCall omTuple (maCons (mLc (miSeq (mOp oIx (mVar 0) (mC (.int 1)))) (mgTup 2 (mgCons (mgName 6) (mgCons (mgName 5) mgNil))) mtYes (mTup (maCons (mVar 6) (maCons (mCall (S 19) (maCons (mVar 5) (maCons (mVar 1) maNil))) maNil))) [6, 5]) maNil)) (maCons (mOp oIx (mVar 0) (mC (.int 2))) maNil))))))))
/-- _law_bare -/
def b20 (S : Nat → Sm) : MS := (msSeq (msAsg (mCall omDictD (maCons (mVar 1) maNil)) (mgName 2)) (msSeq (msExpr (mBm "dict" omUpdate (mVar 2) (maCons (mDisp [("anys", (mLst maNil)), ("rests", mDNew)]) maNil))) (msSeq (msAsg (mCall (S 18) (maCons (mVar 0) (maCons (mVar 2) (maCons (mOp oAdd (mC (.int 1)) (mCall (S 7) (maCons (mVar 0) (maCons (mC (.int 3)) maNil)))) maNil)))) (mgName 3)) (msRet (mIf (mB (mOp oEqE (mDGet (mVar 2) (mC (.str "rests"))) mDNew)) (mVar 3) (mOp oAdd (mTup (maCons (mC (.str "own")) maNil)) (mOp oIx (mDGet (mVar 1) (mC (.str "owns"))) (mC (.int 0)))))))))
/-- _law_right -/
def b21 (S : Nat → Sm) : MS := (msSeq (msPar 1 2 (maCons (mCall (S 16) (maCons (mVar 0) (maCons (mC (.int 3)) maNil))) (maCons (mCall (S 11) (maCons (mVar 0) (maCons (mC (.int 5)) maNil))) maNil))) (msSeq (msDPut (mVar 1) (mC (.str "owns")) (mOp oAdd (mDGet (mVar 1) (mC (.str "owns"))) (mLst (maCons (mTup (maCons (mOp oIx (mVar 2) (mC (.int 0))) (maCons (mOp oIx (mVar 2) (mC (.int 1))) maNil))) (maCons (mTup (maCons (mOp oIx (mVar 2) (mC (.int 1))) (maCons (mOp oIx (mVar 2) (mC (.int 0))) maNil))) (maCons (mTup (maCons (mOp oIx (mVar 2) (mC (.int 0))) (maCons (mOp oIx (mVar 2) (mC (.int 2))) maNil))) maNil)))))) (msSeq (msAsg (mTup (maCons (mCall (S 18) (maCons (mVar 0) (maCons (mVar 1) (maCons (mOp oAdd (mC (.int 1)) (mCall (S 7) (maCons (mVar 0) (maCons (mC (.int 6)) maNil)))) maNil)))) (maCons (mCall omList (maCons (mDGet (mVar 1) (mC (.str "owns"))) maNil)) (maCons (mLst maNil) maNil)))) (mgTup 3 (mgCons (mgName 3) (mgCons (mgName 4) (mgCons (mgName 5) mgNil))))) (msSeq (msAsg (mOp oAdd (mLc (miEnum (mVar 4)) (mgTup 2 (mgCons (mgName 10) (mgCons (mgName 7) mgNil))) (mB (mOp (oInA true) (mVar 7) (mSl (mVar 4) moN (moS (mVar 10))))) (mVar 7) [10, 7]) (mLst (maCons (mTup (maCons (mOp oIx (mVar 2) (mC (.int 4))) (maCons (mOp oIx (mVar 2) (mC (.int 0))) maNil))) maNil))) (mgName 4)) (msSeq (msFor (miRange (mCall (S 7) (maCons (mVar 0) (maCons (mC (.int 5)) maNil)))) (mgName 6) (msSeq (msAsg (mIf (mB (mOp oNe (mVar 4) (mLst maNil))) (mBm "list" omPopAt (mVar 4) (maCons (mCall (S 7) (maCons (mVar 0) (maCons (mCall omLen (maCons (mVar 4) maNil)) maNil))) maNil)) (mTup (maCons (mOp oIx (mVar 2) (mC (.int 3))) (maCons (mOp oIx (mVar 2) (mC (.int 3))) maNil)))) (mgName 7)) (msAsg (mOp oAdd (mVar 5) (mOp oMulU (mLst (maCons (mOp oAdd (mVar 7) (mTup (maCons (mCall (S 20) (maCons (mVar 0) (maCons (mVar 1) maNil))) maNil))) maNil)) (mCall omInt (maCons (mOp (oInA true) (mVar 7) (mLc (miSeq (mVar 5)) (mgName 11) mtYes (mSl (mVar 11) moN (moS (mC (.int 2)))) [11])) maNil)))) (mgName 5)))) (msSeq (msPar 8 9 (maCons (mCall omRepr (maCons (mLst (maCons (mVar 3) (maCons (mVar 5) maNil))) maNil)) (maCons (mCall (S 19) (maCons (mVar 3) (maCons (mVar 5) maNil))) maNil))) (msSeq (msIf (tmNot (mTru (mCall (S 9) (maCons (mLst (maCons (mCall (S 3) (maCons (mVar 3) (maCons (mVar 5) maNil))) (maCons (mCall (S 3) (maCons (mVar 3) (maCons (mCall omTuple (maCons (mVar 5) maNil)) maNil))) (maCons (mCall (S 3) (maCons (mVar 3) (maCons (mRev (mVar 5)) maNil))) maNil)))) (maCons (mOp oMulU (mLst (maCons (mVar 9) maNil)) (mC (.int 3))) maNil))))) (msRet (mC (.bl false))) msNext) (msRet (mAndV (mCall (S 9) (maCons (mCall (S 3) (maCons (mVar 3) (maCons (mLst maNil) maNil))) (maCons (mVar 3) maNil))) (mAndV (mOp oEq (mCall (S 3) (maCons (mVar 3) (maCons (mTup maNil) maNil))) (mVar 3)) (mOp oEq (mCall omRepr (maCons (mLst (maCons (mVar 3) (maCons (mVar 5) maNil))) maNil)) (mVar 8))))))))))))
/-- law -/
def b22 (S : Nat → Sm) : MS := (msSeq (msAsg (mCall (S 8) (maCons (mVar 0) (maCons (mC (.int 3)) maNil))) (mgName 1)) (msSeq (msFor (miRange (mCall omMax2 (maCons (mC (.int 1)) (maCons (mCall omLen (maCons (mVar 1) maNil)) maNil)))) (mgName 2) (msSeq (msAsg (mCall (S 6) (maCons (mVar 1) (maCons (mVar 2) maNil))) (mgName 3)) (msIf (tmNot (mTru (mCall omAll (maCons (mLc (miRange (mC (.int 8))) (mgName 4) mtYes (mCall (S 21) (maCons (mVar 3) maNil)) [4]) maNil)))) (msRet (mC (.bl false))) msNext))) (msRet (mC (.bl true)))))
def PP [Tb] : Nat → (Nat → Sm) × Option (Nat → Sm)
  | 0 => (fun _ => noSp, none)
  | k + 1 => (fun j => match j with
    | 0 => spOf 11 3 (b0 (PP k).1 (PP k).2)
    | 1 => spOf 2 1 (b1 (PP k).1)
    | 2 => spOf 4 2 (b2 (PP k).1)
    | 3 => spOf 6 2 (b3 (PP k).1)
    | 4 => spOf 3 1 (b4 (PP k).1)
    | 5 => spOf 3 3 (b5 (PP k).1)
    | 6 => spOf 3 2 (b6 (PP k).1)
    | 7 => spOf 6 2 (b7 (PP k).1)
    | 8 => spOf 5 2 (b8 (PP k).1)
    | 9 => spOf 4 2 (b9 (PP k).1)
    | 10 => spOf 2 2 (b10 (PP k).1)
    | 11 => spOf 11 2 (b11 (PP k).1)
    | 12 => spOf 3 2 (b12 (PP k).1)
    | 13 => spOf 6 4 (b13 (PP k).1)
    | 14 => spOf 7 4 (b14 (PP k).1)
    | 15 => spOf 7 3 (b15 (PP k).1)
    | 16 => spOf 6 2 (b16 (PP k).1)
    | 17 => spOf 3 1 (b17 (PP k).1)
    | 18 => spOf 4 3 (b18 (PP k).1)
    | 19 => spOf 7 2 (b19 (PP k).1)
    | 20 => spOf 4 2 (b20 (PP k).1)
    | 21 => spOf 12 1 (b21 (PP k).1)
    | 22 => spOf 5 1 (b22 (PP k).1)
    | _ => noSp, some (PP k).1)
def SP [Tb] (k : Nat) : Nat → Sm := (PP k).1
structure Txt [Tb] (w : World) (K : PySem.W.Frag) (mg : Str → Option Value) (fa : Nat → Addr) (fdd : Nat → FuncData) : Prop where
  F0 : Fun K "folded" "folded" s0 (fa 0) (fdd 0)
  B0 : Binds K (fdd 0) ["tree", "parts_of", "make"] []
  M0 : mg "folded" = some (.ref (fa 0))
  F1 : Fun K "kind_parts" "kind_parts" s1 (fa 1) (fdd 1)
  B1 : Binds K (fdd 1) ["kind"] []
  M1 : mg "kind_parts" = some (.ref (fa 1))
  F2 : Fun K "with_kinds" "with_kinds" s2 (fa 2) (fdd 2)
  B2 : Binds K (fdd 2) ["kind", "parts"] []
  M2 : mg "with_kinds" = some (.ref (fa 2))
  F3 : Fun K "opened" "opened" s3 (fa 3) (fdd 3)
  B3 : Binds K (fdd 3) ["kind", "opens"] []
  M3 : mg "opened" = some (.ref (fa 3))
  F4 : Fun K "has_own" "has_own" s4 (fa 4) (fdd 4)
  B4 : Binds K (fdd 4) ["kind"] []
  M4 : mg "has_own" = some (.ref (fa 4))
  F5 : Fun K "unsealed" "unsealed" s5 (fa 5) (fdd 5)
  B5 : Binds K (fdd 5) ["kind", "parts", "seals"] []
  M5 : mg "unsealed" = some (.ref (fa 5))
  F6 : Fun K "_law_box" "_law_box" s6 (fa 6) (fdd 6)
  B6 : Binds K (fdd 6) ["script", "k"] []
  M6 : mg "_law_box" = some (.ref (fa 6))
  F7 : Fun K "_law_take" "_law_take" s7 (fa 7) (fdd 7)
  B7 : Binds K (fdd 7) ["box", "wide"] []
  M7 : mg "_law_take" = some (.ref (fa 7))
  F8 : Fun K "_law_folded" "_law_folded" s8 (fa 8) (fdd 8)
  B8 : Binds K (fdd 8) ["script", "wide"] []
  M8 : mg "_law_folded" = some (.ref (fa 8))
  F9 : Fun K "_law_same" "_law_same" s9 (fa 9) (fdd 9)
  B9 : Binds K (fdd 9) ["found", "due"] []
  M9 : mg "_law_same" = some (.ref (fa 9))
  F10 : Fun K "_law_of" "_law_of" s10 (fa 10) (fdd 10)
  B10 : Binds K (fdd 10) ["box", "some"] []
  M10 : mg "_law_of" = some (.ref (fa 10))
  F11 : Fun K "_law_names" "_law_names" s11 (fa 11) (fdd 11)
  B11 : Binds K (fdd 11) ["box", "many"] []
  M11 : mg "_law_names" = some (.ref (fa 11))
  F12 : Fun K "_law_world" "_law_world" s12 (fa 12) (fdd 12)
  B12 : Binds K (fdd 12) ["box", "many"] []
  M12 : mg "_law_world" = some (.ref (fa 12))
  F13 : Fun K "_law_pairs" "_law_pairs" s13 (fa 13) (fdd 13)
  B13 : Binds K (fdd 13) ["box", "w", "deep", "least"] []
  M13 : mg "_law_pairs" = some (.ref (fa 13))
  F14 : Fun K "_law_rest" "_law_rest" s14 (fa 14) (fdd 14)
  B14 : Binds K (fdd 14) ["box", "w", "word", "pairs"] []
  M14 : mg "_law_rest" = some (.ref (fa 14))
  F15 : Fun K "_law_kind" "_law_kind" s15 (fa 15) (fdd 15)
  B15 : Binds K (fdd 15) ["box", "w", "deep"] []
  M15 : mg "_law_kind" = some (.ref (fa 15))
  F16 : Fun K "_law_open_world" "_law_open_world" s16 (fa 16) (fdd 16)
  B16 : Binds K (fdd 16) ["box", "many"] []
  M16 : mg "_law_open_world" = some (.ref (fa 16))
  F17 : Fun K "_law_size" "_law_size" s17 (fa 17) (fdd 17)
  B17 : Binds K (fdd 17) ["kind"] []
  M17 : mg "_law_size" = some (.ref (fa 17))
  F18 : Fun K "_law_small" "_law_small" s18 (fa 18) (fdd 18)
  B18 : Binds K (fdd 18) ["box", "w", "high"] []
  M18 : mg "_law_small" = some (.ref (fa 18))
  F19 : Fun K "_law_opened" "_law_opened" s19 (fa 19) (fdd 19)
  B19 : Binds K (fdd 19) ["kind", "opens"] []
  M19 : mg "_law_opened" = some (.ref (fa 19))
  F20 : Fun K "_law_bare" "_law_bare" s20 (fa 20) (fdd 20)
  B20 : Binds K (fdd 20) ["box", "w"] []
  M20 : mg "_law_bare" = some (.ref (fa 20))
  F21 : Fun K "_law_right" "_law_right" s21 (fa 21) (fdd 21)
  B21 : Binds K (fdd 21) ["box"] []
  M21 : mg "_law_right" = some (.ref (fa 21))
  F22 : Fun K "law" "law" s22 (fa 22) (fdd 22)
  B22 : Binds K (fdd 22) ["script"] []
  M22 : mg "law" = some (.ref (fa 22))
  A1 : fa 1 = Tb.gf "kind_parts"
  zabs : mg "abs" = none
  zall : mg "all" = none
  zbool : mg "bool" = none
  zdict : mg "dict" = none
  zdivmod : mg "divmod" = none
  zenumerate : mg "enumerate" = none
  zint : mg "int" = none
  zisinstance : mg "isinstance" = none
  zlen : mg "len" = none
  zlist : mg "list" = none
  zmax : mg "max" = none
  zrange : mg "range" = none
  zrepr : mg "repr" = none
  zsorted : mg "sorted" = none
  zstr : mg "str" = none
  zsum : mg "sum" = none
  ztuple : mg "tuple" = none
  zzip : mg "zip" = none
structure AllOk [Tb] (P : Program) (w : World) (K : PySem.W.Frag) (mg : Str → Option Value) (base : Heap) (fa : Nat → Addr) (fdd : Nat → FuncData) (k : Nat) : Prop where
  f0 : FnOk P w K mg base CX0 k (fa 0) (fdd 0) ["tree", "parts_of", "make"] (liM K (SP k 0))
  f1 : FnOk P w K mg base CX0 k (fa 1) (fdd 1) ["kind"] (liM K (SP k 1))
  f2 : FnOk P w K mg base CX0 k (fa 2) (fdd 2) ["kind", "parts"] (liM K (SP k 2))
  f3 : FnOk P w K mg base CX0 k (fa 3) (fdd 3) ["kind", "opens"] (liM K (SP k 3))
  f4 : FnOk P w K mg base CX0 k (fa 4) (fdd 4) ["kind"] (liM K (SP k 4))
  f5 : FnOk P w K mg base CX0 k (fa 5) (fdd 5) ["kind", "parts", "seals"] (liM K (SP k 5))
  f6 : FnOk P w K mg base CX0 k (fa 6) (fdd 6) ["script", "k"] (liM K (SP k 6))
  f7 : FnOk P w K mg base CX0 k (fa 7) (fdd 7) ["box", "wide"] (liM K (SP k 7))
  f8 : FnOk P w K mg base CX0 k (fa 8) (fdd 8) ["script", "wide"] (liM K (SP k 8))
  f9 : FnOk P w K mg base CX0 k (fa 9) (fdd 9) ["found", "due"] (liM K (SP k 9))
  f10 : FnOk P w K mg base CX0 k (fa 10) (fdd 10) ["box", "some"] (liM K (SP k 10))
  f11 : FnOk P w K mg base CX0 k (fa 11) (fdd 11) ["box", "many"] (liM K (SP k 11))
  f12 : FnOk P w K mg base CX0 k (fa 12) (fdd 12) ["box", "many"] (liM K (SP k 12))
  f13 : FnOk P w K mg base CX0 k (fa 13) (fdd 13) ["box", "w", "deep", "least"] (liM K (SP k 13))
  f14 : FnOk P w K mg base CX0 k (fa 14) (fdd 14) ["box", "w", "word", "pairs"] (liM K (SP k 14))
  f15 : FnOk P w K mg base CX0 k (fa 15) (fdd 15) ["box", "w", "deep"] (liM K (SP k 15))
  f16 : FnOk P w K mg base CX0 k (fa 16) (fdd 16) ["box", "many"] (liM K (SP k 16))
  f17 : FnOk P w K mg base CX0 k (fa 17) (fdd 17) ["kind"] (liM K (SP k 17))
  f18 : FnOk P w K mg base CX0 k (fa 18) (fdd 18) ["box", "w", "high"] (liM K (SP k 18))
  f19 : FnOk P w K mg base CX0 k (fa 19) (fdd 19) ["kind", "opens"] (liM K (SP k 19))
  f20 : FnOk P w K mg base CX0 k (fa 20) (fdd 20) ["box", "w"] (liM K (SP k 20))
  f21 : FnG P w K mg base k (fa 21) (fdd 21) ["box"] (liM K (SP k 21))
  f22 : FnG P w K mg base k (fa 22) (fdd 22) ["script"] (liM K (SP k 22))
section
variable {P : Program} {w : World} {K : PySem.W.Frag} {mg : Str → Option Value} {base : Heap} {fa : Nat → Addr} {fdd : Nat → FuncData} {k : Nat}
def APrev [Tb] (P : Program) (w : World) (K : PySem.W.Frag) (mg : Str → Option Value) (base : Heap) (fa : Nat → Addr) (fdd : Nat → FuncData) (k : Nat) : Prop := ∀ S, (PP k).2 = some S → ∃ k2, k = k2 + 1 ∧ S = SP k2 ∧ AllOk P w K mg base fa fdd k2
theorem lamfree3 : ∀ y ∈ lam3.scope.names, y.2 = .free → (defScope s3).names.lookup y.1 = some .cell := by decide +kernel
theorem lamok3 [Tb] (Z : Txt w K mg fa fdd) (AA : AllOk P w K mg base fa fdd k) : LamOk P w K mg base k lam3 (mlam3 (SP k)) :=
  ⟨NdefX.nscope_by (by decide +kernel), fun cl pm cv ctv us hl => match us, hl with | [_, _], _ => rfl, fun f c c2 A outer s H E hr => (o_call AA.f5 hr rfl Z.M5 Z.F5.kp Z.B5 pass0 (a_cons (o_var 0 (pe_var rfl (.inl rfl))) (a_cons (o_var 1 (pe_var rfl (.inl rfl))) (a_cons (o_var 2 (pe_var rfl (by first | exact .inr (.inl rfl) | exact .inr (.inr rfl)))) a_nil))))⟩
theorem sc0 : FnScope ["tree", "parts_of", "make", "found", "todo", "part", "parts", "made", "many", "start", "inner"] ["tree", "parts_of", "make"] (defScope s0) := ⟨rfl, rfl, rfl, by decide +kernel, rfl, by decide +kernel, by decide +kernel⟩
theorem ok0 [Tb] (Z : Txt w K mg fa fdd) (AA : AllOk P w K mg base fa fdd k) (AP : APrev P w K mg base fa fdd k) : FnOk P w K mg base CX0 (k + 1) (fa 0) (fdd 0) ["tree", "parts_of", "make"] (liM K (SP (k + 1) 0)) :=
  fn_ok (b := b0 (SP k) (PP k).2) Z.F0 sc0 (fun cdv Ar outer s H E hr => have nd := sc0.nd
   (ss_cons (s_set (i := 3) nd rfl (Or.inl rfl) (o_lst a_nil))
    (ss_cons (s_set (i := 4) nd rfl (Or.inl rfl) (o_lst (a_cons (o_var 0 (pe_var rfl (.inl rfl))) a_nil)))
    (ss_cons (s_while PassesOwn.never (t_tru (o_var 4 (pe_var rfl (.inl rfl)))) (ss_cons (s_set (i := 5) nd rfl (Or.inl rfl) (o_bm0 PySem.F.plainAttrs_list PySem.F.slot_list_pop PySem.F.type_list_pop mt_oPop (o_var 4 (pe_var rfl (.inl rfl)))))
    (ss_cons (s_set (i := 6) nd rfl (Or.inl rfl) (o_callV (ds_cons ⟨⟨_, _, _, Z.A1, AA.f1, Z.F1.kp, Z.B1⟩⟩ ds_nil) ls_nil hr (pe_var (i := 1) rfl (.inl rfl)) (a_cons (o_var 5 (pe_var rfl (.inl rfl))) a_nil)))
    (ss_cons (s_expr (o_bm PySem.F.plainAttrs_list PySem.F.slot_list_append PySem.F.type_list_append mt_oAppend (o_var 3 (pe_var rfl (.inl rfl))) (a_cons (o_tup (a_cons (o_var 5 (pe_var rfl (.inl rfl))) (a_cons (o_callB c_len rfl Z.zlen PySem.boot_len (a_cons (o_var 6 (pe_var rfl (.inl rfl))) a_nil)) a_nil))) a_nil)))
    (ss_one (s_expr (o_bm PySem.F.plainAttrs_list PySem.F.slot_list_extend PySem.F.type_list_extend mt_oExtendS (o_var 4 (pe_var rfl (.inl rfl))) (a_cons (o_var 6 (pe_var rfl (.inl rfl))) a_nil))))))))
    (ss_cons (s_set (i := 7) nd rfl (Or.inl rfl) (o_lst a_nil))
    (ss_cons (s_for PassesOwn.never rfl (i_seq (o_rev (o_var 3 (pe_var rfl (.inl rfl))))) (g_tup rfl (gs_cons (g_name 5 (pg_name nd rfl (.inl rfl))) (gs_cons (g_name 8 (pg_name nd rfl (.inl rfl))) gs_nil))) (ss_cons (s_set (i := 9) nd rfl (Or.inl rfl) (o_op op_oSub (o_callB c_len rfl Z.zlen PySem.boot_len (a_cons (o_var 7 (pe_var rfl (.inl rfl))) a_nil)) (o_var 8 (pe_var rfl (.inl rfl)))))
    (ss_cons (s_set (i := 10) nd rfl (Or.inl rfl) (o_sl (o_var 7 (pe_var rfl (.inl rfl))) (oo_some (o_var 9 (pe_var rfl (.inl rfl)))) oo_none))
    (ss_cons (s_delFrom (o_var 7 (pe_var rfl (.inl rfl))) (oo_some (o_var 9 (pe_var rfl (.inl rfl)))))
    (ss_one (s_expr (o_bm PySem.F.plainAttrs_list PySem.F.slot_list_append PySem.F.type_list_append mt_oAppend (o_var 7 (pe_var rfl (.inl rfl))) (a_cons (o_callV ds_nil (ls_lam fun S e => by obtain ⟨k2, e2, e3, AB⟩ := AP S e; subst e2; subst e3; exact ⟨k2, rfl, lamok3 Z AB⟩) hr (pe_var (i := 2) rfl (.inl rfl)) (a_cons (o_var 5 (pe_var rfl (.inl rfl))) (a_cons (o_var 10 (pe_var rfl (.inl rfl))) a_nil))) a_nil))))))))
    (ss_one (s_ret (o_ix ix_oIx (o_var 7 (pe_var rfl (.inl rfl))) (o_c pe_int) (fun _ _ => rfl))))))))))
theorem sc1 : FnScope ["kind", "pair"] ["kind"] (defScope s1) := ⟨rfl, rfl, rfl, by decide +kernel, rfl, by decide +kernel, by decide +kernel⟩
theorem ok1 [Tb] (Z : Txt w K mg fa fdd) (AA : AllOk P w K mg base fa fdd k) : FnOk P w K mg base CX0 (k + 1) (fa 1) (fdd 1) ["kind"] (liM K (SP (k + 1) 1)) :=
  fn_ok (b := b1 (SP k)) Z.F1 sc1 (fun cdv Ar outer s H E hr => have nd := sc1.nd
   (ss_cons (s_if (t_cmp (op_oEq hr.units) (o_ix ix_oIx (o_var 0 (pe_var rfl (.inl rfl))) (o_c pe_int) (fun _ _ => rfl)) (o_c pe_str)) (ss_one (s_ret (o_lst (a_cons (o_ix ix_oIx (o_var 0 (pe_var rfl (.inl rfl))) (o_c pe_int) (fun _ _ => rfl)) (a_cons (o_ix ix_oIx (o_var 0 (pe_var rfl (.inl rfl))) (o_c pe_int) (fun _ _ => rfl)) a_nil))))) ss_nil)
    (ss_cons (s_if (t_cmp (op_oInA (hu65 hr)) (o_ix ix_oIx (o_var 0 (pe_var rfl (.inl rfl))) (o_c pe_int) (fun _ _ => rfl)) (o_tup (a_cons (o_c pe_str) (a_cons (o_c pe_str) a_nil)))) (ss_one (s_ret (o_lc (own := [("pair", 1)]) (gt := (gName 1)) rfl nd (i_seq (o_ix ix_oIx (o_var 0 (pe_var rfl (.inl rfl))) (o_c pe_int) (fun _ _ => rfl))) (blkOk_by (N := ["kind", "pair"]) (sc := defScope s1) (by decide +kernel)) (fun _ _ _ _ _ => (gv_name 1 (pg_name nd rfl (.inl rfl)) (by decide))) (fun _ _ _ _ _ => ots_nil) (fun _ _ _ _ _ => (o_ix ix_oIx (o_var 1 (pe_var rfl (.inl rfl))) (o_c pe_int) (fun _ _ => rfl)))))) ss_nil)
    (ss_one (s_ret (o_lst a_nil))))))
theorem sc2 : FnScope ["kind", "parts", "labels", "pair"] ["kind", "parts"] (defScope s2) := ⟨rfl, rfl, rfl, by decide +kernel, rfl, by decide +kernel, by decide +kernel⟩
theorem ok2 [Tb] (Z : Txt w K mg fa fdd) (AA : AllOk P w K mg base fa fdd k) : FnOk P w K mg base CX0 (k + 1) (fa 2) (fdd 2) ["kind", "parts"] (liM K (SP (k + 1) 2)) :=
  fn_ok (b := b2 (SP k)) Z.F2 sc2 (fun cdv Ar outer s H E hr => have nd := sc2.nd
   (ss_cons (s_if (t_cmp (op_oEq hr.units) (o_ix ix_oIx (o_var 0 (pe_var rfl (.inl rfl))) (o_c pe_int) (fun _ _ => rfl)) (o_c pe_str)) (ss_one (s_ret (o_tup (a_cons (o_c pe_str) (a_cons (o_ix ix_oIx (o_var 1 (pe_var rfl (.inl rfl))) (o_c pe_int) (fun _ _ => rfl)) (a_cons (o_ix ix_oIx (o_var 1 (pe_var rfl (.inl rfl))) (o_c pe_int) (fun _ _ => rfl)) a_nil)))))) ss_nil)
    (ss_cons (s_if (t_cmp (op_oInA (hu65 hr)) (o_ix ix_oIx (o_var 0 (pe_var rfl (.inl rfl))) (o_c pe_int) (fun _ _ => rfl)) (o_tup (a_cons (o_c pe_str) (a_cons (o_c pe_str) a_nil)))) (ss_cons (s_setLc (i := 2) (own := [("pair", 3)]) (gt := (gName 3)) rfl nd rfl rfl (sw_true rfl rfl rfl (by decide +kernel)) (i_seq (o_ix ix_oIx (o_var 0 (pe_var rfl (.inl rfl))) (o_c pe_int) (fun _ _ => rfl))) (blkOk_by (N := ["kind", "parts", "labels", "pair"]) (sc := defScope s2) (by decide +kernel)) (fun _ _ _ _ _ => (gv_name 3 (pg_name nd rfl (.inl rfl)) (by decide))) (fun _ _ _ _ _ => ots_nil) (fun _ _ _ _ _ => (o_ix ix_oIx (o_var 3 (pe_var rfl (.inl rfl))) (o_c pe_int) (fun _ _ => rfl))))
    (ss_one (s_ret (o_tup (a_cons (o_ix ix_oIx (o_var 0 (pe_var rfl (.inl rfl))) (o_c pe_int) (fun _ _ => rfl)) (a_cons (o_tupZip rfl rfl Z.ztuple rfl Z.zzip (o_var 2 (pe_var rfl (.inl rfl))) (o_var 1 (pe_var rfl (.inl rfl)))) (a_cons (o_ix ix_oIx (o_var 0 (pe_var rfl (.inl rfl))) (o_c pe_int) (fun _ _ => rfl)) a_nil))))))) ss_nil)
    (ss_one (s_ret (o_var 0 (pe_var rfl (.inl rfl))))))))
theorem sc3 : FnScope ["kind", "opens", "seals", "module", "name", "inside"] ["kind", "opens"] (defScope s3) := ⟨rfl, rfl, rfl, by decide +kernel, rfl, by decide +kernel, by decide +kernel⟩
theorem ok3 [Tb] (TT : TabF base mg (fdd 3) (Tb.at_ 3)) (Z : Txt w K mg fa fdd) (AA : AllOk P w K mg base fa fdd k) : FnOk P w K mg base CX0 (k + 1) (fa 3) (fdd 3) ["kind", "opens"] (liM K (SP (k + 1) 3)) :=
  fn_okT (b := b3 (SP k)) Z.F3 sc3 TT (fun c Ar outer s H E TB hr => have nd := sc3.nd
   (ss_cons (s_if (OW.t (w_or (t_not (t_tru (o_var 1 (pe_var rfl (.inl rfl))))) (w_or1 (t_not (t_tru (o_call AA.f4 hr rfl Z.M4 Z.F4.kp Z.B4 pass0 (a_cons (o_var 0 (pe_var rfl (.inl rfl))) a_nil))))))) (ss_one (s_ret (o_var 0 (pe_var rfl (.inl rfl))))) ss_nil)
    (ss_cons (s_set (i := 2) nd rfl (Or.inr rfl) (o_dcT (own := [("module", 3), ("name", 4), ("inside", 5)]) (gt := (gTup _ 3 (gCons (gName 3) (gCons (gName 4) (gCons (gName 5) gNil))))) (hu_of hr) rfl nd (i_seq (o_var 1 (pe_var rfl (.inl rfl)))) (blkOk_by (N := ["kind", "opens", "seals", "module", "name", "inside"]) (sc := defScope s3) (by decide +kernel)) (fun _ _ _ _ _ => (gv_tup rfl (gvs_cons (gv_name 3 (pg_name nd rfl (.inl rfl)) (by decide)) (gvs_cons (gv_name 4 (pg_name nd rfl (.inl rfl)) (by decide)) (gvs_cons (gv_name 5 (pg_name nd rfl (.inl rfl)) (by decide)) gvs_nil))))) (fun _ _ _ _ _ => (o_tupK (a_cons (o_var 3 (pe_var rfl (.inl rfl))) (a_cons (o_var 4 (pe_var rfl (.inl rfl))) a_nil)))) (fun _ _ _ _ _ => (o_var 5 (pe_var rfl (.inl rfl))))))
    (ss_one (s_ret (o_callLam2 (L := lam3) (i := 2) AA.f0 hr rfl Z.M0 Z.F0.kp Z.B0 rfl rfl rfl TB rfl rfl rfl (fun y hy e => lamfree3 y hy e) rfl (o_var 0 (pe_var rfl (.inl rfl))) (o_gf rfl Z.M1 Z.A1)))))))
theorem sc4 : FnScope ["kind", "todo", "part"] ["kind"] (defScope s4) := ⟨rfl, rfl, rfl, by decide +kernel, rfl, by decide +kernel, by decide +kernel⟩
theorem ok4 [Tb] (Z : Txt w K mg fa fdd) (AA : AllOk P w K mg base fa fdd k) : FnOk P w K mg base CX0 (k + 1) (fa 4) (fdd 4) ["kind"] (liM K (SP (k + 1) 4)) :=
  fn_ok (b := b4 (SP k)) Z.F4 sc4 (fun cdv Ar outer s H E hr => have nd := sc4.nd
   (ss_cons (s_set (i := 1) nd rfl (Or.inl rfl) (o_lst (a_cons (o_var 0 (pe_var rfl (.inl rfl))) a_nil)))
    (ss_cons (s_while PassesOwn.never (t_tru (o_var 1 (pe_var rfl (.inl rfl)))) (ss_cons (s_set (i := 2) nd rfl (Or.inl rfl) (o_bm0 PySem.F.plainAttrs_list PySem.F.slot_list_pop PySem.F.type_list_pop mt_oPop (o_var 1 (pe_var rfl (.inl rfl)))))
    (ss_cons (s_if (t_cmp (op_oEq hr.units) (o_ix ix_oIx (o_var 2 (pe_var rfl (.inl rfl))) (o_c pe_int) (fun _ _ => rfl)) (o_c pe_str)) (ss_one (s_ret (o_c pe_bl))) ss_nil)
    (ss_one (s_expr (o_bm PySem.F.plainAttrs_list PySem.F.slot_list_extend PySem.F.type_list_extend mt_oExtendS (o_var 1 (pe_var rfl (.inl rfl))) (a_cons (o_call AA.f1 hr rfl Z.M1 Z.F1.kp Z.B1 pass0 (a_cons (o_var 2 (pe_var rfl (.inl rfl))) a_nil)) a_nil)))))))
    (ss_one (s_ret (o_c pe_bl))))))
theorem sc5 : FnScope ["kind", "parts", "seals"] ["kind", "parts", "seals"] (defScope s5) := ⟨rfl, rfl, rfl, by decide +kernel, rfl, by decide +kernel, by decide +kernel⟩
theorem ok5 [Tb] (Z : Txt w K mg fa fdd) (AA : AllOk P w K mg base fa fdd k) : FnOk P w K mg base CX0 (k + 1) (fa 5) (fdd 5) ["kind", "parts", "seals"] (liM K (SP (k + 1) 5)) :=
  fn_ok (b := b5 (SP k)) Z.F5 sc5 (fun cdv Ar outer s H E hr => have nd := sc5.nd
   (ss_cons (s_if (t_cmp (op_oEq hr.units) (o_ix ix_oIx (o_var 0 (pe_var rfl (.inl rfl))) (o_c pe_int) (fun _ _ => rfl)) (o_c pe_str)) (ss_one (s_ret (o_get2 (hu_of hr) (o_var 2 (pe_var rfl (.inl rfl))) (o_tupK (a_cons (o_ix ix_oIx (o_var 0 (pe_var rfl (.inl rfl))) (o_c pe_int) (fun _ _ => rfl)) (a_cons (o_ix ix_oIx (o_var 0 (pe_var rfl (.inl rfl))) (o_c pe_int) (fun _ _ => rfl)) a_nil))) (o_var 0 (pe_var rfl (.inl rfl))) ⟨rfl, rfl, rfl, rfl⟩))) ss_nil)
    (ss_one (s_ret (o_call AA.f2 hr rfl Z.M2 Z.F2.kp Z.B2 pass0 (a_cons (o_var 0 (pe_var rfl (.inl rfl))) (a_cons (o_var 1 (pe_var rfl (.inl rfl))) a_nil)))))))
theorem sc6 : FnScope ["script", "k", "cell"] ["script", "k"] (defScope s6) := ⟨rfl, rfl, rfl, by decide +kernel, rfl, by decide +kernel, by decide +kernel⟩
theorem ok6 [Tb] (Z : Txt w K mg fa fdd) (AA : AllOk P w K mg base fa fdd k) : FnOk P w K mg base CX0 (k + 1) (fa 6) (fdd 6) ["script", "k"] (liM K (SP (k + 1) 6)) :=
  fn_ok (b := b6 (SP k)) Z.F6 sc6 (fun cdv Ar outer s H E hr => have nd := sc6.nd
   (ss_cons (s_set (i := 2) nd rfl (Or.inl rfl) (o_if (t_cmp op_oLtU (o_var 1 (pe_var rfl (.inl rfl))) (o_callB c_len rfl Z.zlen PySem.boot_len (a_cons (o_var 0 (pe_var rfl (.inl rfl))) a_nil))) (o_ix ix_oIx (o_var 0 (pe_var rfl (.inl rfl))) (o_var 1 (pe_var rfl (.inl rfl))) (fun _ _ => rfl)) (o_c pe_int)))
    (ss_one (s_ret (o_lst (a_cons (o_op op_oMulU (o_callB c_abs rfl Z.zabs (by decide +kernel) (a_cons (o_var 2 (pe_var rfl (.inl rfl))) a_nil)) (o_callTy c_int rfl Z.zint (by decide +kernel) (a_cons (o_cmp op_oGeU (o_callB c_abs rfl Z.zabs (by decide +kernel) (a_cons (o_var 2 (pe_var rfl (.inl rfl))) a_nil)) (o_op op_oPow (o_c pe_int) (o_c pe_int))) a_nil))) (a_cons (o_op op_oMod (o_op op_oMulU (o_op op_oAdd (o_op op_oAdd (o_op op_oMod (o_var 2 (pe_var rfl (.inl rfl))) (o_c pe_int)) (o_op op_oMulU (o_c pe_int) (o_var 1 (pe_var rfl (.inl rfl))))) (o_c pe_int)) (o_c pe_int)) (o_c pe_int)) (a_cons (o_c pe_int) a_nil))))))))
theorem sc7 : FnScope ["box", "wide", "found", "step", "once", "twice"] ["box", "wide"] (defScope s7) := ⟨rfl, rfl, rfl, by decide +kernel, rfl, by decide +kernel, by decide +kernel⟩
theorem ok7 [Tb] (Z : Txt w K mg fa fdd) (AA : AllOk P w K mg base fa fdd k) : FnOk P w K mg base CX0 (k + 1) (fa 7) (fdd 7) ["box", "wide"] (liM K (SP (k + 1) 7)) :=
  fn_ok (b := b7 (SP k)) Z.F7 sc7 (fun cdv Ar outer s H E hr => have nd := sc7.nd
   (ss_cons (s_if (t_cmp op_oGtU (o_ix ix_oIx (o_var 0 (pe_var rfl (.inl rfl))) (o_c pe_int) (fun _ _ => rfl)) (o_c pe_int)) (ss_cons (s_asg (o_callB c_divmod rfl Z.zdivmod (by decide +kernel) (a_cons (o_ix ix_oIx (o_var 0 (pe_var rfl (.inl rfl))) (o_c pe_int) (fun _ _ => rfl)) (a_cons (o_var 1 (pe_var rfl (.inl rfl))) a_nil))) (g_tup rfl (gs_cons (g_sub (o_var 0 (pe_var rfl (.inl rfl))) (o_c pe_int) set_osLst) (gs_cons (g_name 2 (pg_name nd rfl (.inl rfl))) gs_nil))))
    (ss_one (s_ret (o_var 2 (pe_var rfl (.inl rfl)))))) ss_nil)
    (ss_cons (s_if (t_cmp op_oGtU (o_var 1 (pe_var rfl (.inl rfl))) (o_op op_oPow (o_c pe_int) (o_c pe_int))) (ss_one (s_ret (o_op op_oMod (o_op op_oAdd (o_call AA.f7 hr rfl Z.M7 Z.F7.kp Z.B7 pass0 (a_cons (o_var 0 (pe_var rfl (.inl rfl))) (a_cons (o_op op_oPow (o_c pe_int) (o_c pe_int)) a_nil))) (o_op op_oMulU (o_op op_oPow (o_c pe_int) (o_c pe_int)) (o_call AA.f7 hr rfl Z.M7 Z.F7.kp Z.B7 pass0 (a_cons (o_var 0 (pe_var rfl (.inl rfl))) (a_cons (o_op op_oAdd (o_op op_oFdiv (o_op op_oSub (o_var 1 (pe_var rfl (.inl rfl))) (o_c pe_int)) (o_op op_oPow (o_c pe_int) (o_c pe_int))) (o_c pe_int)) a_nil))))) (o_var 1 (pe_var rfl (.inl rfl)))))) ss_nil)
    (ss_cons (s_asg (o_op op_oAdd (o_ix ix_oIx (o_var 0 (pe_var rfl (.inl rfl))) (o_c pe_int) (fun _ _ => rfl)) (o_c pe_int)) (g_sub (o_var 0 (pe_var rfl (.inl rfl))) (o_c pe_int) set_osLst))
    (ss_cons (s_set (i := 3) nd rfl (Or.inl rfl) (o_op op_oAdd (o_c pe_int) (o_op op_oMulU (o_ix ix_oIx (o_var 0 (pe_var rfl (.inl rfl))) (o_c pe_int) (fun _ _ => rfl)) (o_ix ix_oIx (o_var 0 (pe_var rfl (.inl rfl))) (o_c pe_int) (fun _ _ => rfl)))))
    (ss_cons (s_set (i := 4) nd rfl (Or.inl rfl) (o_op op_oMod (o_op op_oMulU (o_op op_oAdd (o_ix ix_oIx (o_var 0 (pe_var rfl (.inl rfl))) (o_c pe_int) (fun _ _ => rfl)) (o_op op_oMulU (o_c pe_int) (o_ix ix_oIx (o_var 0 (pe_var rfl (.inl rfl))) (o_c pe_int) (fun _ _ => rfl)))) (o_var 3 (pe_var rfl (.inl rfl)))) (o_c pe_int)))
    (ss_cons (s_set (i := 5) nd rfl (Or.inl rfl) (o_op op_oMod (o_op op_oAdd (o_op op_oMulU (o_var 4 (pe_var rfl (.inl rfl))) (o_op op_oAdd (o_op op_oMod (o_var 4 (pe_var rfl (.inl rfl))) (o_c pe_int)) (o_c pe_int))) (o_ix ix_oIx (o_var 0 (pe_var rfl (.inl rfl))) (o_c pe_int) (fun _ _ => rfl))) (o_c pe_int)))
    (ss_one (s_ret (o_op op_oMod (o_op op_oFdiv (o_op op_oMod (o_op op_oMulU (o_var 5 (pe_var rfl (.inl rfl))) (o_op op_oAdd (o_op op_oMod (o_var 5 (pe_var rfl (.inl rfl))) (o_c pe_int)) (o_c pe_int))) (o_c pe_int)) (o_c pe_int)) (o_var 1 (pe_var rfl (.inl rfl)))))))))))))
theorem sc8 : FnScope ["script", "wide", "cells", "k", "cell"] ["script", "wide"] (defScope s8) := ⟨rfl, rfl, rfl, by decide +kernel, rfl, by decide +kernel, by decide +kernel⟩
theorem ok8 [Tb] (Z : Txt w K mg fa fdd) (AA : AllOk P w K mg base fa fdd k) : FnOk P w K mg base CX0 (k + 1) (fa 8) (fdd 8) ["script", "wide"] (liM K (SP (k + 1) 8)) :=
  fn_ok (b := b8 (SP k)) Z.F8 sc8 (fun cdv Ar outer s H E hr => have nd := sc8.nd
   (ss_cons (s_set (i := 2) nd rfl (Or.inl rfl) (o_callTy c_list rfl Z.zlist (by decide +kernel) (a_cons (o_sl (o_var 0 (pe_var rfl (.inl rfl))) oo_none (oo_some (o_var 1 (pe_var rfl (.inl rfl))))) a_nil)))
    (ss_cons (s_for PassesOwn.never rfl (i_enum rfl Z.zenumerate (o_sl (o_var 0 (pe_var rfl (.inl rfl))) (oo_some (o_var 1 (pe_var rfl (.inl rfl)))) (oo_some (o_c pe_int)))) (g_tup rfl (gs_cons (g_name 3 (pg_name nd rfl (.inl rfl))) (gs_cons (g_name 4 (pg_name nd rfl (.inl rfl))) gs_nil))) (ss_one (s_asg (o_op op_oAdd (o_ix ix_oIx (o_var 2 (pe_var rfl (.inl rfl))) (o_op op_oMod (o_var 3 (pe_var rfl (.inl rfl))) (o_var 1 (pe_var rfl (.inl rfl)))) (fun _ _ => rfl)) (o_op op_oMulU (o_var 4 (pe_var rfl (.inl rfl))) (o_op op_oAdd (o_var 3 (pe_var rfl (.inl rfl))) (o_c pe_int)))) (g_sub (o_var 2 (pe_var rfl (.inl rfl))) (o_op op_oMod (o_var 3 (pe_var rfl (.inl rfl))) (o_var 1 (pe_var rfl (.inl rfl)))) set_osLst))))
    (ss_one (s_ret (o_var 2 (pe_var rfl (.inl rfl))))))))
theorem sc9 : FnScope ["found", "due", "one", "other"] ["found", "due"] (defScope s9) := ⟨rfl, rfl, rfl, by decide +kernel, rfl, by decide +kernel, by decide +kernel⟩
theorem ok9 [Tb] (Z : Txt w K mg fa fdd) (AA : AllOk P w K mg base fa fdd k) : FnOk P w K mg base CX0 (k + 1) (fa 9) (fdd 9) ["found", "due"] (liM K (SP (k + 1) 9)) :=
  fn_ok (b := b9 (SP k)) Z.F9 sc9 (fun cdv Ar outer s H E hr => have nd := sc9.nd
   (ss_cons (s_if (t_tru (o_isi2 (o_var 1 (pe_var rfl (.inl rfl))) (pe_bltn (v := .ty "list") rfl Z.zlist (by decide +kernel) rfl) (pe_bltn (v := .ty "tuple") rfl Z.ztuple (by decide +kernel) rfl) rfl Z.zisinstance)) (ss_cons (s_if (OW.t (w_or (t_cmp (op_oNe hr.units) (o_callB c_isi rfl Z.zisinstance PyProof.Rows.boot_isinstance (a_cons (o_var 0 (pe_var rfl (.inl rfl))) (a_cons (o_c (pe_bltn (v := .ty "list") rfl Z.zlist (by decide +kernel) rfl)) a_nil))) (o_callB c_isi rfl Z.zisinstance PyProof.Rows.boot_isinstance (a_cons (o_var 1 (pe_var rfl (.inl rfl))) (a_cons (o_c (pe_bltn (v := .ty "list") rfl Z.zlist (by decide +kernel) rfl)) a_nil)))) (w_or1 (t_cmp (op_oNe hr.units) (o_callB c_isi rfl Z.zisinstance PyProof.Rows.boot_isinstance (a_cons (o_var 0 (pe_var rfl (.inl rfl))) (a_cons (o_c (pe_bltn (v := .ty "tuple") rfl Z.ztuple (by decide +kernel) rfl)) a_nil))) (o_callB c_isi rfl Z.zisinstance PyProof.Rows.boot_isinstance (a_cons (o_var 1 (pe_var rfl (.inl rfl))) (a_cons (o_c (pe_bltn (v := .ty "tuple") rfl Z.ztuple (by decide +kernel) rfl)) a_nil))))))) (ss_one (s_ret (o_c pe_bl))) ss_nil)
    (ss_one (s_ret (o_and (o_cmp (op_oEq hr.units) (o_callB c_len rfl Z.zlen PySem.boot_len (a_cons (o_var 0 (pe_var rfl (.inl rfl))) a_nil)) (o_callB c_len rfl Z.zlen PySem.boot_len (a_cons (o_var 1 (pe_var rfl (.inl rfl))) a_nil))) (o_one (o_callB (c_all rfl) rfl Z.zall (by decide +kernel) (a_cons (o_lc (own := [("one", 2), ("other", 3)]) (gt := (gTup _ 2 (gCons (gName 2) (gCons (gName 3) gNil)))) rfl nd (i_zip rfl Z.zzip (o_var 0 (pe_var rfl (.inl rfl))) (o_var 1 (pe_var rfl (.inl rfl)))) (blkOk_by (N := ["found", "due", "one", "other"]) (sc := defScope s9) (by decide +kernel)) (fun _ _ _ _ _ => (gv_tup rfl (gvs_cons (gv_name 2 (pg_name nd rfl (.inl rfl)) (by decide)) (gvs_cons (gv_name 3 (pg_name nd rfl (.inl rfl)) (by decide)) gvs_nil)))) (fun _ _ _ _ _ => ots_nil) (fun _ _ _ _ _ => (o_call AA.f9 hr rfl Z.M9 Z.F9.kp Z.B9 pass0 (a_cons (o_var 2 (pe_var rfl (.inl rfl))) (a_cons (o_var 3 (pe_var rfl (.inl rfl))) a_nil))))) a_nil))))))) ss_nil)
    (ss_cons (s_if (OW.t (w_or (t_cmp op_oIsN (o_var 1 (pe_var rfl (.inl rfl))) (o_c pe_non)) (w_or1 (t_tru (o_callB c_isi rfl Z.zisinstance PyProof.Rows.boot_isinstance (a_cons (o_var 1 (pe_var rfl (.inl rfl))) (a_cons (o_c (pe_bltn (v := .ty "str") rfl Z.zstr (by decide +kernel) rfl)) a_nil))))))) (ss_one (s_ret (o_and (o_cmp (op_oEq hr.units) (o_var 0 (pe_var rfl (.inl rfl))) (o_var 1 (pe_var rfl (.inl rfl)))) (o_one (o_cmp (op_oEq hr.units) (o_callB c_isi rfl Z.zisinstance PyProof.Rows.boot_isinstance (a_cons (o_var 0 (pe_var rfl (.inl rfl))) (a_cons (o_c (pe_bltn (v := .ty "str") rfl Z.zstr (by decide +kernel) rfl)) a_nil))) (o_callB c_isi rfl Z.zisinstance PyProof.Rows.boot_isinstance (a_cons (o_var 1 (pe_var rfl (.inl rfl))) (a_cons (o_c (pe_bltn (v := .ty "str") rfl Z.zstr (by decide +kernel) rfl)) a_nil)))))))) ss_nil)
    (ss_one (s_ret (o_and (o_callB c_isi rfl Z.zisinstance PyProof.Rows.boot_isinstance (a_cons (o_var 0 (pe_var rfl (.inl rfl))) (a_cons (o_c (pe_bltn (v := .ty "int") rfl Z.zint (by decide +kernel) rfl)) a_nil))) (o_and (o_cmp (op_oEq hr.units) (o_callB c_isi rfl Z.zisinstance PyProof.Rows.boot_isinstance (a_cons (o_var 0 (pe_var rfl (.inl rfl))) (a_cons (o_c (pe_bltn (v := .ty "bool") rfl Z.zbool (by decide +kernel) rfl)) a_nil))) (o_callB c_isi rfl Z.zisinstance PyProof.Rows.boot_isinstance (a_cons (o_var 1 (pe_var rfl (.inl rfl))) (a_cons (o_c (pe_bltn (v := .ty "bool") rfl Z.zbool (by decide +kernel) rfl)) a_nil)))) (o_one (o_cmp (op_oEq hr.units) (o_var 0 (pe_var rfl (.inl rfl))) (o_var 1 (pe_var rfl (.inl rfl))))))))))))
theorem sc10 : FnScope ["box", "some"] ["box", "some"] (defScope s10) := ⟨rfl, rfl, rfl, by decide +kernel, rfl, by decide +kernel, by decide +kernel⟩
theorem ok10 [Tb] (Z : Txt w K mg fa fdd) (AA : AllOk P w K mg base fa fdd k) : FnOk P w K mg base CX0 (k + 1) (fa 10) (fdd 10) ["box", "some"] (liM K (SP (k + 1) 10)) :=
  fn_ok (b := b10 (SP k)) Z.F10 sc10 (fun cdv Ar outer s H E hr => have nd := sc10.nd
   (ss_one (s_ret (o_ix ix_oIx (o_var 1 (pe_var rfl (.inl rfl))) (o_call AA.f7 hr rfl Z.M7 Z.F7.kp Z.B7 pass0 (a_cons (o_var 0 (pe_var rfl (.inl rfl))) (a_cons (o_callB c_len rfl Z.zlen PySem.boot_len (a_cons (o_var 1 (pe_var rfl (.inl rfl))) a_nil)) a_nil))) (fun _ _ => rfl)))))
theorem sc11 : FnScope ["box", "many", "letters", "first", "found", "stem", "step", "longer", "k", "sign", "turn"] ["box", "many"] (defScope s11) := ⟨rfl, rfl, rfl, by decide +kernel, rfl, by decide +kernel, by decide +kernel⟩
theorem ok11 [Tb] (Z : Txt w K mg fa fdd) (AA : AllOk P w K mg base fa fdd k) : FnOk P w K mg base CX0 (k + 1) (fa 11) (fdd 11) ["box", "many"] (liM K (SP (k + 1) 11)) :=
  fn_ok (b := b11 (SP k)) Z.F11 sc11 (fun cdv Ar outer s H E hr => have nd := sc11.nd
   (ss_cons (s_asg (o_tup (a_cons (o_c pe_str) (a_cons (o_call AA.f7 hr rfl Z.M7 Z.F7.kp Z.B7 pass0 (a_cons (o_var 0 (pe_var rfl (.inr (.inl rfl)))) (a_cons (o_c pe_int) a_nil))) (a_cons (o_lst a_nil) a_nil)))) (g_tup rfl (gs_cons (g_name 2 (pg_name nd rfl (.inr rfl))) (gs_cons (g_name 3 (pg_name nd rfl (.inl rfl))) (gs_cons (g_name 4 (pg_name nd rfl (.inl rfl))) gs_nil)))))
    (ss_cons (s_set (i := 5) nd rfl (Or.inl rfl) (o_bm PySem.F.plainAttrs_str PySem.F.slot_str_join PySem.F.type_str_join mt_oJoin (o_c pe_str) (a_cons (o_lc (own := [("turn", 10)]) (gt := (gName 10)) rfl nd (i_range rfl Z.zrange (o_call AA.f7 hr rfl Z.M7 Z.F7.kp Z.B7 pass0 (a_cons (o_var 0 (pe_var rfl (.inr (.inl rfl)))) (a_cons (o_c pe_int) a_nil)))) (blkOk_by (N := ["box", "many", "letters", "first", "found", "stem", "step", "longer", "k", "sign", "turn"]) (sc := defScope s11) (by decide +kernel)) (fun _ _ _ _ _ => (gv_name 10 (pg_name nd rfl (.inl rfl)) (by decide))) (fun _ _ _ _ _ => ots_nil) (fun _ _ _ _ _ => (o_ix ix_oIx (o_var 2 (pe_var rfl (by first | exact .inr (.inl rfl) | exact .inr (.inr rfl)))) (o_call AA.f7 hr rfl Z.M7 Z.F7.kp Z.B7 pass0 (a_cons (o_var 0 (pe_var rfl (by first | exact .inr (.inl rfl) | exact .inr (.inr rfl)))) (a_cons (o_c pe_int) a_nil))) (fun _ _ => rfl)))) a_nil)))
    (ss_cons (s_par (i := 6) (j := 7) rfl nd rfl rfl (by decide) rfl rfl (a_cons (o_ix ix_oIx (o_lst (a_cons (o_c pe_int) (a_cons (o_c pe_int) (a_cons (o_c pe_int) a_nil)))) (o_call AA.f7 hr rfl Z.M7 Z.F7.kp Z.B7 pass0 (a_cons (o_var 0 (pe_var rfl (.inr (.inl rfl)))) (a_cons (o_c pe_int) a_nil))) (fun _ _ => rfl)) (a_cons (o_call AA.f7 hr rfl Z.M7 Z.F7.kp Z.B7 pass0 (a_cons (o_var 0 (pe_var rfl (.inr (.inl rfl)))) (a_cons (o_c pe_int) a_nil))) a_nil)))
    (ss_cons (s_for PassesOwn.never rfl (i_range rfl Z.zrange (o_var 1 (pe_var rfl (.inl rfl)))) (g_name 8 (pg_name nd rfl (.inl rfl))) (ss_cons (s_set (i := 9) nd rfl (Or.inl rfl) (o_ix ix_oIx (o_var 2 (pe_var rfl (.inr (.inl rfl)))) (o_op op_oMod (o_op op_oAdd (o_var 3 (pe_var rfl (.inl rfl))) (o_op op_oMulU (o_var 6 (pe_var rfl (.inl rfl))) (o_if (t_cmp (op_oEq hr.units) (o_var 7 (pe_var rfl (.inl rfl))) (o_c pe_int)) (o_op op_oFdiv (o_var 8 (pe_var rfl (.inl rfl))) (o_c pe_int)) (o_var 8 (pe_var rfl (.inl rfl)))))) (o_c pe_int)) (fun _ _ => rfl)))
    (ss_one (s_expr (o_bm PySem.F.plainAttrs_list PySem.F.slot_list_append PySem.F.type_list_append mt_oAppend (o_var 4 (pe_var rfl (.inl rfl))) (a_cons (o_op op_oAdd (o_op op_oAdd (o_var 5 (pe_var rfl (.inl rfl))) (o_var 9 (pe_var rfl (.inl rfl)))) (o_op op_oMulU (o_c pe_str) (o_callTy c_int rfl Z.zint (by decide +kernel) (a_cons (o_and (o_cmp (op_oEq hr.units) (o_var 7 (pe_var rfl (.inl rfl))) (o_c pe_int)) (o_one (o_cmp (op_oEq hr.units) (o_op op_oMod (o_var 8 (pe_var rfl (.inl rfl))) (o_c pe_int)) (o_c pe_int)))) a_nil)))) a_nil))))))
    (ss_one (s_ret (o_var 4 (pe_var rfl (.inl rfl))))))))))
theorem sc12 : FnScope ["box", "many", "found"] ["box", "many"] (defScope s12) := ⟨rfl, rfl, rfl, by decide +kernel, rfl, by decide +kernel, by decide +kernel⟩
theorem ok12 [Tb] (Z : Txt w K mg fa fdd) (AA : AllOk P w K mg base fa fdd k) : FnOk P w K mg base CX0 (k + 1) (fa 12) (fdd 12) ["box", "many"] (liM K (SP (k + 1) 12)) :=
  fn_ok (b := b12 (SP k)) Z.F12 sc12 (fun cdv Ar outer s H E hr => have nd := sc12.nd
   (ss_cons (s_set (i := 2) nd rfl (Or.inl rfl) (o_disp (ops_cons pe_str (o_callB c_sortS rfl Z.zsorted (by decide +kernel) (a_cons (o_call AA.f11 hr rfl Z.M11 Z.F11.kp Z.B11 pass0 (a_cons (o_var 0 (pe_var rfl (.inl rfl))) (a_cons (o_var 1 (pe_var rfl (.inl rfl))) a_nil))) a_nil)) (ops_cons pe_str (o_lst a_nil) (ops_cons pe_str (o_lst (a_cons (o_c pe_int) (a_cons (o_c pe_int) (a_cons (o_c pe_int) a_nil)))) (ops_cons pe_str (o_dnew) (ops_cons pe_str (o_c pe_int) ops_nil)))))))
    (ss_one (s_ret (o_var 2 (pe_var rfl (.inl rfl)))))))
theorem sc13 : FnScope ["box", "w", "deep", "least", "some", "label"] ["box", "w", "deep", "least"] (defScope s13) := ⟨rfl, rfl, rfl, by decide +kernel, rfl, by decide +kernel, by decide +kernel⟩
theorem ok13 [Tb] (Z : Txt w K mg fa fdd) (AA : AllOk P w K mg base fa fdd k) : FnOk P w K mg base CX0 (k + 1) (fa 13) (fdd 13) ["box", "w", "deep", "least"] (liM K (SP (k + 1) 13)) :=
  fn_ok (b := b13 (SP k)) Z.F13 sc13 (fun cdv Ar outer s H E hr => have nd := sc13.nd
   (ss_cons (s_setLc (i := 4) (own := [("label", 5)]) (gt := (gName 5)) rfl nd rfl rfl (sw_true rfl rfl rfl (by decide +kernel)) (i_seq (o_dget (hu_of hr) (o_var 1 (pe_var rfl (.inr (.inl rfl)))) (o_c pe_str) (fun _ _ => rfl))) (blkOk_by (N := ["box", "w", "deep", "least", "some", "label"]) (sc := defScope s13) (by decide +kernel)) (fun _ _ _ _ _ => (gv_name 5 (pg_name nd rfl (.inl rfl)) (by decide))) (fun _ _ _ _ _ => (ots_one (t_cmp (op_oEq hr.units) (o_call AA.f7 hr rfl Z.M7 Z.F7.kp Z.B7 pass0 (a_cons (o_var 0 (pe_var rfl (by first | exact .inr (.inl rfl) | exact .inr (.inr rfl)))) (a_cons (o_c pe_int) a_nil))) (o_c pe_int)))) (fun _ _ _ _ _ => (o_var 5 (pe_var rfl (.inl rfl)))))
    (ss_cons (s_if (t_cmp op_oLtU (o_callB c_len rfl Z.zlen PySem.boot_len (a_cons (o_var 4 (pe_var rfl (.inl rfl))) a_nil)) (o_var 3 (pe_var rfl (.inl rfl)))) (ss_one (s_set (i := 4) nd rfl (Or.inl rfl) (o_lst (a_cons (o_ix ix_oIx (o_dget (hu_of hr) (o_var 1 (pe_var rfl (.inr (.inl rfl)))) (o_c pe_str) (fun _ _ => rfl)) (o_call AA.f7 hr rfl Z.M7 Z.F7.kp Z.B7 pass0 (a_cons (o_var 0 (pe_var rfl (.inr (.inl rfl)))) (a_cons (o_callB c_len rfl Z.zlen PySem.boot_len (a_cons (o_dget (hu_of hr) (o_var 1 (pe_var rfl (.inr (.inl rfl)))) (o_c pe_str) (fun _ _ => rfl)) a_nil)) a_nil))) (fun _ _ => rfl)) a_nil)))) ss_nil)
    (ss_one (s_ret (o_callTy c_tuple rfl Z.ztuple (by decide +kernel) (a_cons (o_lc (own := [("label", 5)]) (gt := (gName 5)) rfl nd (i_seq (o_var 4 (pe_var rfl (.inl rfl)))) (blkOk_by (N := ["box", "w", "deep", "least", "some", "label"]) (sc := defScope s13) (by decide +kernel)) (fun _ _ _ _ _ => (gv_name 5 (pg_name nd rfl (.inl rfl)) (by decide))) (fun _ _ _ _ _ => ots_nil) (fun _ _ _ _ _ => (o_tup (a_cons (o_var 5 (pe_var rfl (.inl rfl))) (a_cons (o_call AA.f15 hr rfl Z.M15 Z.F15.kp Z.B15 pass0 (a_cons (o_var 0 (pe_var rfl (by first | exact .inr (.inl rfl) | exact .inr (.inr rfl)))) (a_cons (o_var 1 (pe_var rfl (by first | exact .inr (.inl rfl) | exact .inr (.inr rfl)))) (a_cons (o_var 2 (pe_var rfl (by first | exact .inr (.inl rfl) | exact .inr (.inr rfl)))) a_nil)))) a_nil))))) a_nil)))))))
theorem sc14 : FnScope ["box", "w", "word", "pairs", "spot", "label", "one"] ["box", "w", "word", "pairs"] (defScope s14) := ⟨rfl, rfl, rfl, by decide +kernel, rfl, by decide +kernel, by decide +kernel⟩
theorem ok14 [Tb] (Z : Txt w K mg fa fdd) (AA : AllOk P w K mg base fa fdd k) : FnOk P w K mg base CX0 (k + 1) (fa 14) (fdd 14) ["box", "w", "word", "pairs"] (liM K (SP (k + 1) 14)) :=
  fn_ok (b := b14 (SP k)) Z.F14 sc14 (fun cdv Ar outer s H E hr => have nd := sc14.nd
   (ss_cons (s_if (t_cmp (op_oEq hr.units) (o_call AA.f7 hr rfl Z.M7 Z.F7.kp Z.B7 pass0 (a_cons (o_var 0 (pe_var rfl (.inl rfl))) (a_cons (o_c pe_int) a_nil))) (o_c pe_int)) (ss_one (s_ret (o_c pe_non))) ss_nil)
    (ss_cons (s_set (i := 4) nd rfl (Or.inl rfl) (o_op op_oAdd (o_op op_oAdd (o_var 2 (pe_var rfl (.inl rfl))) (o_c pe_str)) (o_bm PySem.F.plainAttrs_str PySem.F.slot_str_join PySem.F.type_str_join mt_oJoin (o_c pe_str) (a_cons (o_lc (own := [("label", 5), ("one", 6)]) (gt := (gTup _ 2 (gCons (gName 5) (gCons (gName 6) gNil)))) rfl nd (i_seq (o_var 3 (pe_var rfl (.inl rfl)))) (blkOk_by (N := ["box", "w", "word", "pairs", "spot", "label", "one"]) (sc := defScope s14) (by decide +kernel)) (fun _ _ _ _ _ => (gv_tup rfl (gvs_cons (gv_name 5 (pg_name nd rfl (.inl rfl)) (by decide)) (gvs_cons (gv_name 6 (pg_name nd rfl (.inl rfl)) (by decide)) gvs_nil)))) (fun _ _ _ _ _ => ots_nil) (fun _ _ _ _ _ => (o_var 5 (pe_var rfl (.inl rfl))))) a_nil))))
    (ss_cons (s_if (t_dnin (hu_of hr) (o_var 4 (pe_var rfl (.inl rfl))) (o_dget (hu_of hr) (o_var 1 (pe_var rfl (.inl rfl))) (o_c pe_str) (fun _ _ => rfl))) (ss_one (s_asg (o_tup (a_cons (o_dget (hu_of hr) (o_var 1 (pe_var rfl (.inl rfl))) (o_c pe_str) (fun _ _ => rfl)) (a_cons (o_op op_oAdd (o_dget (hu_of hr) (o_var 1 (pe_var rfl (.inl rfl))) (o_c pe_str) (fun _ _ => rfl)) (o_c pe_int)) a_nil))) (g_tup rfl (gs_cons (g_sub (o_dget (hu_of hr) (o_var 1 (pe_var rfl (.inl rfl))) (o_c pe_str) (fun _ _ => rfl)) (o_var 4 (pe_var rfl (.inl rfl))) (set_osDct (hu_of hr))) (gs_cons (g_sub (o_var 1 (pe_var rfl (.inl rfl))) (o_c pe_str) (set_osDct (hu_of hr))) gs_nil))))) ss_nil)
    (ss_one (s_ret (o_dget (hu_of hr) (o_dget (hu_of hr) (o_var 1 (pe_var rfl (.inl rfl))) (o_c pe_str) (fun _ _ => rfl)) (o_var 4 (pe_var rfl (.inl rfl))) (fun _ _ => rfl))))))))
theorem sc15 : FnScope ["box", "w", "deep", "way", "one", "word", "pairs"] ["box", "w", "deep"] (defScope s15) := ⟨rfl, rfl, rfl, by decide +kernel, rfl, by decide +kernel, by decide +kernel⟩
theorem ok15 [Tb] (Z : Txt w K mg fa fdd) (AA : AllOk P w K mg base fa fdd k) : FnOk P w K mg base CX0 (k + 1) (fa 15) (fdd 15) ["box", "w", "deep"] (liM K (SP (k + 1) 15)) :=
  fn_ok (b := b15 (SP k)) Z.F15 sc15 (fun cdv Ar outer s H E hr => have nd := sc15.nd
   (ss_cons (s_set (i := 3) nd rfl (Or.inl rfl) (o_if (t_cmp op_oGtU (o_var 2 (pe_var rfl (.inl rfl))) (o_c pe_int)) (o_call AA.f7 hr rfl Z.M7 Z.F7.kp Z.B7 pass0 (a_cons (o_var 0 (pe_var rfl (.inl rfl))) (a_cons (o_c pe_int) a_nil))) (o_call AA.f7 hr rfl Z.M7 Z.F7.kp Z.B7 pass0 (a_cons (o_var 0 (pe_var rfl (.inl rfl))) (a_cons (o_c pe_int) a_nil)))))
    (ss_cons (s_if (OW.t (w_or (t_cmp (op_oEq hr.units) (o_var 3 (pe_var rfl (.inl rfl))) (o_c pe_int)) (w_or (OW.t (w_and (t_cmp (op_oEq hr.units) (o_var 3 (pe_var rfl (.inl rfl))) (o_c pe_int)) (w_and1 (t_cmp (op_oEq hr.units) (o_dget (hu_of hr) (o_var 1 (pe_var rfl (.inl rfl))) (o_c pe_str) (fun _ _ => rfl)) (o_lst a_nil))))) (w_or1 (OW.t (w_and (t_cmp (op_oEq hr.units) (o_var 3 (pe_var rfl (.inl rfl))) (o_c pe_int)) (w_and1 (t_cmp (op_oEq hr.units) (o_dget (hu_of hr) (o_var 1 (pe_var rfl (.inl rfl))) (o_c pe_str) (fun _ _ => rfl)) (o_lst a_nil))))))))) (ss_one (s_ret (o_tup (a_cons (o_c pe_str) a_nil)))) ss_nil)
    (ss_cons (s_if (t_cmp (op_oEq hr.units) (o_var 3 (pe_var rfl (.inl rfl))) (o_c pe_int)) (ss_one (s_ret (o_tup (a_cons (o_c pe_str) (a_cons (o_call AA.f10 hr rfl Z.M10 Z.F10.kp Z.B10 pass0 (a_cons (o_var 0 (pe_var rfl (.inl rfl))) (a_cons (o_dget (hu_of hr) (o_var 1 (pe_var rfl (.inl rfl))) (o_c pe_str) (fun _ _ => rfl)) a_nil))) a_nil))))) ss_nil)
    (ss_cons (s_if (t_cmp (op_oEq hr.units) (o_var 3 (pe_var rfl (.inl rfl))) (o_c pe_int)) (ss_one (s_ret (o_op op_oAdd (o_tup (a_cons (o_c pe_str) a_nil)) (o_call AA.f10 hr rfl Z.M10 Z.F10.kp Z.B10 pass0 (a_cons (o_var 0 (pe_var rfl (.inl rfl))) (a_cons (o_dget (hu_of hr) (o_var 1 (pe_var rfl (.inl rfl))) (o_c pe_str) (fun _ _ => rfl)) a_nil)))))) ss_nil)
    (ss_cons (s_if (t_cmp op_oLtU (o_var 3 (pe_var rfl (.inl rfl))) (o_c pe_int)) (ss_cons (s_set (i := 4) nd rfl (Or.inl rfl) (o_call AA.f15 hr rfl Z.M15 Z.F15.kp Z.B15 pass0 (a_cons (o_var 0 (pe_var rfl (.inl rfl))) (a_cons (o_var 1 (pe_var rfl (.inl rfl))) (a_cons (o_op op_oSub (o_var 2 (pe_var rfl (.inl rfl))) (o_c pe_int)) a_nil)))))
    (ss_one (s_ret (o_tup (a_cons (o_c pe_str) (a_cons (o_var 4 (pe_var rfl (.inl rfl))) (a_cons (o_call AA.f15 hr rfl Z.M15 Z.F15.kp Z.B15 pass0 (a_cons (o_var 0 (pe_var rfl (.inl rfl))) (a_cons (o_var 1 (pe_var rfl (.inl rfl))) (a_cons (o_op op_oSub (o_var 2 (pe_var rfl (.inl rfl))) (o_c pe_int)) a_nil)))) a_nil))))))) ss_nil)
    (ss_cons (s_set (i := 5) nd rfl (Or.inl rfl) (o_ix ix_oIx (o_lst (a_cons (o_c pe_str) (a_cons (o_c pe_str) a_nil))) (o_op op_oMod (o_var 3 (pe_var rfl (.inl rfl))) (o_c pe_int)) (fun _ _ => rfl)))
    (ss_cons (s_set (i := 6) nd rfl (Or.inl rfl) (o_call AA.f13 hr rfl Z.M13 Z.F13.kp Z.B13 pass0 (a_cons (o_var 0 (pe_var rfl (.inl rfl))) (a_cons (o_var 1 (pe_var rfl (.inl rfl))) (a_cons (o_op op_oSub (o_var 2 (pe_var rfl (.inl rfl))) (o_c pe_int)) (a_cons (o_callTy c_int rfl Z.zint (by decide +kernel) (a_cons (o_cmp (op_oEq hr.units) (o_var 5 (pe_var rfl (.inl rfl))) (o_c pe_str)) a_nil)) a_nil))))))
    (ss_one (s_ret (o_tup (a_cons (o_var 5 (pe_var rfl (.inl rfl))) (a_cons (o_var 6 (pe_var rfl (.inl rfl))) (a_cons (o_call AA.f14 hr rfl Z.M14 Z.F14.kp Z.B14 pass0 (a_cons (o_var 0 (pe_var rfl (.inl rfl))) (a_cons (o_var 1 (pe_var rfl (.inl rfl))) (a_cons (o_var 5 (pe_var rfl (.inl rfl))) (a_cons (o_var 6 (pe_var rfl (.inl rfl))) a_nil))))) a_nil))))))))))))))
theorem sc16 : FnScope ["box", "many", "w", "names", "first", "turn"] ["box", "many"] (defScope s16) := ⟨rfl, rfl, rfl, by decide +kernel, rfl, by decide +kernel, by decide +kernel⟩
theorem ok16 [Tb] (Z : Txt w K mg fa fdd) (AA : AllOk P w K mg base fa fdd k) : FnOk P w K mg base CX0 (k + 1) (fa 16) (fdd 16) ["box", "many"] (liM K (SP (k + 1) 16)) :=
  fn_ok (b := b16 (SP k)) Z.F16 sc16 (fun cdv Ar outer s H E hr => have nd := sc16.nd
   (ss_cons (s_set (i := 2) nd rfl (Or.inl rfl) (o_call AA.f12 hr rfl Z.M12 Z.F12.kp Z.B12 pass0 (a_cons (o_var 0 (pe_var rfl (.inr (.inl rfl)))) (a_cons (o_var 1 (pe_var rfl (.inl rfl))) a_nil))))
    (ss_cons (s_set (i := 3) nd rfl (Or.inr rfl) (o_call AA.f11 hr rfl Z.M11 Z.F11.kp Z.B11 pass0 (a_cons (o_var 0 (pe_var rfl (.inr (.inl rfl)))) (a_cons (o_c pe_int) a_nil))))
    (ss_cons (s_dput (hu_of hr) (o_var 2 (pe_var rfl (.inl rfl))) (o_c pe_str) (o_lc (own := [("turn", 5)]) (gt := (gName 5)) rfl nd (i_range rfl Z.zrange (o_call AA.f7 hr rfl Z.M7 Z.F7.kp Z.B7 pass0 (a_cons (o_var 0 (pe_var rfl (.inr (.inl rfl)))) (a_cons (o_c pe_int) a_nil)))) (blkOk_by (N := ["box", "many", "w", "names", "first", "turn"]) (sc := defScope s16) (by decide +kernel)) (fun _ _ _ _ _ => (gv_name 5 (pg_name nd rfl (.inl rfl)) (by decide))) (fun _ _ _ _ _ => ots_nil) (fun _ _ _ _ _ => (o_tup (a_cons (o_ix ix_oIx (o_var 3 (pe_var rfl (by first | exact .inr (.inl rfl) | exact .inr (.inr rfl)))) (o_call AA.f7 hr rfl Z.M7 Z.F7.kp Z.B7 pass0 (a_cons (o_var 0 (pe_var rfl (by first | exact .inr (.inl rfl) | exact .inr (.inr rfl)))) (a_cons (o_c pe_int) a_nil))) (fun _ _ => rfl)) (a_cons (o_ix ix_oIx (o_var 3 (pe_var rfl (by first | exact .inr (.inl rfl) | exact .inr (.inr rfl)))) (o_call AA.f7 hr rfl Z.M7 Z.F7.kp Z.B7 pass0 (a_cons (o_var 0 (pe_var rfl (by first | exact .inr (.inl rfl) | exact .inr (.inr rfl)))) (a_cons (o_c pe_int) a_nil))) (fun _ _ => rfl)) a_nil))))))
    (ss_cons (s_set (i := 4) nd rfl (Or.inl rfl) (o_ix ix_oIx (o_lst (a_cons (o_c pe_int) (a_cons (o_call AA.f7 hr rfl Z.M7 Z.F7.kp Z.B7 pass0 (a_cons (o_var 0 (pe_var rfl (.inr (.inl rfl)))) (a_cons (o_c pe_int) a_nil))) (a_cons (o_op op_oPow (o_c pe_int) (o_c pe_int)) a_nil)))) (o_call AA.f7 hr rfl Z.M7 Z.F7.kp Z.B7 pass0 (a_cons (o_var 0 (pe_var rfl (.inr (.inl rfl)))) (a_cons (o_c pe_int) a_nil))) (fun _ _ => rfl)))
    (ss_cons (s_asg (o_tup (a_cons (o_sl (o_lst (a_cons (o_var 4 (pe_var rfl (.inl rfl))) (a_cons (o_op op_oAdd (o_var 4 (pe_var rfl (.inl rfl))) (o_c pe_int)) (a_cons (o_op op_oAdd (o_var 4 (pe_var rfl (.inl rfl))) (o_c pe_int)) a_nil)))) oo_none (oo_some (o_call AA.f7 hr rfl Z.M7 Z.F7.kp Z.B7 pass0 (a_cons (o_var 0 (pe_var rfl (.inr (.inl rfl)))) (a_cons (o_c pe_int) a_nil))))) (a_cons (o_op op_oAdd (o_var 4 (pe_var rfl (.inl rfl))) (o_c pe_int)) a_nil))) (g_tup rfl (gs_cons (g_sub (o_var 2 (pe_var rfl (.inl rfl))) (o_c pe_str) (set_osDct (hu_of hr))) (gs_cons (g_sub (o_var 2 (pe_var rfl (.inl rfl))) (o_c pe_str) (set_osDct (hu_of hr))) gs_nil))))
    (ss_one (s_ret (o_var 2 (pe_var rfl (.inl rfl)))))))))))
theorem sc17 : FnScope ["kind", "label", "one"] ["kind"] (defScope s17) := ⟨rfl, rfl, rfl, by decide +kernel, rfl, by decide +kernel, by decide +kernel⟩
theorem ok17 [Tb] (Z : Txt w K mg fa fdd) (AA : AllOk P w K mg base fa fdd k) : FnOk P w K mg base CX0 (k + 1) (fa 17) (fdd 17) ["kind"] (liM K (SP (k + 1) 17)) :=
  fn_ok (b := b17 (SP k)) Z.F17 sc17 (fun cdv Ar outer s H E hr => have nd := sc17.nd
   (ss_cons (s_if (t_cmp (op_oEq hr.units) (o_ix ix_oIx (o_var 0 (pe_var rfl (.inl rfl))) (o_c pe_int) (fun _ _ => rfl)) (o_c pe_str)) (ss_one (s_ret (o_op op_oAdd (o_op op_oAdd (o_c pe_int) (o_call AA.f17 hr rfl Z.M17 Z.F17.kp Z.B17 pass0 (a_cons (o_ix ix_oIx (o_var 0 (pe_var rfl (.inl rfl))) (o_c pe_int) (fun _ _ => rfl)) a_nil))) (o_call AA.f17 hr rfl Z.M17 Z.F17.kp Z.B17 pass0 (a_cons (o_ix ix_oIx (o_var 0 (pe_var rfl (.inl rfl))) (o_c pe_int) (fun _ _ => rfl)) a_nil))))) ss_nil)
    (ss_one (s_ret (o_if (t_cmp (op_oInA (hu65 hr)) (o_ix ix_oIx (o_var 0 (pe_var rfl (.inl rfl))) (o_c pe_int) (fun _ _ => rfl)) (o_tup (a_cons (o_c pe_str) (a_cons (o_c pe_str) a_nil)))) (o_op op_oAdd (o_c pe_int) (o_callB (c_sum rfl) rfl Z.zsum (by decide +kernel) (a_cons (o_lc (own := [("label", 1), ("one", 2)]) (gt := (gTup _ 2 (gCons (gName 1) (gCons (gName 2) gNil)))) rfl nd (i_seq (o_ix ix_oIx (o_var 0 (pe_var rfl (.inl rfl))) (o_c pe_int) (fun _ _ => rfl))) (blkOk_by (N := ["kind", "label", "one"]) (sc := defScope s17) (by decide +kernel)) (fun _ _ _ _ _ => (gv_tup rfl (gvs_cons (gv_name 1 (pg_name nd rfl (.inl rfl)) (by decide)) (gvs_cons (gv_name 2 (pg_name nd rfl (.inl rfl)) (by decide)) gvs_nil)))) (fun _ _ _ _ _ => ots_nil) (fun _ _ _ _ _ => (o_call AA.f17 hr rfl Z.M17 Z.F17.kp Z.B17 pass0 (a_cons (o_var 2 (pe_var rfl (.inl rfl))) a_nil)))) a_nil))) (o_c pe_int))))))
theorem sc18 : FnScope ["box", "w", "high", "kind"] ["box", "w", "high"] (defScope s18) := ⟨rfl, rfl, rfl, by decide +kernel, rfl, by decide +kernel, by decide +kernel⟩
theorem ok18 [Tb] (Z : Txt w K mg fa fdd) (AA : AllOk P w K mg base fa fdd k) : FnOk P w K mg base CX0 (k + 1) (fa 18) (fdd 18) ["box", "w", "high"] (liM K (SP (k + 1) 18)) :=
  fn_ok (b := b18 (SP k)) Z.F18 sc18 (fun cdv Ar outer s H E hr => have nd := sc18.nd
   (ss_cons (s_set (i := 3) nd rfl (Or.inl rfl) (o_call AA.f15 hr rfl Z.M15 Z.F15.kp Z.B15 pass0 (a_cons (o_var 0 (pe_var rfl (.inl rfl))) (a_cons (o_var 1 (pe_var rfl (.inl rfl))) (a_cons (o_var 2 (pe_var rfl (.inl rfl))) a_nil)))))
    (ss_one (s_ret (o_if (t_cmp op_oLtU (o_call AA.f17 hr rfl Z.M17 Z.F17.kp Z.B17 pass0 (a_cons (o_var 3 (pe_var rfl (.inl rfl))) a_nil)) (o_c pe_int)) (o_var 3 (pe_var rfl (.inl rfl))) (o_tup (a_cons (o_c pe_str) (a_cons (o_tup (a_cons (o_c pe_str) a_nil)) (a_cons (o_tup (a_cons (o_c pe_str) a_nil)) a_nil)))))))))
theorem sc19 : FnScope ["kind", "opens", "some", "module", "name", "one", "label"] ["kind", "opens"] (defScope s19) := ⟨rfl, rfl, rfl, by decide +kernel, rfl, by decide +kernel, by decide +kernel⟩
theorem ok19 [Tb] (Z : Txt w K mg fa fdd) (AA : AllOk P w K mg base fa fdd k) : FnOk P w K mg base CX0 (k + 1) (fa 19) (fdd 19) ["kind", "opens"] (liM K (SP (k + 1) 19)) :=
  fn_ok (b := b19 (SP k)) Z.F19 sc19 (fun cdv Ar outer s H E hr => have nd := sc19.nd
   (ss_cons (s_if (t_cmp (op_oEq hr.units) (o_ix ix_oIx (o_var 0 (pe_var rfl (.inr (.inl rfl)))) (o_c pe_int) (fun _ _ => rfl)) (o_c pe_str)) (ss_cons (s_setLc (i := 2) (own := [("module", 3), ("name", 4), ("one", 5)]) (gt := (gTup _ 3 (gCons (gName 3) (gCons (gName 4) (gCons (gName 5) gNil))))) rfl nd rfl rfl (sw_true rfl rfl rfl (by decide +kernel)) (i_seq (o_var 1 (pe_var rfl (.inr (.inl rfl))))) (blkOk_by (N := ["kind", "opens", "some", "module", "name", "one", "label"]) (sc := defScope s19) (by decide +kernel)) (fun _ _ _ _ _ => (gv_tup rfl (gvs_cons (gv_name 3 (pg_name nd rfl (.inl rfl)) (by decide)) (gvs_cons (gv_name 4 (pg_name nd rfl (.inl rfl)) (by decide)) (gvs_cons (gv_name 5 (pg_name nd rfl (.inl rfl)) (by decide)) gvs_nil))))) (fun _ _ _ _ _ => (ots_one (t_cmp (op_oEq hr.units) (o_tup (a_cons (o_var 3 (pe_var rfl (.inl rfl))) (a_cons (o_var 4 (pe_var rfl (.inl rfl))) a_nil))) (o_sl (o_var 0 (pe_var rfl (by first | exact .inr (.inl rfl) | exact .inr (.inr rfl)))) (oo_some (o_c pe_int)) oo_none)))) (fun _ _ _ _ _ => (o_var 5 (pe_var rfl (.inl rfl)))))
    (ss_one (s_ret (o_if (t_cmp (op_oNe hr.units) (o_var 2 (pe_var rfl (.inl rfl))) (o_lst a_nil)) (o_ix ix_oIx (o_var 2 (pe_var rfl (.inl rfl))) (o_c pe_int) (fun _ _ => rfl)) (o_var 0 (pe_var rfl (.inr (.inl rfl)))))))) ss_nil)
    (ss_cons (s_if (t_cmp (op_oEq hr.units) (o_ix ix_oIx (o_var 0 (pe_var rfl (.inr (.inl rfl)))) (o_c pe_int) (fun _ _ => rfl)) (o_c pe_str)) (ss_one (s_ret (o_tup (a_cons (o_c pe_str) (a_cons (o_call AA.f19 hr rfl Z.M19 Z.F19.kp Z.B19 pass0 (a_cons (o_ix ix_oIx (o_var 0 (pe_var rfl (.inr (.inl rfl)))) (o_c pe_int) (fun _ _ => rfl)) (a_cons (o_var 1 (pe_var rfl (.inr (.inl rfl)))) a_nil))) (a_cons (o_call AA.f19 hr rfl Z.M19 Z.F19.kp Z.B19 pass0 (a_cons (o_ix ix_oIx (o_var 0 (pe_var rfl (.inr (.inl rfl)))) (o_c pe_int) (fun _ _ => rfl)) (a_cons (o_var 1 (pe_var rfl (.inr (.inl rfl)))) a_nil))) a_nil)))))) ss_nil)
    (ss_cons (s_if (t_cmp (op_oNotInA (hu65 hr)) (o_ix ix_oIx (o_var 0 (pe_var rfl (.inr (.inl rfl)))) (o_c pe_int) (fun _ _ => rfl)) (o_tup (a_cons (o_c pe_str) (a_cons (o_c pe_str) a_nil)))) (ss_one (s_ret (o_var 0 (pe_var rfl (.inr (.inl rfl)))))) ss_nil)
    (ss_one (s_ret (o_tup (a_cons (o_ix ix_oIx (o_var 0 (pe_var rfl (.inr (.inl rfl)))) (o_c pe_int) (fun _ _ => rfl)) (a_cons (o_callTy c_tuple rfl Z.ztuple (by decide +kernel) (a_cons (o_lc (own := [("label", 6), ("one", 5)]) (gt := (gTup _ 2 (gCons (gName 6) (gCons (gName 5) gNil)))) rfl nd (i_seq (o_ix ix_oIx (o_var 0 (pe_var rfl (.inr (.inl rfl)))) (o_c pe_int) (fun _ _ => rfl))) (blkOk_by (N := ["kind", "opens", "some", "module", "name", "one", "label"]) (sc := defScope s19) (by decide +kernel)) (fun _ _ _ _ _ => (gv_tup rfl (gvs_cons (gv_name 6 (pg_name nd rfl (.inl rfl)) (by decide)) (gvs_cons (gv_name 5 (pg_name nd rfl (.inl rfl)) (by decide)) gvs_nil)))) (fun _ _ _ _ _ => ots_nil) (fun _ _ _ _ _ => (o_tup (a_cons (o_var 6 (pe_var rfl (.inl rfl))) (a_cons (o_call AA.f19 hr rfl Z.M19 Z.F19.kp Z.B19 pass0 (a_cons (o_var 5 (pe_var rfl (.inl rfl))) (a_cons (o_var 1 (pe_var rfl (by first | exact .inr (.inl rfl) | exact .inr (.inr rfl)))) a_nil))) a_nil))))) a_nil)) (a_cons (o_ix ix_oIx (o_var 0 (pe_var rfl (.inr (.inl rfl)))) (o_c pe_int) (fun _ _ => rfl)) a_nil))))))))))
theorem sc20 : FnScope ["box", "w", "some", "kind"] ["box", "w"] (defScope s20) := ⟨rfl, rfl, rfl, by decide +kernel, rfl, by decide +kernel, by decide +kernel⟩
theorem ok20 [Tb] (Z : Txt w K mg fa fdd) (AA : AllOk P w K mg base fa fdd k) : FnOk P w K mg base CX0 (k + 1) (fa 20) (fdd 20) ["box", "w"] (liM K (SP (k + 1) 20)) :=
  fn_ok (b := b20 (SP k)) Z.F20 sc20 (fun cdv Ar outer s H E hr => have nd := sc20.nd
   (ss_cons (s_set (i := 2) nd rfl (Or.inl rfl) (o_callTy c_dictD rfl Z.zdict (by decide +kernel) (a_cons (o_var 1 (pe_var rfl (.inl rfl))) a_nil)))
    (ss_cons (s_expr (o_bm PySem.F.plainAttrs_dict PySem.F.slot_dict_update PySem.F.type_dict_update mt_oUpdate (o_var 2 (pe_var rfl (.inl rfl))) (a_cons (o_disp (ops_cons pe_str (o_lst a_nil) (ops_cons pe_str (o_dnew) ops_nil))) a_nil)))
    (ss_cons (s_set (i := 3) nd rfl (Or.inl rfl) (o_call AA.f18 hr rfl Z.M18 Z.F18.kp Z.B18 pass0 (a_cons (o_var 0 (pe_var rfl (.inl rfl))) (a_cons (o_var 2 (pe_var rfl (.inl rfl))) (a_cons (o_op op_oAdd (o_c pe_int) (o_call AA.f7 hr rfl Z.M7 Z.F7.kp Z.B7 pass0 (a_cons (o_var 0 (pe_var rfl (.inl rfl))) (a_cons (o_c pe_int) a_nil)))) a_nil)))))
    (ss_one (s_ret (o_if (t_cmp (op_oEqE (Nat.lt_of_le_of_lt (Nat.le_add_right _ 65) (hu65 hr))) (o_dget (hu_of hr) (o_var 2 (pe_var rfl (.inl rfl))) (o_c pe_str) (fun _ _ => rfl)) (o_dnew)) (o_var 3 (pe_var rfl (.inl rfl))) (o_op op_oAdd (o_tup (a_cons (o_c pe_str) a_nil)) (o_ix ix_oIx (o_dget (hu_of hr) (o_var 1 (pe_var rfl (.inl rfl))) (o_c pe_str) (fun _ _ => rfl)) (o_c pe_int) (fun _ _ => rfl))))))))))
theorem sc21 : FnScope ["box", "w", "names", "kind", "left", "opens", "turn", "one", "kept", "due", "at", "some"] ["box"] (defScope s21) := ⟨rfl, rfl, rfl, by decide +kernel, rfl, by decide +kernel, by decide +kernel⟩
theorem ok21 [Tb] (Z : Txt w K mg fa fdd) (AA : AllOk P w K mg base fa fdd k) : FnG P w K mg base (k + 1) (fa 21) (fdd 21) ["box"] (liM K (SP (k + 1) 21)) :=
  fn_okG (b := b21 (SP k)) Z.F21 sc21 (fun cdv Ar outer s H E hgd hr => have nd := sc21.nd
   (ss_cons (s_par (i := 1) (j := 2) rfl nd rfl rfl (by decide) rfl rfl (a_cons (o_call AA.f16 hr rfl Z.M16 Z.F16.kp Z.B16 pass0 (a_cons (o_var 0 (pe_var rfl (.inl rfl))) (a_cons (o_c pe_int) a_nil))) (a_cons (o_call AA.f11 hr rfl Z.M11 Z.F11.kp Z.B11 pass0 (a_cons (o_var 0 (pe_var rfl (.inl rfl))) (a_cons (o_c pe_int) a_nil))) a_nil)))
    (ss_cons (s_dput (hu_of hr) (o_var 1 (pe_var rfl (.inl rfl))) (o_c pe_str) (o_op op_oAdd (o_dget (hu_of hr) (o_var 1 (pe_var rfl (.inl rfl))) (o_c pe_str) (fun _ _ => rfl)) (o_lst (a_cons (o_tup (a_cons (o_ix ix_oIx (o_var 2 (pe_var rfl (.inl rfl))) (o_c pe_int) (fun _ _ => rfl)) (a_cons (o_ix ix_oIx (o_var 2 (pe_var rfl (.inl rfl))) (o_c pe_int) (fun _ _ => rfl)) a_nil))) (a_cons (o_tup (a_cons (o_ix ix_oIx (o_var 2 (pe_var rfl (.inl rfl))) (o_c pe_int) (fun _ _ => rfl)) (a_cons (o_ix ix_oIx (o_var 2 (pe_var rfl (.inl rfl))) (o_c pe_int) (fun _ _ => rfl)) a_nil))) (a_cons (o_tup (a_cons (o_ix ix_oIx (o_var 2 (pe_var rfl (.inl rfl))) (o_c pe_int) (fun _ _ => rfl)) (a_cons (o_ix ix_oIx (o_var 2 (pe_var rfl (.inl rfl))) (o_c pe_int) (fun _ _ => rfl)) a_nil))) a_nil))))))
    (ss_cons (s_asg (o_tup (a_cons (o_call AA.f18 hr rfl Z.M18 Z.F18.kp Z.B18 pass0 (a_cons (o_var 0 (pe_var rfl (.inl rfl))) (a_cons (o_var 1 (pe_var rfl (.inl rfl))) (a_cons (o_op op_oAdd (o_c pe_int) (o_call AA.f7 hr rfl Z.M7 Z.F7.kp Z.B7 pass0 (a_cons (o_var 0 (pe_var rfl (.inl rfl))) (a_cons (o_c pe_int) a_nil)))) a_nil)))) (a_cons (o_callTy c_list rfl Z.zlist (by decide +kernel) (a_cons (o_dget (hu_of hr) (o_var 1 (pe_var rfl (.inl rfl))) (o_c pe_str) (fun _ _ => rfl)) a_nil)) (a_cons (o_lst a_nil) a_nil)))) (g_tup rfl (gs_cons (g_name 3 (pg_name nd rfl (.inl rfl))) (gs_cons (g_name 4 (pg_name nd rfl (.inr rfl))) (gs_cons (g_name 5 (pg_name nd rfl (.inl rfl))) gs_nil)))))
    (ss_cons (s_set (i := 4) nd rfl (Or.inr rfl) (o_op op_oAdd (o_lc (own := [("at", 10), ("one", 7)]) (gt := (gTup _ 2 (gCons (gName 10) (gCons (gName 7) gNil)))) rfl nd (i_enum rfl Z.zenumerate (o_var 4 (pe_var rfl (.inr (.inl rfl))))) (blkOk_by (N := ["box", "w", "names", "kind", "left", "opens", "turn", "one", "kept", "due", "at", "some"]) (sc := defScope s21) (by decide +kernel)) (fun _ _ _ _ _ => (gv_tup rfl (gvs_cons (gv_name 10 (pg_name nd rfl (.inl rfl)) (by decide)) (gvs_cons (gv_name 7 (pg_name nd rfl (.inl rfl)) (by decide)) gvs_nil)))) (fun _ _ _ _ _ => (ots_one (t_cmp (op_oNotInA (hu65 hr)) (o_var 7 (pe_var rfl (.inl rfl))) (o_sl (o_var 4 (pe_var rfl (by first | exact .inr (.inl rfl) | exact .inr (.inr rfl)))) oo_none (oo_some (o_var 10 (pe_var rfl (.inl rfl)))))))) (fun _ _ _ _ _ => (o_var 7 (pe_var rfl (.inl rfl))))) (o_lst (a_cons (o_tup (a_cons (o_ix ix_oIx (o_var 2 (pe_var rfl (.inl rfl))) (o_c pe_int) (fun _ _ => rfl)) (a_cons (o_ix ix_oIx (o_var 2 (pe_var rfl (.inl rfl))) (o_c pe_int) (fun _ _ => rfl)) a_nil))) a_nil))))
    (ss_cons (s_for PassesOwn.never rfl (i_range rfl Z.zrange (o_call AA.f7 hr rfl Z.M7 Z.F7.kp Z.B7 pass0 (a_cons (o_var 0 (pe_var rfl (.inl rfl))) (a_cons (o_c pe_int) a_nil)))) (g_name 6 (pg_name nd rfl (.inl rfl))) (ss_cons (s_set (i := 7) nd rfl (Or.inl rfl) (o_if (t_cmp (op_oNe hr.units) (o_var 4 (pe_var rfl (.inr (.inl rfl)))) (o_lst a_nil)) (o_bm PySem.F.plainAttrs_list PySem.F.slot_list_pop PySem.F.type_list_pop mt_oPopAt (o_var 4 (pe_var rfl (.inr (.inl rfl)))) (a_cons (o_call AA.f7 hr rfl Z.M7 Z.F7.kp Z.B7 pass0 (a_cons (o_var 0 (pe_var rfl (.inl rfl))) (a_cons (o_callB c_len rfl Z.zlen PySem.boot_len (a_cons (o_var 4 (pe_var rfl (.inr (.inl rfl)))) a_nil)) a_nil))) a_nil)) (o_tup (a_cons (o_ix ix_oIx (o_var 2 (pe_var rfl (.inl rfl))) (o_c pe_int) (fun _ _ => rfl)) (a_cons (o_ix ix_oIx (o_var 2 (pe_var rfl (.inl rfl))) (o_c pe_int) (fun _ _ => rfl)) a_nil)))))
    (ss_one (s_set (i := 5) nd rfl (Or.inl rfl) (o_op op_oAdd (o_var 5 (pe_var rfl (.inl rfl))) (o_op op_oMulU (o_lst (a_cons (o_op op_oAdd (o_var 7 (pe_var rfl (.inl rfl))) (o_tup (a_cons (o_call AA.f20 hr rfl Z.M20 Z.F20.kp Z.B20 pass0 (a_cons (o_var 0 (pe_var rfl (.inl rfl))) (a_cons (o_var 1 (pe_var rfl (.inl rfl))) a_nil))) a_nil))) a_nil)) (o_callTy c_int rfl Z.zint (by decide +kernel) (a_cons (o_cmp (op_oNotInA (hu65 hr)) (o_var 7 (pe_var rfl (.inl rfl))) (o_lc (own := [("some", 11)]) (gt := (gName 11)) rfl nd (i_seq (o_var 5 (pe_var rfl (.inl rfl)))) (blkOk_by (N := ["box", "w", "names", "kind", "left", "opens", "turn", "one", "kept", "due", "at", "some"]) (sc := defScope s21) (by decide +kernel)) (fun _ _ _ _ _ => (gv_name 11 (pg_name nd rfl (.inl rfl)) (by decide))) (fun _ _ _ _ _ => ots_nil) (fun _ _ _ _ _ => (o_sl (o_var 11 (pe_var rfl (.inl rfl))) oo_none (oo_some (o_c pe_int)))))) a_nil))))))))
    (ss_cons (s_par (i := 8) (j := 9) rfl nd rfl rfl (by decide) rfl rfl (a_cons (o_callB (c_repr hgd hr.units) rfl Z.zrepr (by decide +kernel) (a_cons (o_lst (a_cons (o_var 3 (pe_var rfl (.inl rfl))) (a_cons (o_var 5 (pe_var rfl (.inl rfl))) a_nil))) a_nil)) (a_cons (o_call AA.f19 hr rfl Z.M19 Z.F19.kp Z.B19 pass0 (a_cons (o_var 3 (pe_var rfl (.inl rfl))) (a_cons (o_var 5 (pe_var rfl (.inl rfl))) a_nil))) a_nil)))
    (ss_cons (s_if (t_not (t_tru (o_call AA.f9 hr rfl Z.M9 Z.F9.kp Z.B9 pass0 (a_cons (o_lst (a_cons (o_call AA.f3 hr rfl Z.M3 Z.F3.kp Z.B3 pass0 (a_cons (o_var 3 (pe_var rfl (.inl rfl))) (a_cons (o_var 5 (pe_var rfl (.inl rfl))) a_nil))) (a_cons (o_call AA.f3 hr rfl Z.M3 Z.F3.kp Z.B3 pass0 (a_cons (o_var 3 (pe_var rfl (.inl rfl))) (a_cons (o_callTy c_tuple rfl Z.ztuple (by decide +kernel) (a_cons (o_var 5 (pe_var rfl (.inl rfl))) a_nil)) a_nil))) (a_cons (o_call AA.f3 hr rfl Z.M3 Z.F3.kp Z.B3 pass0 (a_cons (o_var 3 (pe_var rfl (.inl rfl))) (a_cons (o_rev (o_var 5 (pe_var rfl (.inl rfl)))) a_nil))) a_nil)))) (a_cons (o_op op_oMulU (o_lst (a_cons (o_var 9 (pe_var rfl (.inl rfl))) a_nil)) (o_c pe_int)) a_nil))))) (ss_one (s_ret (o_c pe_bl))) ss_nil)
    (ss_one (s_ret (o_and (o_call AA.f9 hr rfl Z.M9 Z.F9.kp Z.B9 pass0 (a_cons (o_call AA.f3 hr rfl Z.M3 Z.F3.kp Z.B3 pass0 (a_cons (o_var 3 (pe_var rfl (.inl rfl))) (a_cons (o_lst a_nil) a_nil))) (a_cons (o_var 3 (pe_var rfl (.inl rfl))) a_nil))) (o_and (o_cmp (op_oEq hr.units) (o_call AA.f3 hr rfl Z.M3 Z.F3.kp Z.B3 pass0 (a_cons (o_var 3 (pe_var rfl (.inl rfl))) (a_cons (o_tup a_nil) a_nil))) (o_var 3 (pe_var rfl (.inl rfl)))) (o_one (o_cmp (op_oEq hr.units) (o_callB (c_repr hgd hr.units) rfl Z.zrepr (by decide +kernel) (a_cons (o_lst (a_cons (o_var 3 (pe_var rfl (.inl rfl))) (a_cons (o_var 5 (pe_var rfl (.inl rfl))) a_nil))) a_nil)) (o_var 8 (pe_var rfl (.inl rfl)))))))))))))))))
theorem sc22 : FnScope ["script", "cells", "k", "box", "turn"] ["script"] (defScope s22) := ⟨rfl, rfl, rfl, by decide +kernel, rfl, by decide +kernel, by decide +kernel⟩
theorem ok22 [Tb] (Z : Txt w K mg fa fdd) (AA : AllOk P w K mg base fa fdd k) : FnG P w K mg base (k + 1) (fa 22) (fdd 22) ["script"] (liM K (SP (k + 1) 22)) :=
  fn_okG (b := b22 (SP k)) Z.F22 sc22 (fun cdv Ar outer s H E hgd hr => have nd := sc22.nd
   (ss_cons (s_set (i := 1) nd rfl (Or.inl rfl) (o_call AA.f8 hr rfl Z.M8 Z.F8.kp Z.B8 pass0 (a_cons (o_var 0 (pe_var rfl (.inl rfl))) (a_cons (o_c pe_int) a_nil))))
    (ss_cons (s_for PassesOwn.never rfl (i_range rfl Z.zrange (o_callB (c_max2 rfl) rfl Z.zmax (by decide +kernel) (a_cons (o_c pe_int) (a_cons (o_callB c_len rfl Z.zlen PySem.boot_len (a_cons (o_var 1 (pe_var rfl (.inl rfl))) a_nil)) a_nil)))) (g_name 2 (pg_name nd rfl (.inl rfl))) (ss_cons (s_set (i := 3) nd rfl (Or.inr rfl) (o_call AA.f6 hr rfl Z.M6 Z.F6.kp Z.B6 pass0 (a_cons (o_var 1 (pe_var rfl (.inl rfl))) (a_cons (o_var 2 (pe_var rfl (.inl rfl))) a_nil))))
    (ss_one (s_if (t_not (t_tru (o_callB (c_all rfl) rfl Z.zall (by decide +kernel) (a_cons (o_lc (own := [("turn", 4)]) (gt := (gName 4)) rfl nd (i_range rfl Z.zrange (o_c pe_int)) (blkOk_by (N := ["script", "cells", "k", "box", "turn"]) (sc := defScope s22) (by decide +kernel)) (fun _ _ _ _ _ => (gv_name 4 (pg_name nd rfl (.inl rfl)) (by decide))) (fun _ _ _ _ _ => ots_nil) (fun _ _ _ _ _ => (o_callG AA.f21 hr hgd rfl Z.M21 Z.F21.kp Z.B21 (a_cons (o_var 3 (pe_var rfl (by first | exact .inr (.inl rfl) | exact .inr (.inr rfl)))) a_nil)))) a_nil)))) (ss_one (s_ret (o_c pe_bl))) ss_nil))))
    (ss_one (s_ret (o_c pe_bl))))))
end
end Lw

set_option Elab.async false
set_option linter.all false
set_option maxRecDepth 100000
set_option maxHeartbeats 1000000
namespace Lw
open PySem L2 Mi
variable [Tb]
local macro_rules | `(tactic| walk_at "get") => `(tactic| first | assumption | exact put_same | (refine get_new (by assumption) ?_; walk_at "get") | (refine get_ne (by assumption) ?_; walk_at "get"))
local macro_rules | `(tactic| walk_at "sq") => `(tactic| first | assumption | exact .inl rfl | exact .inr (.inl rfl) | exact .inr (.inr ⟨_, rfl, by walk_at "get"⟩))
local macro_rules | `(tactic| walk_at "size") => `(tactic| first | assumption | (simp only [List.length_cons, List.length_nil]; decide) | (have := sizeLine_eq; omega))
local macro_rules | `(tactic| walk_at "txt") => `(tactic| first | assumption | (simp only [Str.length, Str.cps_append, Array.size_append]; have := sizeLine_eq; omega))
local macro_rules | `(tactic| walk_at "go1") => `(tactic| first
  | ((with_reducible refine' x_var ?e ?_); (case e => with_unfolding_all rfl))
  | with_reducible refine x_seq ?_
  | with_reducible refine x_asg ?_
  | with_reducible refine x_if ?_
  | with_reducible refine x_ret ?_
  | with_reducible refine x_next ?_
  | with_reducible refine x_expr ?_
  | with_reducible refine x_gname ?_
  | with_reducible refine x_gcons ?_
  | with_reducible refine x_gnil ?_
  | with_reducible refine x_gsub ?_
  | with_reducible refine x_c ?_
  | with_reducible refine x_op ?_
  | with_reducible refine x_call ?_
  | with_reducible refine x_cons ?_
  | with_reducible refine x_nil ?_
  | with_reducible refine x_par ?_
  | with_reducible refine x_tup ?_
  | with_reducible refine x_lst ?_
  | with_reducible refine x_b ?_
  | with_reducible refine x_tru ?_
  | with_reducible refine x_not ?_
  | with_reducible refine x_or ?_
  | with_reducible refine x_and ?_
  | with_reducible refine x_ife ?_
  | with_reducible refine x_add ?_
  | with_reducible refine x_sub ?_
  | with_reducible refine x_gtI ?_
  | with_reducible refine x_ltI ?_
  | with_reducible refine x_geI ?_
  | with_reducible refine x_leI ?_
  | with_reducible refine x_abs ?_
  | with_reducible refine x_intb ?_
  | with_reducible refine x_for ?_
  | with_reducible refine x_irange ?_
  | with_reducible refine x_lc ?_
  | with_reducible refine x_yes ?_
  | with_reducible refine x_bm ?_
  | with_reducible refine x_bm0 ?_
  | with_reducible refine x_andv ?_
  | with_reducible refine x_orv ?_
  | with_reducible refine x_notv ?_
  | with_reducible refine x_eqI ?_
  | with_reducible refine x_tystr ?_
  | ((with_reducible refine' x_gtup ?e ?_); (case e => with_unfolding_all rfl))
  | ((with_reducible refine' x_pow ?e ?_); (case e => exact ⟨by decide, by decide, by decide⟩))
  | ((with_reducible refine' x_ix ?e ?q ?_); (case e => walk_at "get"); (case q => with_unfolding_all rfl))
  | ((with_reducible refine' x_ixt ?q ?_); (case q => with_unfolding_all rfl))
  | ((with_reducible refine' x_sto ?e ?q ?_); (case e => walk_at "get"); (case q => with_unfolding_all rfl))
  | ((with_reducible refine' x_adds ?e ?_); (case e => walk_at "txt"))
  | ((with_reducible refine' x_muls ?e ?f ?g ?_); (case e => omega); (case f => omega); (case g => walk_at "txt"))
  | ((with_reducible refine' x_divmod ?e ?_); (case e => exact ⟨by omega, by omega⟩))
  | ((with_reducible refine' x_mod ?e ?_); (case e => omega))
  | ((with_reducible refine' x_fdivC ?e ?f ?_); (case e => omega); (case f => omega))
  | ((with_reducible refine' x_mulL ?e ?f ?_); (case e => omega); (case f => omega))
  | ((with_reducible refine' x_mulR ?e ?f ?_); (case e => omega); (case f => omega))
  | ((with_reducible refine' x_len ?e ?_); (case e => walk_at "sq"))
  | ((with_reducible refine' x_range ?e ?f ?_); (case e => omega); (case f => omega))
  | ((with_reducible refine' x_tylst ?e ?_); (case e => walk_at "get"))
  | ((with_reducible refine' x_append ?e ?f ?_); (case e => walk_at "get"); (case f => walk_at "size"))
  | ((with_reducible refine' And.intro ?e ?_); (case e => (show _ ≤ sizeLine; walk_at "size")))
  | ((with_reducible refine' Exists.intro _ (And.intro ?e ?_)); (case e => with_unfolding_all rfl)))
theorem take_ok {k : Nat} {G : Gp} {a : Addr} {n N : Int} {R : KT} (h : Bx G a N) (hN : N < 1000000000) (hn : 1 ≤ n) (hn2 : n ≤ 10000000)
    (hR : ∀ (v : Int) (G' : Gp), 0 ≤ v → v < n → Fr a G G' → Bx G' a (N + 1) → R (.int v) G') : SP (k + 1) 7 [.ref a, .int n] G R := by
  obtain ⟨b0, b1, b2, h, h0, h1, h2, h3, h4⟩ := h
  show spOf 6 2 (b7 (SP k)) _ _ _
  refine ⟨rfl, ?_⟩
  unfold b7
  repeat walk_at "go1"
  refine x_ite (fun e1 => ?_) (fun e1 => ?_)
  · have e2 := of_decide_eq_true e1
    repeat walk_at "go1"
    refine fwdT.of (hR _ _ (Int.emod_nonneg _ (by omega)) (Int.emod_lt_of_pos _ (by omega)) Fr.box ⟨_, _, _, put_same, Int.ediv_nonneg h0 (by omega), h1, h2, h3, by omega⟩)
  · repeat walk_at "go1"
    refine x_ite (fun e1 => ?_) (fun e1 => ?_)
    · have e2 := of_decide_eq_true e1
      exact absurd e2 (by show ¬ (10000000 : Int) < n; omega)
    repeat walk_at "go1"
    refine fwdT.of (hR _ _ (Int.emod_nonneg _ (by omega)) (Int.emod_lt_of_pos _ (by omega)) Fr.box ⟨_, _, _, put_same, h0, h1, h2, ?_, ?_⟩) <;> omega


theorem of_ok {k : Nat} {G : Gp} {a : Addr} {N : Int} {s : T} {ts : List T} {R : KT} (h : Bx G a N) (hN : N < 1000000000) (hs : Sq a G s ts) (h1 : 1 ≤ ts.length) (h2 : ts.length ≤ 10000000)
    (hR : ∀ (t : T) (G' : Gp), t ∈ ts → Fr a G G' → Bx G' a (N + 1) → R t G') : SP (k + 2) 10 [.ref a, s] G R := by
  have hq := hs.is
  show spOf 2 2 (b10 (SP (k + 1))) _ _ _
  refine ⟨rfl, ?_⟩
  unfold b10
  repeat walk_at "go1"
  refine take_ok h hN (by omega) (by omega) fun v G' v0 v1 f b => ?_
  obtain ⟨u, e, m⟩ := atI_nat v0 v1
  exact .inl ⟨ts, u, (hs.fr f).is, e, fwdT.of (hR u G' m f b)⟩


theorem names_ok {k : Nat} {G : Gp} {a : Addr} {N m : Int} {R : KT} (h : Bx G a N) (hN : N + 20 < 1000000000) (h0 : 0 ≤ m) (h1 : m ≤ 1000)
    (hR : ∀ (p : Addr) (zs : List Str) (G' : Gp), p ≠ a → G p = none → G' p = some (.lst (zs.map T.str)) → (zs.length : Int) = m → (∀ z ∈ zs, Wd z) → Fr a G G' → Bx G' a (N + 20) → R (.ref p) G') : SP (k + 2) 11 [.ref a, .int m] G R := by
  show spOf 11 2 (b11 (SP (k + 1))) _ _ _
  refine ⟨rfl, ?_⟩
  unfold b11
  repeat walk_at "go1"
  refine take_ok h (by omega) (by omega) (by omega) fun v1 G1 v1a v1b f1 B1 => ?_
  repeat walk_at "go1"
  intro p hp
  have pa := B1.ne hp
  have p0 := f1.none pa hp
  repeat walk_at "go1"
  refine take_ok (B1.new hp) (by omega) (by omega) (by omega) fun v2 G2 v2a v2b f2 B2 => ?_
  repeat walk_at "go1"
  have P2 : G2 p = some (.lst []) := f2 _ _ pa put_same
  refine ⟨by omega, by omega, fun D hD => ⟨fun i G' => ∃ zs : List Str, zs.length = i ∧ (∀ z ∈ zs, Lt z) ∧ G' D = some (.lst (zs.map T.str)) ∧ Fr a G2 G' ∧ Bx G' a (N + 2 + i), ?_, ?_, ?_, ?_⟩⟩
  · exact ⟨[], rfl, by simp, put_same, Fr.new hD, (B2.new hD).le (by omega)⟩
  · intro i G' _ q hq
    cases hq
  · intro i t G' hi ⟨zs, z1, z2, z3, z4, z5⟩
    obtain ⟨rfl, hi2⟩ := range_at hi
    have Da := B2.ne hD
    repeat walk_at "go1"
    rw [if_pos rfl]
    repeat walk_at "go1"
    refine take_ok z5 (by omega) (by omega) (by omega) fun v3 G3 v3a v3b f3 B3 => ?_
    obtain ⟨c, e, l⟩ := letter v3a v3b
    refine x_ixs letters_len e ⟨_, f3 _ _ Da z3, by rw [List.length_map]; have := sizeLine_eq; omega, fwdG.of ⟨zs ++ [⟨#[c]⟩], by simp [z1], fun z hz => ?_, ?_, Fr.grow hD fun b d n q => f3 _ _ n (z4 _ _ n q), (B3.put Da).le (by omega)⟩⟩
    · rcases List.mem_append.mp hz with q | q
      · exact z2 z q
      · exact ⟨c, by simpa using q, l⟩
    · rw [put_same, map_str]
  · intro G3 ⟨zs, z1, z2, z3, z4, z5⟩
    have hl : zs.length ≤ 5 := by
      rw [z1]
      show (rangeT 0 v2.toNat).length ≤ 5
      simp only [rangeT, List.length_map, List.length_range]
      omega
    obtain ⟨j1, j2⟩ := join_lts zs z2
    have P3 : G3 p = some (.lst []) := z4 _ _ pa P2
    repeat walk_at "go1"
    refine ⟨_, _, zs, rfl, rfl, .inr (.inr ⟨D, rfl, z3⟩), by rw [lts_sum zs z2]; show zs.length + zs.length * 0 ≤ _; omega, ?_⟩
    generalize hst : Txt.join (Str.ofString "") zs = stem at j1 j2
    have z6 : Bx G3 a (N + 7) := z5.le (by rw [← z1]; omega)
    repeat walk_at "go1"
    intro q hq
    repeat walk_at "go1"
    refine take_ok (z6.new hq) (by omega) (by omega) (by omega) fun v4 G4 v4a v4b f4 B4 => ?_
    have Q4 : G4 q = some (.lst [.int 1, .int 3, .int 25]) := f4 _ _ (z6.ne hq) put_same
    obtain ⟨u, eu, mu⟩ := atI_nat (xs := [T.int 1, T.int 3, T.int 25]) v4a v4b
    refine x_ix Q4 eu ?_
    obtain ⟨st, rfl, st1, st2⟩ : ∃ st : Int, u = .int st ∧ 1 ≤ st ∧ st ≤ 25 := by
      simp only [List.mem_cons, List.not_mem_nil, or_false] at mu
      rcases mu with rfl | rfl | rfl
      · exact ⟨1, rfl, by omega, by omega⟩
      · exact ⟨3, rfl, by omega, by omega⟩
      · exact ⟨25, rfl, by omega, by omega⟩
    repeat walk_at "go1"
    refine take_ok B4 (by omega) (by omega) (by omega) fun lo G5 v5a v5b f5 B5 => ?_
    repeat walk_at "go1"
    refine ⟨_, _, rfl, ?_⟩
    repeat walk_at "go1"
    have P5 : G5 p = some (.lst []) := f5 _ _ pa (f4 _ _ pa (get_new hq P3))
    have F5 : Fr a G G5 := fun b c n e => f5 _ _ n (f4 _ _ n (get_new hq (z4 _ _ n (f2 _ _ n (get_new hp (f1 _ _ n e))))))
    refine ⟨by omega, by omega, fun i r G' => ∃ (zs : List Str) (x8 x9 : Option T), zs.length = i ∧ (∀ z ∈ zs, Wd z) ∧ r = [some (.ref a), some (.int m), some (.str (Str.ofString "abcdefghijklmnopqrstuvwxyz")), some (.int v1), some (.ref p), some (.str stem), some (.int st), some (.int lo), x8, x9, none] ∧
      G' p = some (.lst (zs.map T.str)) ∧ Fr a G G' ∧ Bx G' a (N + 10), ⟨[], none, none, rfl, by simp, rfl, P5, F5, B5.le (by omega)⟩, ?_, ?_, ?_⟩
    · intro i r G' _ w hw
      cases hw
    · intro i t r G' hi ⟨zs, x8, x9, w1, w2, w3, w4, w5, w6⟩
      subst w3
      obtain ⟨rfl, hi2⟩ := range_at hi
      repeat walk_at "go1"
      have done : ∀ (c n : Nat) (r2 : Mi.Env) (y8 : Option T), 97 ≤ c ∧ c < 123 → (n = 0 ∨ n = 1) → r2 = [some (.ref a), some (.int m), some (.str (Str.ofString "abcdefghijklmnopqrstuvwxyz")), some (.int v1), some (.ref p), some (.str stem), some (.int st), some (.int lo), some (.int i), y8, none] →
          fwd (fun r G' => ∃ (zs : List Str) (x8 x9 : Option T), zs.length = i + 1 ∧ (∀ z ∈ zs, Wd z) ∧ r = [some (.ref a), some (.int m), some (.str (Str.ofString "abcdefghijklmnopqrstuvwxyz")), some (.int v1), some (.ref p), some (.str stem), some (.int st), some (.int lo), x8, x9, none] ∧
            G' p = some (.lst (zs.map T.str)) ∧ Fr a G G' ∧ Bx G' a (N + 10)) r2 (put G' p (.lst (zs.map T.str ++ [.str (stem ++ ⟨#[c]⟩ ++ repS (Str.ofString "ab") n)]))) := by
        intro c n r2 y8 l hn e
        refine fwd.of ⟨zs ++ [stem ++ ⟨#[c]⟩ ++ repS (Str.ofString "ab") n], some (.int i), y8, by simp [w1], fun z hz => ?_, e, by rw [put_same, map_str], Fr.grow p0 w5, w6.put pa⟩
        rcases List.mem_append.mp hz with q | q
        · exact w2 z q
        · rw [show z = _ by simpa using q]
          exact app_wd (by rw [j1]; exact hl) j2 l hn
      have sz : (zs.map T.str).length < sizeLine := by rw [List.length_map, w1]; have := sizeLine_eq; omega
      refine x_ite (fun _ => ?_) (fun _ => ?_)
      all_goals
        repeat walk_at "go1"
        obtain ⟨c, e, l⟩ := letter (i := _ % 26) (Int.emod_nonneg _ (by omega)) (Int.emod_lt_of_pos _ (by omega))
        refine x_ixs letters_len e ?_
        repeat walk_at "go1"
        refine x_adds (by show stem.cps.size + 1 ≤ _; have := sizeLine_eq; omega) ?_
        repeat walk_at "go1"
        refine x_ite (fun _ => ?_) (fun _ => ?_)
        all_goals
          repeat walk_at "go1"
          refine x_ab fun n hn => ?_
          have hs := ab_size hn
          refine x_adds (by simp only [Str.length, Str.cps_append, Array.size_append]; show stem.cps.size + 1 + _ ≤ _; have := sizeLine_eq; omega) ?_
          repeat walk_at "go1"
          exact done c n _ _ l hn rfl
    · intro r G' ⟨zs, x8, x9, w1, w2, w3, w4, w5, w6⟩
      subst w3
      repeat walk_at "go1"
      refine fwdT.of (hR p zs G' pa p0 w4 ?_ w2 w5 (w6.le (by omega)))
      rw [w1]
      simp only [rangeT, List.length_map, List.length_range]
      omega


theorem box_ok {k i : Nat} {G : Gp} {ns : List Int} {R : KT} (hi : i ≤ 63) (hR : ∀ p G', G p = none → (∀ b c, G b = some c → G' b = some c) → Bx G' p 0 → R (.ref p) G') : SP (k + 1) 6 [.cl (ns.map T.int), .int (i : Nat)] G R := by
  show spOf 3 2 (b6 (SP k)) _ _ _
  refine ⟨rfl, ?_⟩
  unfold b6
  have z0 : ∀ b : Bool, 0 ≤ (if b = true then (1 : Int) else 0) := by decide
  have fin : ∀ c : Int, ∀ p, G p = none → fwdT R (.ref p) (put G p (.lst [.int ((if c < 0 then -c else c) * if decide ((10 : Int) ^ Int.toNat 18 ≤ if c < 0 then -c else c) = true then 1 else 0), .int ((c % 2147483629 + 15485863 * (i : Nat) + 43) * 48271 % 2147483647), .int 0])) := by
    intro c p hp
    have y0 : 0 ≤ (if c < 0 then -c else c) := by split <;> omega
    exact fwdT.of (hR p _ hp (fun b c e => get_new hp e) ⟨_, _, _, put_same, Int.mul_nonneg y0 (z0 _), Int.emod_nonneg _ (by decide), Int.emod_lt_of_pos _ (by decide), Int.le_refl _, Int.le_refl _⟩)
  repeat walk_at "go1"
  refine x_ite (fun e => ?_) (fun e => ?_)
  · have e2 := of_decide_eq_true e
    rw [List.length_map] at e2
    repeat walk_at "go1"
    obtain ⟨u, eu, mu⟩ := atI_nat (xs := ns.map T.int) (i := (i : Nat)) (by omega) (by rw [List.length_map]; exact e2)
    obtain ⟨c, _, rfl⟩ := List.mem_map.mp mu
    refine x_ixc eu ?_
    repeat walk_at "go1"
    exact fin c
  · repeat walk_at "go1"
    exact fin 0


end Lw

set_option Elab.async false
set_option linter.all false
set_option maxRecDepth 100000
set_option maxHeartbeats 1000000
namespace Lw
open PySem L2 Mi
variable [Tb]
local macro_rules | `(tactic| walk_at "get") => `(tactic| first | assumption | exact put_same | (refine get_new (by assumption) ?_; walk_at "get") | (refine get_ne (by assumption) ?_; walk_at "get"))
local macro_rules | `(tactic| walk_at "sq") => `(tactic| first | assumption | exact .inl rfl | exact .inr (.inl rfl) | exact .inr (.inr ⟨_, rfl, by walk_at "get"⟩))
local macro_rules | `(tactic| walk_at "size") => `(tactic| first | assumption | (simp only [List.length_cons, List.length_nil]; decide) | (have := sizeLine_eq; omega))
local macro_rules | `(tactic| walk_at "txt") => `(tactic| first | assumption | (simp only [Str.length, Str.cps_append, Array.size_append]; have := sizeLine_eq; omega))
local macro_rules | `(tactic| walk_at "go1") => `(tactic| first
  | ((with_reducible refine' x_var ?e ?_); (case e => with_unfolding_all rfl))
  | with_reducible refine x_seq ?_
  | with_reducible refine x_asg ?_
  | with_reducible refine x_if ?_
  | with_reducible refine x_ret ?_
  | with_reducible refine x_next ?_
  | with_reducible refine x_expr ?_
  | with_reducible refine x_gname ?_
  | with_reducible refine x_gcons ?_
  | with_reducible refine x_gnil ?_
  | with_reducible refine x_gsub ?_
  | with_reducible refine x_c ?_
  | with_reducible refine x_op ?_
  | with_reducible refine x_call ?_
  | with_reducible refine x_cons ?_
  | with_reducible refine x_nil ?_
  | with_reducible refine x_par ?_
  | with_reducible refine x_tup ?_
  | with_reducible refine x_lst ?_
  | with_reducible refine x_b ?_
  | with_reducible refine x_tru ?_
  | with_reducible refine x_not ?_
  | with_reducible refine x_or ?_
  | with_reducible refine x_and ?_
  | with_reducible refine x_ife ?_
  | with_reducible refine x_add ?_
  | with_reducible refine x_sub ?_
  | with_reducible refine x_gtI ?_
  | with_reducible refine x_ltI ?_
  | with_reducible refine x_geI ?_
  | with_reducible refine x_leI ?_
  | with_reducible refine x_abs ?_
  | with_reducible refine x_intb ?_
  | with_reducible refine x_for ?_
  | with_reducible refine x_irange ?_
  | with_reducible refine x_lc ?_
  | with_reducible refine x_yes ?_
  | with_reducible refine x_bm ?_
  | with_reducible refine x_bm0 ?_
  | with_reducible refine x_andv ?_
  | with_reducible refine x_orv ?_
  | with_reducible refine x_notv ?_
  | with_reducible refine x_eqI ?_
  | with_reducible refine x_tystr ?_
  | ((with_reducible refine' x_gtup ?e ?_); (case e => with_unfolding_all rfl))
  | ((with_reducible refine' x_pow ?e ?_); (case e => exact ⟨by decide, by decide, by decide⟩))
  | ((with_reducible refine' x_ix ?e ?q ?_); (case e => walk_at "get"); (case q => with_unfolding_all rfl))
  | ((with_reducible refine' x_ixt ?q ?_); (case q => with_unfolding_all rfl))
  | ((with_reducible refine' x_sto ?e ?q ?_); (case e => walk_at "get"); (case q => with_unfolding_all rfl))
  | ((with_reducible refine' x_adds ?e ?_); (case e => walk_at "txt"))
  | ((with_reducible refine' x_muls ?e ?f ?g ?_); (case e => omega); (case f => omega); (case g => walk_at "txt"))
  | ((with_reducible refine' x_divmod ?e ?_); (case e => exact ⟨by omega, by omega⟩))
  | ((with_reducible refine' x_mod ?e ?_); (case e => omega))
  | ((with_reducible refine' x_fdivC ?e ?f ?_); (case e => omega); (case f => omega))
  | ((with_reducible refine' x_mulL ?e ?f ?_); (case e => omega); (case f => omega))
  | ((with_reducible refine' x_mulR ?e ?f ?_); (case e => omega); (case f => omega))
  | ((with_reducible refine' x_len ?e ?_); (case e => walk_at "sq"))
  | ((with_reducible refine' x_range ?e ?f ?_); (case e => omega); (case f => omega))
  | ((with_reducible refine' x_tylst ?e ?_); (case e => walk_at "get"))
  | ((with_reducible refine' x_append ?e ?f ?_); (case e => walk_at "get"); (case f => walk_at "size"))
  | ((with_reducible refine' And.intro ?e ?_); (case e => (show _ ≤ sizeLine; walk_at "size")))
  | ((with_reducible refine' Exists.intro _ (And.intro ?e ?_)); (case e => with_unfolding_all rfl)))
/-! ### names are unlike -/
def nmA (stem : Str) (v st lo : Int) (j : Nat) : Str := stem ++ ⟨#[97 + ((v + st * (if lo = 1 then ((j : Nat) : Int) / 2 else (j : Nat))) % 26).toNat]⟩ ++ repS (Str.ofString "ab") (if lo = 1 ∧ ((j : Nat) : Int) % 2 = 1 then 1 else 0)
def NmI (stem : Str) (v st lo : Int) (zs : List Str) : Prop := ∀ j, j < zs.length → zs[j]? = some (nmA stem v st lo j)
theorem NmI.nil {stem : Str} {v st lo : Int} : NmI stem v st lo [] := fun j h => absurd h (Nat.not_lt_zero _)
theorem NmI.snoc {stem : Str} {v st lo : Int} {zs : List Str} {z : Str} {i : Nat} (h : NmI stem v st lo zs) (hi : zs.length = i) (e : z = nmA stem v st lo i) : NmI stem v st lo (zs ++ [z]) := fun j hj => by
  rw [List.length_append, List.length_singleton] at hj
  by_cases hlt : j < zs.length
  · rw [List.getElem?_append_left hlt]; exact h j hlt
  · have : j = zs.length := by omega
    subst this
    rw [List.getElem?_append_right (Nat.le_refl _), Nat.sub_self, e, hi]; rfl
theorem letter2 {i : Int} (h0 : 0 ≤ i) (h1 : i < 26) : ∃ c, atI (Str.ofString "abcdefghijklmnopqrstuvwxyz").cps.toList i = some c ∧ (97 ≤ c ∧ c < 123) ∧ c = 97 + i.toNat := by
  obtain ⟨n, rfl⟩ : ∃ n : Nat, i = n := ⟨i.toNat, by omega⟩
  have all : ∀ n : Fin 26, atI (Str.ofString "abcdefghijklmnopqrstuvwxyz").cps.toList ((n.val : Nat) : Int) = some (97 + n.val) := by decide +kernel
  exact ⟨97 + n, all ⟨n, by omega⟩, by omega, by omega⟩
theorem x_ab2 {b : Bool} {G : Gp} {R : KT} (h : ∀ n : Nat, (n = 0 ∨ n = 1) → n = (if b = true then 1 else 0) → R (.str (repS (Str.ofString "ab") n)) G) : oMulU (.str (Str.ofString "ab")) (.int (if b = true then 1 else 0)) G R := by
  cases b with
  | true => exact x_muls (by decide) (by decide) (by decide +kernel) (h 1 (.inr rfl) rfl)
  | false => exact x_muls (by decide) (by decide) (by decide +kernel) (h 0 (.inl rfl) rfl)
theorem nmA_1 {stem : Str} {v st lo : Int} {c i n : Nat} (q : decide (lo = 1) = true) (hn : n = (if decide (((i : Nat) : Int) % 2 = 1) = true then 1 else 0)) (ec : c = 97 + ((v + st * (((i : Nat) : Int) / 2)) % 26).toNat) : stem ++ ⟨#[c]⟩ ++ repS (Str.ofString "ab") n = nmA stem v st lo i := by
  have q1 := of_decide_eq_true q
  subst q1
  unfold nmA
  rw [if_pos rfl, ec, hn]
  congr 2
  by_cases h : ((i : Nat) : Int) % 2 = 1
  · rw [decide_eq_true h, if_pos rfl, if_pos ⟨rfl, h⟩]
  · rw [decide_eq_false h, if_neg Bool.false_ne_true, if_neg (fun z => h z.2)]
theorem nmA_0 {stem : Str} {v st lo : Int} {c i n : Nat} (q : decide (lo = 1) = false) (hn : n = (if decide (lo = 1) = true then 1 else 0)) (ec : c = 97 + ((v + st * ((i : Nat) : Int)) % 26).toNat) : stem ++ ⟨#[c]⟩ ++ repS (Str.ofString "ab") n = nmA stem v st lo i := by
  have q1 := of_decide_eq_false q
  unfold nmA
  rw [q, if_neg Bool.false_ne_true] at hn
  rw [if_neg q1, ec, hn, if_neg (fun z => q1 z.1)]
theorem nmA_inj {stem : Str} {v st lo : Int} (hs : st = 1 ∨ st = 3 ∨ st = 25) {i j : Nat} (hi : i < 13) (hj : j < 13) (e : nmA stem v st lo i = nmA stem v st lo j) : i = j := by
  have e1 := congrArg (fun z : Str => z.cps.toList) e
  unfold nmA at e1
  simp only [Str.cps_append, Array.toList_append, List.append_assoc] at e1
  have e2 := List.append_cancel_left e1
  have ab : ∀ n : Nat, (n = 0 ∨ n = 1) → (repS (Str.ofString "ab") n).cps.toList = if n = 1 then [97, 98] else [] := fun n hn => by rcases hn with rfl | rfl <;> rfl
  rw [ab _ (by split <;> simp), ab _ (by split <;> simp)] at e2
  have e3 := (List.cons.inj e2).1
  have e4 := congrArg List.length (List.cons.inj e2).2
  by_cases hl : lo = 1
  · subst hl
    simp only [if_true, true_and] at e3 e4
    have p : ((i : Nat) : Int) % 2 = 1 ↔ ((j : Nat) : Int) % 2 = 1 := by
      by_cases a : ((i : Nat) : Int) % 2 = 1 <;> by_cases b : ((j : Nat) : Int) % 2 = 1 <;> simp [a, b] at e4 ⊢
    rcases hs with rfl | rfl | rfl <;> omega
  · simp only [if_neg hl] at e3
    rcases hs with rfl | rfl | rfl <;> omega
theorem NmI.nodup {stem : Str} {v st lo : Int} {zs : List Str} (h : NmI stem v st lo zs) (hl : zs.length ≤ 13) (hs : st = 1 ∨ st = 3 ∨ st = 25) : zs.Nodup := by
  refine List.pairwise_iff_getElem.mpr fun i j hi hj hij e => ?_
  have a := h i hi
  have b := h j hj
  rw [List.getElem?_eq_getElem hi] at a
  rw [List.getElem?_eq_getElem hj] at b
  rw [Option.some.inj a, Option.some.inj b] at e
  have := nmA_inj hs (by omega) (by omega) e
  omega
theorem names2_ok {k : Nat} {G : Gp} {a : Addr} {N m : Int} {R : KT} (h : Bx G a N) (hN : N + 20 < 1000000000) (h0 : 0 ≤ m) (h1 : m ≤ 13)
    (hR : ∀ (p : Addr) (zs : List Str) (G' : Gp), p ≠ a → G p = none → G' p = some (.lst (zs.map T.str)) → (zs.length : Int) = m → (∀ z ∈ zs, Wd z) → zs.Nodup → Fr a G G' → Bx G' a (N + 20) → R (.ref p) G') : SP (k + 2) 11 [.ref a, .int m] G R := by
  show spOf 11 2 (b11 (SP (k + 1))) _ _ _
  refine ⟨rfl, ?_⟩
  unfold b11
  repeat walk_at "go1"
  refine take_ok h (by omega) (by omega) (by omega) fun v1 G1 v1a v1b f1 B1 => ?_
  repeat walk_at "go1"
  intro p hp
  have pa := B1.ne hp
  have p0 := f1.none pa hp
  repeat walk_at "go1"
  refine take_ok (B1.new hp) (by omega) (by omega) (by omega) fun v2 G2 v2a v2b f2 B2 => ?_
  repeat walk_at "go1"
  have P2 : G2 p = some (.lst []) := f2 _ _ pa put_same
  refine ⟨by omega, by omega, fun D hD => ⟨fun i G' => ∃ zs : List Str, zs.length = i ∧ (∀ z ∈ zs, Lt z) ∧ G' D = some (.lst (zs.map T.str)) ∧ Fr a G2 G' ∧ Bx G' a (N + 2 + i), ?_, ?_, ?_, ?_⟩⟩
  · exact ⟨[], rfl, by simp, put_same, Fr.new hD, (B2.new hD).le (by omega)⟩
  · intro i G' _ q hq
    cases hq
  · intro i t G' hi ⟨zs, z1, z2, z3, z4, z5⟩
    obtain ⟨rfl, hi2⟩ := range_at hi
    have Da := B2.ne hD
    repeat walk_at "go1"
    rw [if_pos rfl]
    repeat walk_at "go1"
    refine take_ok z5 (by omega) (by omega) (by omega) fun v3 G3 v3a v3b f3 B3 => ?_
    obtain ⟨c, e, l⟩ := letter v3a v3b
    refine x_ixs letters_len e ⟨_, f3 _ _ Da z3, by rw [List.length_map]; have := sizeLine_eq; omega, fwdG.of ⟨zs ++ [⟨#[c]⟩], by simp [z1], fun z hz => ?_, ?_, Fr.grow hD fun b d n q => f3 _ _ n (z4 _ _ n q), (B3.put Da).le (by omega)⟩⟩
    · rcases List.mem_append.mp hz with q | q
      · exact z2 z q
      · exact ⟨c, by simpa using q, l⟩
    · rw [put_same, map_str]
  · intro G3 ⟨zs, z1, z2, z3, z4, z5⟩
    have hl : zs.length ≤ 5 := by
      rw [z1]
      show (rangeT 0 v2.toNat).length ≤ 5
      simp only [rangeT, List.length_map, List.length_range]
      omega
    obtain ⟨j1, j2⟩ := join_lts zs z2
    have P3 : G3 p = some (.lst []) := z4 _ _ pa P2
    repeat walk_at "go1"
    refine ⟨_, _, zs, rfl, rfl, .inr (.inr ⟨D, rfl, z3⟩), by rw [lts_sum zs z2]; show zs.length + zs.length * 0 ≤ _; omega, ?_⟩
    generalize hst : Txt.join (Str.ofString "") zs = stem at j1 j2
    have z6 : Bx G3 a (N + 7) := z5.le (by rw [← z1]; omega)
    repeat walk_at "go1"
    intro q hq
    repeat walk_at "go1"
    refine take_ok (z6.new hq) (by omega) (by omega) (by omega) fun v4 G4 v4a v4b f4 B4 => ?_
    have Q4 : G4 q = some (.lst [.int 1, .int 3, .int 25]) := f4 _ _ (z6.ne hq) put_same
    obtain ⟨u, eu, mu⟩ := atI_nat (xs := [T.int 1, T.int 3, T.int 25]) v4a v4b
    refine x_ix Q4 eu ?_
    obtain ⟨st, rfl, st1⟩ : ∃ st : Int, u = .int st ∧ (st = 1 ∨ st = 3 ∨ st = 25) := by
      simp only [List.mem_cons, List.not_mem_nil, or_false] at mu
      rcases mu with rfl | rfl | rfl
      · exact ⟨1, rfl, by omega⟩
      · exact ⟨3, rfl, by omega⟩
      · exact ⟨25, rfl, by omega⟩
    repeat walk_at "go1"
    refine take_ok B4 (by omega) (by omega) (by omega) fun lo G5 v5a v5b f5 B5 => ?_
    repeat walk_at "go1"
    refine ⟨_, _, rfl, ?_⟩
    repeat walk_at "go1"
    have P5 : G5 p = some (.lst []) := f5 _ _ pa (f4 _ _ pa (get_new hq P3))
    have F5 : Fr a G G5 := fun b c n e => f5 _ _ n (f4 _ _ n (get_new hq (z4 _ _ n (f2 _ _ n (get_new hp (f1 _ _ n e))))))
    refine ⟨by omega, by omega, fun i r G' => ∃ (zs : List Str) (x8 x9 : Option T), zs.length = i ∧ (∀ z ∈ zs, Wd z) ∧ NmI stem v1 st lo zs ∧ r = [some (.ref a), some (.int m), some (.str (Str.ofString "abcdefghijklmnopqrstuvwxyz")), some (.int v1), some (.ref p), some (.str stem), some (.int st), some (.int lo), x8, x9, none] ∧
      G' p = some (.lst (zs.map T.str)) ∧ Fr a G G' ∧ Bx G' a (N + 10), ⟨[], none, none, rfl, by simp, NmI.nil, rfl, P5, F5, B5.le (by omega)⟩, ?_, ?_, ?_⟩
    · intro i r G' _ w hw
      cases hw
    · intro i t r G' hi ⟨zs, x8, x9, w1, w2, wI, w3, w4, w5, w6⟩
      subst w3
      obtain ⟨rfl, hi2⟩ := range_at hi
      repeat walk_at "go1"
      have done : ∀ (c n : Nat) (r2 : Mi.Env) (y8 : Option T), 97 ≤ c ∧ c < 123 → (n = 0 ∨ n = 1) → stem ++ ⟨#[c]⟩ ++ repS (Str.ofString "ab") n = nmA stem v1 st lo i → r2 = [some (.ref a), some (.int m), some (.str (Str.ofString "abcdefghijklmnopqrstuvwxyz")), some (.int v1), some (.ref p), some (.str stem), some (.int st), some (.int lo), some (.int i), y8, none] →
          fwd (fun r G' => ∃ (zs : List Str) (x8 x9 : Option T), zs.length = i + 1 ∧ (∀ z ∈ zs, Wd z) ∧ NmI stem v1 st lo zs ∧ r = [some (.ref a), some (.int m), some (.str (Str.ofString "abcdefghijklmnopqrstuvwxyz")), some (.int v1), some (.ref p), some (.str stem), some (.int st), some (.int lo), x8, x9, none] ∧
            G' p = some (.lst (zs.map T.str)) ∧ Fr a G G' ∧ Bx G' a (N + 10)) r2 (put G' p (.lst (zs.map T.str ++ [.str (stem ++ ⟨#[c]⟩ ++ repS (Str.ofString "ab") n)]))) := by
        intro c n r2 y8 l hn en e
        refine fwd.of ⟨zs ++ [stem ++ ⟨#[c]⟩ ++ repS (Str.ofString "ab") n], some (.int i), y8, by simp [w1], fun z hz => ?_, wI.snoc w1 en, e, by rw [put_same, map_str], Fr.grow p0 w5, w6.put pa⟩
        rcases List.mem_append.mp hz with q | q
        · exact w2 z q
        · rw [show z = _ by simpa using q]
          exact app_wd (by rw [j1]; exact hl) j2 l hn
      have sz : (zs.map T.str).length < sizeLine := by rw [List.length_map, w1]; have := sizeLine_eq; omega
      refine x_ite (fun q1 => ?_) (fun q1 => ?_)
      all_goals
        repeat walk_at "go1"
        obtain ⟨c, e, l, ec⟩ := letter2 (i := _ % 26) (Int.emod_nonneg _ (by omega)) (Int.emod_lt_of_pos _ (by omega))
        refine x_ixs letters_len e ?_
        repeat walk_at "go1"
        refine x_adds (by show stem.cps.size + 1 ≤ _; have := sizeLine_eq; omega) ?_
        repeat walk_at "go1"
        refine x_ite (fun q2 => ?_) (fun q2 => ?_)
        all_goals
          repeat walk_at "go1"
          refine x_ab2 fun n hn hn2 => ?_
          have hs := ab_size hn
          refine x_adds (by simp only [Str.length, Str.cps_append, Array.size_append]; show stem.cps.size + 1 + _ ≤ _; have := sizeLine_eq; omega) ?_
          repeat walk_at "go1"
          exact done c n _ _ l hn (by first | exact nmA_1 q1 hn2 ec | exact nmA_0 q1 hn2 ec | (rw [q1] at q2; exact absurd q2 (by decide))) rfl
    · intro r G' ⟨zs, x8, x9, w1, w2, wI, w3, w4, w5, w6⟩
      subst w3
      repeat walk_at "go1"
      refine fwdT.of (hR p zs G' pa p0 w4 ?_ w2 (wI.nodup (by rw [w1]; simp only [rangeT, List.length_map, List.length_range]; omega) st1) w5 (w6.le (by omega)))
      rw [w1]
      simp only [rangeT, List.length_map, List.length_range]
      omega

end Lw

set_option Elab.async false
set_option linter.all false
set_option maxRecDepth 100000
set_option maxHeartbeats 1000000
namespace Lw
open PySem L2 Mi
variable [Tb]
local macro_rules | `(tactic| walk_at "get") => `(tactic| first | assumption | exact put_same | (refine get_new (by assumption) ?_; walk_at "get") | (refine get_ne (by assumption) ?_; walk_at "get"))
local macro_rules | `(tactic| walk_at "sq") => `(tactic| first | assumption | exact .inl rfl | exact .inr (.inl rfl) | exact .inr (.inr ⟨_, rfl, by walk_at "get"⟩))
local macro_rules | `(tactic| walk_at "size") => `(tactic| first | assumption | (simp only [List.length_cons, List.length_nil]; decide) | (have := sizeLine_eq; omega))
local macro_rules | `(tactic| walk_at "txt") => `(tactic| first | assumption | (simp only [Str.length, Str.cps_append, Array.size_append]; have := sizeLine_eq; omega))
local macro_rules | `(tactic| walk_at "go1") => `(tactic| first
  | ((with_reducible refine' x_var ?e ?_); (case e => with_unfolding_all rfl))
  | with_reducible refine x_seq ?_
  | with_reducible refine x_asg ?_
  | with_reducible refine x_if ?_
  | with_reducible refine x_ret ?_
  | with_reducible refine x_next ?_
  | with_reducible refine x_expr ?_
  | with_reducible refine x_gname ?_
  | with_reducible refine x_gcons ?_
  | with_reducible refine x_gnil ?_
  | with_reducible refine x_gsub ?_
  | with_reducible refine x_c ?_
  | with_reducible refine x_op ?_
  | with_reducible refine x_call ?_
  | with_reducible refine x_cons ?_
  | with_reducible refine x_nil ?_
  | with_reducible refine x_par ?_
  | with_reducible refine x_tup ?_
  | with_reducible refine x_lst ?_
  | with_reducible refine x_b ?_
  | with_reducible refine x_tru ?_
  | with_reducible refine x_not ?_
  | with_reducible refine x_or ?_
  | with_reducible refine x_and ?_
  | with_reducible refine x_ife ?_
  | with_reducible refine x_add ?_
  | with_reducible refine x_sub ?_
  | with_reducible refine x_gtI ?_
  | with_reducible refine x_ltI ?_
  | with_reducible refine x_geI ?_
  | with_reducible refine x_leI ?_
  | with_reducible refine x_abs ?_
  | with_reducible refine x_intb ?_
  | with_reducible refine x_for ?_
  | with_reducible refine x_irange ?_
  | with_reducible refine x_lc ?_
  | with_reducible refine x_yes ?_
  | with_reducible refine x_bm ?_
  | with_reducible refine x_bm0 ?_
  | with_reducible refine x_andv ?_
  | with_reducible refine x_orv ?_
  | with_reducible refine x_notv ?_
  | with_reducible refine x_eqI ?_
  | with_reducible refine x_tystr ?_
  | ((with_reducible refine' x_gtup ?e ?_); (case e => with_unfolding_all rfl))
  | ((with_reducible refine' x_pow ?e ?_); (case e => exact ⟨by decide, by decide, by decide⟩))
  | ((with_reducible refine' x_ix ?e ?q ?_); (case e => walk_at "get"); (case q => with_unfolding_all rfl))
  | ((with_reducible refine' x_ixt ?q ?_); (case q => with_unfolding_all rfl))
  | ((with_reducible refine' x_sto ?e ?q ?_); (case e => walk_at "get"); (case q => with_unfolding_all rfl))
  | ((with_reducible refine' x_adds ?e ?_); (case e => walk_at "txt"))
  | ((with_reducible refine' x_muls ?e ?f ?g ?_); (case e => omega); (case f => omega); (case g => walk_at "txt"))
  | ((with_reducible refine' x_divmod ?e ?_); (case e => exact ⟨by omega, by omega⟩))
  | ((with_reducible refine' x_mod ?e ?_); (case e => omega))
  | ((with_reducible refine' x_fdivC ?e ?f ?_); (case e => omega); (case f => omega))
  | ((with_reducible refine' x_mulL ?e ?f ?_); (case e => omega); (case f => omega))
  | ((with_reducible refine' x_mulR ?e ?f ?_); (case e => omega); (case f => omega))
  | ((with_reducible refine' x_len ?e ?_); (case e => walk_at "sq"))
  | ((with_reducible refine' x_range ?e ?f ?_); (case e => omega); (case f => omega))
  | ((with_reducible refine' x_tylst ?e ?_); (case e => walk_at "get"))
  | ((with_reducible refine' x_append ?e ?f ?_); (case e => walk_at "get"); (case f => walk_at "size"))
  | ((with_reducible refine' And.intro ?e ?_); (case e => (show _ ≤ sizeLine; walk_at "size")))
  | ((with_reducible refine' Exists.intro _ (And.intro ?e ?_)); (case e => with_unfolding_all rfl)))
/-! ### kinds and worths -/
mutual
inductive Kn where
  | num
  | any (i : Int)
  | own (m n : Str)
  | fn (a b : Kn)
  | row (r : Bool) (ps : Kl) (q : Option Int)
inductive Kl where
  | nil
  | cons (l : Str) (k : Kn) (ps : Kl)
end
def rwS (r : Bool) : Str := if r = true then "rec" else "sum"
def oT : Option Int → T
  | none => .non
  | some i => .int i
mutual
def knT : Kn → T
  | .num => .tup [.str "num"]
  | .any i => .tup [.str "any", .int i]
  | .own m n => .tup [.str "own", .str m, .str n]
  | .fn a b => .tup [.str "fun", knT a, knT b]
  | .row r ps q => .tup [.str (rwS r), .tup (klT ps), oT q]
def klT : Kl → List T
  | .nil => []
  | .cons l k ps => .tup [.str l, knT k] :: klT ps
end
def Kl.labels : Kl → List Str
  | .nil => []
  | .cons l _ ps => l :: ps.labels
def Kl.get : Kl → Str → Option Kn
  | .nil, _ => none
  | .cons l k ps, x => if l = x then some k else ps.get x
mutual
inductive Kg (ls : List Str) : Nat → Kn → Prop
  | num {n : Nat} : Kg ls n .num
  | any {n : Nat} {i : Int} : i.natAbs ≤ 2000000 → Kg ls n (.any i)
  | own {n : Nat} {a b : Str} : Wd a → Wd b → Kg ls n (.own a b)
  | fn {n : Nat} {a b : Kn} : Kg ls n a → Kg ls n b → Kg ls (n + 1) (.fn a b)
  | row {n : Nat} {r : Bool} {ps : Kl} {q : Option Int} : ps.labels.Sublist ls → (r = false → ps.labels ≠ []) → (∀ i, q = some i → i.natAbs ≤ 2000000) → Kgs ls n ps → Kg ls (n + 1) (.row r ps q)
inductive Kgs (ls : List Str) : Nat → Kl → Prop
  | nil {n : Nat} : Kgs ls n .nil
  | cons {n : Nat} {l : Str} {w : Kn} {ps : Kl} : Kg ls n w → Kgs ls n ps → Kgs ls n (.cons l w ps)
end
/-- four labels -/
structure Lab (ls : List Str) : Prop where
  len : ls.length ≤ 4
  ne : ls ≠ []
  wd : ∀ z ∈ ls, Wd z
  up : Mi.up ls = true
theorem Lab.nodup {ls : List Str} (h : Lab ls) : ls.Nodup := up_nodup h.up
theorem up_sub {xs ls : List Str} (s : xs.Sublist ls) (h : Mi.up ls = true) : Mi.up xs = true := pw_up _ ((up_pw _ h).sublist s)
/-- a rising list of some is a part of the rising list of all -/
theorem sub_up : ∀ (ls xs : List Str), Mi.up ls = true → Mi.up xs = true → (∀ x ∈ xs, x ∈ ls) → xs.Sublist ls
  | [], [], _, _, _ => .slnil
  | [], x :: xs, _, _, h => by cases h x List.mem_cons_self
  | l :: ls, [], _, _, _ => List.nil_sublist _
  | l :: ls, x :: xs, hl, hx, h => by
    have pl := List.pairwise_cons.mp (up_pw _ hl)
    have px := List.pairwise_cons.mp (up_pw _ hx)
    have hl2 := pw_up _ pl.2
    by_cases e : x = l
    · subst e
      refine List.Sublist.cons_cons x (sub_up ls xs hl2 (pw_up _ px.2) fun y hy => ?_)
      rcases List.mem_cons.mp (h y (List.mem_cons_of_mem _ hy)) with z | z
      · exact absurd (px.1 y hy) (by rw [z, ltS_irr]; decide)
      · exact z
    · refine List.Sublist.cons l (sub_up ls (x :: xs) hl2 hx fun y hy => ?_)
      have hx1 : x ∈ ls := by
        rcases List.mem_cons.mp (h x List.mem_cons_self) with z | z
        · exact absurd z e
        · exact z
      rcases List.mem_cons.mp (h y hy) with z | z
      · subst z
        rcases List.mem_cons.mp hy with w | w
        · exact absurd w.symm e
        · have a := px.1 y w
          have b := pl.1 x hx1
          exact absurd (ltS_tr a b) (by rw [ltS_irr]; exact Bool.false_ne_true)
      · exact z
def Kn.word : Kn → Str
  | .num => "num"
  | .any _ => "any"
  | .own _ _ => "own"
  | .fn _ _ => "fun"
  | .row r _ _ => rwS r
theorem word_kn (k : Kn) : ∃ us, knT k = .tup (.str k.word :: us) := by
  cases k <;> exact ⟨_, by simp only [knT, Kn.word]; rfl⟩
end Lw

set_option Elab.async false
set_option linter.all false
set_option maxRecDepth 100000
set_option maxHeartbeats 1000000
namespace Lw
open PySem L2 Mi
variable [Tb]
local macro_rules | `(tactic| walk_at "get") => `(tactic| first | assumption | exact put_same | (refine get_new (by assumption) ?_; walk_at "get") | (refine get_ne (by assumption) ?_; walk_at "get"))
local macro_rules | `(tactic| walk_at "sq") => `(tactic| first | assumption | exact .inl rfl | exact .inr (.inl rfl) | exact .inr (.inr ⟨_, rfl, by walk_at "get"⟩))
local macro_rules | `(tactic| walk_at "size") => `(tactic| first | assumption | (simp only [List.length_cons, List.length_nil]; decide) | (have := sizeLine_eq; omega))
local macro_rules | `(tactic| walk_at "txt") => `(tactic| first | assumption | (simp only [Str.length, Str.cps_append, Array.size_append]; have := sizeLine_eq; omega))
local macro_rules | `(tactic| walk_at "go1") => `(tactic| first
  | ((with_reducible refine' x_var ?e ?_); (case e => with_unfolding_all rfl))
  | with_reducible refine x_seq ?_
  | with_reducible refine x_asg ?_
  | with_reducible refine x_if ?_
  | with_reducible refine x_ret ?_
  | with_reducible refine x_next ?_
  | with_reducible refine x_expr ?_
  | with_reducible refine x_gname ?_
  | with_reducible refine x_gcons ?_
  | with_reducible refine x_gnil ?_
  | with_reducible refine x_gsub ?_
  | with_reducible refine x_c ?_
  | with_reducible refine x_op ?_
  | with_reducible refine x_call ?_
  | with_reducible refine x_cons ?_
  | with_reducible refine x_nil ?_
  | with_reducible refine x_par ?_
  | with_reducible refine x_tup ?_
  | with_reducible refine x_lst ?_
  | with_reducible refine x_b ?_
  | with_reducible refine x_tru ?_
  | with_reducible refine x_not ?_
  | with_reducible refine x_or ?_
  | with_reducible refine x_and ?_
  | with_reducible refine x_ife ?_
  | with_reducible refine x_add ?_
  | with_reducible refine x_sub ?_
  | with_reducible refine x_gtI ?_
  | with_reducible refine x_ltI ?_
  | with_reducible refine x_geI ?_
  | with_reducible refine x_leI ?_
  | with_reducible refine x_abs ?_
  | with_reducible refine x_intb ?_
  | with_reducible refine x_for ?_
  | with_reducible refine x_irange ?_
  | with_reducible refine x_lc ?_
  | with_reducible refine x_yes ?_
  | with_reducible refine x_bm ?_
  | with_reducible refine x_bm0 ?_
  | with_reducible refine x_andv ?_
  | with_reducible refine x_orv ?_
  | with_reducible refine x_notv ?_
  | with_reducible refine x_eqI ?_
  | with_reducible refine x_tystr ?_
  | ((with_reducible refine' x_gtup ?e ?_); (case e => with_unfolding_all rfl))
  | ((with_reducible refine' x_pow ?e ?_); (case e => exact ⟨by decide, by decide, by decide⟩))
  | ((with_reducible refine' x_ix ?e ?q ?_); (case e => walk_at "get"); (case q => with_unfolding_all rfl))
  | ((with_reducible refine' x_ixt ?q ?_); (case q => with_unfolding_all rfl))
  | ((with_reducible refine' x_sto ?e ?q ?_); (case e => walk_at "get"); (case q => with_unfolding_all rfl))
  | ((with_reducible refine' x_adds ?e ?_); (case e => walk_at "txt"))
  | ((with_reducible refine' x_muls ?e ?f ?g ?_); (case e => omega); (case f => omega); (case g => walk_at "txt"))
  | ((with_reducible refine' x_divmod ?e ?_); (case e => exact ⟨by omega, by omega⟩))
  | ((with_reducible refine' x_mod ?e ?_); (case e => omega))
  | ((with_reducible refine' x_fdivC ?e ?f ?_); (case e => omega); (case f => omega))
  | ((with_reducible refine' x_mulL ?e ?f ?_); (case e => omega); (case f => omega))
  | ((with_reducible refine' x_mulR ?e ?f ?_); (case e => omega); (case f => omega))
  | ((with_reducible refine' x_len ?e ?_); (case e => walk_at "sq"))
  | ((with_reducible refine' x_range ?e ?f ?_); (case e => omega); (case f => omega))
  | ((with_reducible refine' x_tylst ?e ?_); (case e => walk_at "get"))
  | ((with_reducible refine' x_append ?e ?f ?_); (case e => walk_at "get"); (case f => walk_at "size"))
  | ((with_reducible refine' And.intro ?e ?_); (case e => (show _ ≤ sizeLine; walk_at "size")))
  | ((with_reducible refine' Exists.intro _ (And.intro ?e ?_)); (case e => with_unfolding_all rfl)))
/-! ### the world of a draw -/
theorem look_cons (x y : Str) (t : T) (r : List (Key × T)) : lookT ((.inr x, t) :: r) (.inr y) = if x = y then some t else lookT r (.inr y) := by
  by_cases h : x = y
  · subst h; simp [lookT]
  · have h2 : ¬ (Sum.inr x : Key) = Sum.inr y := fun z => h (Sum.inr.inj z)
    rw [if_neg h]
    unfold lookT
    rw [List.find?_cons_of_neg (by simpa using h2)]
theorem look_put (kvs : List (Key × T)) (k : Key) (t : T) : lookT (putT kvs k t) k = some t := by
  unfold putT
  by_cases h : (kvs.any fun kv => decide (kv.1 = k)) = true
  · rw [if_pos h]
    induction kvs with
    | nil => simp at h
    | cons p r ih =>
      by_cases e : p.1 = k
      · simp [lookT, e]
      · rw [List.map_cons, if_neg e]
        have h2 : (r.any fun kv => decide (kv.1 = k)) = true := by simpa [e] using h
        have := ih h2
        unfold lookT at this ⊢
        rw [List.find?_cons_of_neg (by simpa using e)]
        exact this
  · rw [if_neg h]
    induction kvs with
    | nil => simp [lookT]
    | cons p r ih =>
      have e : ¬ p.1 = k := fun z => h (by simp [z])
      have h2 : ¬ (r.any fun kv => decide (kv.1 = k)) = true := fun z => h (by simp [z])
      have := ih h2
      unfold lookT at this ⊢
      rw [List.cons_append, List.find?_cons_of_neg (by simpa using e)]
      exact this
theorem put_mem {kvs : List (Key × T)} {k : Key} {t : T} {p : Key × T} (h : p ∈ putT kvs k t) : p.2 = t ∨ p ∈ kvs := by
  unfold putT at h
  split at h
  · obtain ⟨q, hq, rfl⟩ := List.mem_map.mp h
    split
    · exact .inl rfl
    · exact .inr hq
  · rcases List.mem_append.mp h with z | z
    · exact .inr z
    · rw [List.mem_singleton.mp z]; exact .inl rfl
theorem put_lenT (kvs : List (Key × T)) (k : Key) (t : T) : (putT kvs k t).length ≤ kvs.length + 1 := by
  unfold putT
  split
  · rw [List.length_map]; omega
  · rw [List.length_append, List.length_singleton]; omega
theorem look_in {kvs : List (Key × T)} {k : Key} {t : T} (h : lookT kvs k = some t) : ∃ j, (j, t) ∈ kvs := by
  unfold lookT at h
  obtain ⟨p, hp, rfl⟩ := Option.map_eq_some_iff.mp h
  exact ⟨p.1, List.mem_of_find?_eq_some hp⟩
def wk (pl po pa q : Addr) (n : Int) : List (Key × T) := [(.inr "labels", .ref pl), (.inr "owns", .ref po), (.inr "anys", .ref pa), (.inr "rests", .ref q), (.inr "next", .int n)]
theorem wk_ne : ¬ Str.ofString "labels" = "owns" ∧ ¬ Str.ofString "labels" = "anys" ∧ ¬ Str.ofString "labels" = "rests" ∧ ¬ Str.ofString "labels" = "next" ∧ ¬ Str.ofString "owns" = "anys" ∧ ¬ Str.ofString "owns" = "rests" ∧ ¬ Str.ofString "owns" = "next" ∧
    ¬ Str.ofString "anys" = "rests" ∧ ¬ Str.ofString "anys" = "next" ∧ ¬ Str.ofString "rests" = "next" := by decide +kernel
section
variable {pl po pa q : Addr} {n : Int}
theorem wk_lab : lookT (wk pl po pa q n) (.inr "labels") = some (.ref pl) := by unfold wk; rw [look_cons, if_pos rfl]
theorem wk_own : lookT (wk pl po pa q n) (.inr "owns") = some (.ref po) := by unfold wk; rw [look_cons, if_neg wk_ne.1, look_cons, if_pos rfl]
theorem wk_any : lookT (wk pl po pa q n) (.inr "anys") = some (.ref pa) := by unfold wk; rw [look_cons, if_neg wk_ne.2.1, look_cons, if_neg wk_ne.2.2.2.2.1, look_cons, if_pos rfl]
theorem wk_rest : lookT (wk pl po pa q n) (.inr "rests") = some (.ref q) := by unfold wk; rw [look_cons, if_neg wk_ne.2.2.1, look_cons, if_neg wk_ne.2.2.2.2.2.1, look_cons, if_neg wk_ne.2.2.2.2.2.2.2.1, look_cons, if_pos rfl]
theorem wk_next : lookT (wk pl po pa q n) (.inr "next") = some (.int n) := by unfold wk; rw [look_cons, if_neg wk_ne.2.2.2.1, look_cons, if_neg wk_ne.2.2.2.2.2.2.1, look_cons, if_neg wk_ne.2.2.2.2.2.2.2.2.1, look_cons, if_neg wk_ne.2.2.2.2.2.2.2.2.2, look_cons, if_pos rfl]
theorem wk_put {m : Int} : putT (wk pl po pa q n) (.inr "next") (.int m) = wk pl po pa q m := by
  have ne : ∀ {x : Str}, ¬ x = Str.ofString "next" → ¬ (Sum.inr x : Key) = Sum.inr (Str.ofString "next") := fun h z => h (Sum.inr.inj z)
  unfold putT wk
  rw [if_pos (by simp), List.map_cons, if_neg (ne wk_ne.2.2.2.1), List.map_cons, if_neg (ne wk_ne.2.2.2.2.2.2.1), List.map_cons, if_neg (ne wk_ne.2.2.2.2.2.2.2.2.1), List.map_cons, if_neg (ne wk_ne.2.2.2.2.2.2.2.2.2), List.map_cons, if_pos rfl, List.map_nil]
end
structure Wrl (a w q pl po pa : Addr) (ls : List Str) (os : List (Str × Str)) (an : List Int) (G : Gp) (N : Int) : Prop where
  bx : Bx G a N
  wa : w ≠ a
  qa : q ≠ a
  la : pl ≠ a
  oa : po ≠ a
  aa : pa ≠ a
  wq : w ≠ q
  lab : G pl = some (.lst (ls.map T.str))
  own : G po = some (.lst (os.map prT))
  owd : ∀ z ∈ os, Wd z.1 ∧ Wd z.2
  any : G pa = some (.lst (an.map T.int))
  abd : ∀ i ∈ an, i.natAbs ≤ 2000000
  al : an.length ≤ 3
  ol : os.length ≤ 7
  st : ∃ (n : Int) (kvs : List (Key × T)), G w = some (.dK (wk pl po pa q n)) ∧ G q = some (.dK kvs) ∧ (∀ p ∈ kvs, ∃ i : Int, p.2 = .int i ∧ 0 ≤ i ∧ i < n) ∧ (kvs.length : Int) ≤ n ∧ 0 ≤ n ∧ n ≤ 1000008 + N
def Off (a w q pl po pa D : Addr) : Prop := D ≠ a ∧ D ≠ w ∧ D ≠ q ∧ D ≠ pl ∧ D ≠ po ∧ D ≠ pa
abbrev S3 (a w q : Addr) : Addr → Prop := fun p => p = a ∨ p = w ∨ p = q
theorem FrS.refl {S : Addr → Prop} (G : Gp) : FrS S G G := fun _ _ _ h => h
theorem FrS.new {S : Addr → Prop} {G : Gp} {p : Addr} {c : C} (h : G p = none) : FrS S G (Mi.put G p c) := fun b d _ e => get_new h e
theorem FrS.grow {S : Addr → Prop} {A B : Gp} {D : Addr} {c : C} (h : A D = none) (f : FrS S A B) : FrS S A (Mi.put B D c) := fun b d n e => by
  rw [put_ne (fun z => by rw [z, h] at e; cases e)]; exact f b d n e
section
variable {a w q pl po pa : Addr} {ls : List Str} {os : List (Str × Str)} {an : List Int} {G G' : Gp} {N M : Int}
theorem Wrl.le (h : Wrl a w q pl po pa ls os an G N) (l : N ≤ M) : Wrl a w q pl po pa ls os an G M := by
  obtain ⟨n, kvs, e1, e2, e3, e4, e5, e6⟩ := h.st
  exact { h with bx := h.bx.le l, st := ⟨n, kvs, e1, e2, e3, e4, e5, by omega⟩ }
theorem Wrl.take (h : Wrl a w q pl po pa ls os an G N) (f : Fr a G G') (b : Bx G' a M) (l : N ≤ M) : Wrl a w q pl po pa ls os an G' M := by
  obtain ⟨n, kvs, e1, e2, e3, e4, e5, e6⟩ := h.st
  exact ⟨b, h.wa, h.qa, h.la, h.oa, h.aa, h.wq, f _ _ h.la h.lab, f _ _ h.oa h.own, h.owd, f _ _ h.aa h.any, h.abd, h.al, h.ol, n, kvs, f _ _ h.wa e1, f _ _ h.qa e2, e3, e4, e5, by omega⟩
theorem Wrl.off (h : Wrl a w q pl po pa ls os an G N) {D : Addr} (hD : G D = none) : Off a w q pl po pa D := by
  obtain ⟨n, kvs, e1, e2, _⟩ := h.st
  have ne : ∀ {p : Addr} {c : C}, G p = some c → D ≠ p := fun z y => by rw [← y, hD] at z; cases z
  exact ⟨h.bx.ne hD, ne e1, ne e2, ne h.lab, ne h.own, ne h.any⟩
theorem Wrl.put (h : Wrl a w q pl po pa ls os an G N) {D : Addr} {c : C} (o : Off a w q pl po pa D) : Wrl a w q pl po pa ls os an (Mi.put G D c) N := by
  obtain ⟨n, kvs, e1, e2, e3⟩ := h.st
  obtain ⟨o1, o2, o3, o4, o5, o6⟩ := o
  have g : ∀ {p : Addr} {c' : C}, D ≠ p → G p = some c' → Mi.put G D c p = some c' := fun n z => by rw [put_ne (Ne.symm n)]; exact z
  exact ⟨h.bx.put o1, h.wa, h.qa, h.la, h.oa, h.aa, h.wq, g o4 h.lab, g o5 h.own, h.owd, g o6 h.any, h.abd, h.al, h.ol, n, kvs, g o2 e1, g o3 e2, e3⟩
theorem Wrl.new (h : Wrl a w q pl po pa ls os an G N) {D : Addr} {c : C} (hD : G D = none) : Wrl a w q pl po pa ls os an (Mi.put G D c) N := h.put (h.off hD)
theorem Off.s3 {D : Addr} (o : Off a w q pl po pa D) : ¬ S3 a w q D := fun z => by
  rcases z with z | z | z
  · exact o.1 z
  · exact o.2.1 z
  · exact o.2.2.1 z
theorem Off.get {D : Addr} {c : C} (o : Off a w q pl po pa D) (f : FrS (S3 a w q) G G') (e : G D = some c) : G' D = some c := f _ _ o.s3 e
theorem Wrl.gl (h : Wrl a w q pl po pa ls os an G N) : gtT G w (.str "labels") (some (.ref pl)) := by
  obtain ⟨n, kvs, e1, _⟩ := h.st
  exact .inl ⟨_, .inr "labels", .inl e1, rfl, wk_lab.symm⟩
theorem Wrl.go (h : Wrl a w q pl po pa ls os an G N) : gtT G w (.str "owns") (some (.ref po)) := by
  obtain ⟨n, kvs, e1, _⟩ := h.st
  exact .inl ⟨_, .inr "owns", .inl e1, rfl, wk_own.symm⟩
theorem Wrl.ga (h : Wrl a w q pl po pa ls os an G N) : gtT G w (.str "anys") (some (.ref pa)) := by
  obtain ⟨n, kvs, e1, _⟩ := h.st
  exact .inl ⟨_, .inr "anys", .inl e1, rfl, wk_any.symm⟩
theorem Wrl.gr (h : Wrl a w q pl po pa ls os an G N) : gtT G w (.str "rests") (some (.ref q)) := by
  obtain ⟨n, kvs, e1, _⟩ := h.st
  exact .inl ⟨_, .inr "rests", .inl e1, rfl, wk_rest.symm⟩
end
/-- some of the labels, as drawn: m tells the list, t the test behind the draw -/
theorem pick2_ok {k i : Nat} {r : Mi.Env} {G : Gp} {a p : Addr} {N : Int} {ls : List Str} {m : ME} {tt : MT} {R : KT} (P : Str → Prop) (h : Bx G a N) (pa : p ≠ a) (e : G p = some (.lst (ls.map T.str))) (hl : ls.length ≤ 4)
    (hm : ∀ K : KT, K (.ref p) G → m r G K)
    (ht : ∀ (x : Str) (G1 : Gp) (M : Int) (K : Bool → Gp → Prop), x ∈ ls → Fr a G G1 → Bx G1 a M → M ≤ N + 4 → (∀ b G2, (b = true → P x) → Fr a G1 G2 → Bx G2 a (M + 1) → K b G2) → tt ((wipeT r [i]).set i (some (.str x))) G1 K)
    (li : i < r.length)
    (hR : ∀ (D : Addr) (zs : List Str) (G' : Gp), D ≠ a → G D = none → G' D = some (.lst (zs.map T.str)) → zs.Sublist ls → (∀ z ∈ zs, P z) → Fr a G G' → Bx G' a (N + 4) → R (.ref D) G') :
    mLc (miSeq m) (mgName i) tt (mVar i) [i] r G R := by
  refine x_lc (x_iseq (hm _ ⟨ls.map T.str, .inr (.inl (.inr ⟨p, rfl, e⟩)), fun D hD => ?_⟩))
  have Da := h.ne hD
  refine ⟨fun j G' => ∃ zs : List Str, zs.Sublist (ls.take j) ∧ (∀ z ∈ zs, P z) ∧ G' D = some (.lst (zs.map T.str)) ∧ Fr a G G' ∧ Bx G' a (N + j), ?_, ?_, ?_, ?_⟩
  · exact ⟨[], List.nil_sublist _, fun z hz => (by cases hz), put_same, Fr.new hD, (h.new hD).le (by omega)⟩
  · intro j G' ⟨zs, _, _, _, f, _⟩ q hq
    have : q = (p, ls.map T.str) := by simpa [heldT] using hq
    subst this
    exact f _ _ pa e
  · intro j t G' ht' ⟨zs, z1, z2, z3, z4, z5⟩
    rw [List.getElem?_map] at ht'
    cases e0 : ls[j]? with
    | none => rw [e0] at ht'; cases ht'
    | some y =>
      rw [e0] at ht'
      cases ht'
      have hj := (List.getElem?_eq_some_iff.mp e0).1
      have hy : y ∈ ls := List.mem_of_getElem? e0
      have tk : ls.take (j + 1) = ls.take j ++ [y] := by rw [List.take_succ, e0]; rfl
      have zl : zs.length ≤ j := Nat.le_trans z1.length_le (by rw [List.length_take]; omega)
      refine x_gname (ht y G' _ _ hy z4 z5 (by omega) fun b G3 hb f3 B3 => ?_)
      have B3 : Bx G3 a (N + (j + 1 : Nat)) := B3.le (by omega)
      cases b with
      | true =>
        rw [if_pos rfl]
        have li : ((wipeT r [i]).set i (some (T.str y)))[i]? = some (some (T.str y)) := by
          rw [List.getElem?_set_self (by simp only [wipeT, List.length_set]; exact li)]
        refine x_var li ⟨_, f3 _ _ Da z3, by rw [List.length_map]; have := sizeLine_eq; omega, fwdG.of ⟨zs ++ [y], ?_, ?_, by rw [put_same, map_str], Fr.grow hD (z4.trans f3), B3.put Da⟩⟩
        · rw [tk]; exact z1.append (List.Sublist.refl _)
        · intro z hz
          rcases List.mem_append.mp hz with q | q
          · exact z2 z q
          · rw [List.mem_singleton.mp q]; exact hb rfl
      | false =>
        rw [if_neg Bool.false_ne_true]
        exact fwdG.of ⟨zs, by rw [tk]; exact z1.trans (List.sublist_append_left _ _), z2, f3 _ _ Da z3, z4.trans f3, B3⟩
  · intro G' ⟨zs, z1, z2, z3, z4, z5⟩
    have z5' : Bx G' a (N + ((ls.map T.str).length : Nat)) := z5
    rw [List.length_map] at z5'
    exact hR D zs G' Da hD z3 (z1.trans (List.take_sublist _ _)) z2 z4 (z5'.le (by omega))
end Lw

set_option Elab.async false
set_option linter.all false
set_option maxRecDepth 100000
set_option maxHeartbeats 1000000
namespace Lw
open PySem L2 Mi
variable [Tb]
local macro_rules | `(tactic| walk_at "get") => `(tactic| first | assumption | exact put_same | (refine get_new (by assumption) ?_; walk_at "get") | (refine get_ne (by assumption) ?_; walk_at "get"))
local macro_rules | `(tactic| walk_at "sq") => `(tactic| first | assumption | exact .inl rfl | exact .inr (.inl rfl) | exact .inr (.inr ⟨_, rfl, by walk_at "get"⟩))
local macro_rules | `(tactic| walk_at "size") => `(tactic| first | assumption | (simp only [List.length_cons, List.length_nil]; decide) | (have := sizeLine_eq; omega))
local macro_rules | `(tactic| walk_at "txt") => `(tactic| first | assumption | (simp only [Str.length, Str.cps_append, Array.size_append]; have := sizeLine_eq; omega))
local macro_rules | `(tactic| walk_at "go1") => `(tactic| first
  | ((with_reducible refine' x_var ?e ?_); (case e => with_unfolding_all rfl))
  | with_reducible refine x_seq ?_
  | with_reducible refine x_asg ?_
  | with_reducible refine x_if ?_
  | with_reducible refine x_ret ?_
  | with_reducible refine x_next ?_
  | with_reducible refine x_expr ?_
  | with_reducible refine x_gname ?_
  | with_reducible refine x_gcons ?_
  | with_reducible refine x_gnil ?_
  | with_reducible refine x_gsub ?_
  | with_reducible refine x_c ?_
  | with_reducible refine x_op ?_
  | with_reducible refine x_call ?_
  | with_reducible refine x_cons ?_
  | with_reducible refine x_nil ?_
  | with_reducible refine x_par ?_
  | with_reducible refine x_tup ?_
  | with_reducible refine x_lst ?_
  | with_reducible refine x_b ?_
  | with_reducible refine x_tru ?_
  | with_reducible refine x_not ?_
  | with_reducible refine x_or ?_
  | with_reducible refine x_and ?_
  | with_reducible refine x_ife ?_
  | with_reducible refine x_add ?_
  | with_reducible refine x_sub ?_
  | with_reducible refine x_gtI ?_
  | with_reducible refine x_ltI ?_
  | with_reducible refine x_geI ?_
  | with_reducible refine x_leI ?_
  | with_reducible refine x_abs ?_
  | with_reducible refine x_intb ?_
  | with_reducible refine x_for ?_
  | with_reducible refine x_irange ?_
  | with_reducible refine x_lc ?_
  | with_reducible refine x_yes ?_
  | with_reducible refine x_bm ?_
  | with_reducible refine x_bm0 ?_
  | with_reducible refine x_andv ?_
  | with_reducible refine x_orv ?_
  | with_reducible refine x_notv ?_
  | with_reducible refine x_eqI ?_
  | with_reducible refine x_tystr ?_
  | ((with_reducible refine' x_gtup ?e ?_); (case e => with_unfolding_all rfl))
  | ((with_reducible refine' x_pow ?e ?_); (case e => exact ⟨by decide, by decide, by decide⟩))
  | ((with_reducible refine' x_ix ?e ?q ?_); (case e => walk_at "get"); (case q => with_unfolding_all rfl))
  | ((with_reducible refine' x_ixt ?q ?_); (case q => with_unfolding_all rfl))
  | ((with_reducible refine' x_sto ?e ?q ?_); (case e => walk_at "get"); (case q => with_unfolding_all rfl))
  | ((with_reducible refine' x_adds ?e ?_); (case e => walk_at "txt"))
  | ((with_reducible refine' x_muls ?e ?f ?g ?_); (case e => omega); (case f => omega); (case g => walk_at "txt"))
  | ((with_reducible refine' x_divmod ?e ?_); (case e => exact ⟨by omega, by omega⟩))
  | ((with_reducible refine' x_mod ?e ?_); (case e => omega))
  | ((with_reducible refine' x_fdivC ?e ?f ?_); (case e => omega); (case f => omega))
  | ((with_reducible refine' x_mulL ?e ?f ?_); (case e => omega); (case f => omega))
  | ((with_reducible refine' x_mulR ?e ?f ?_); (case e => omega); (case f => omega))
  | ((with_reducible refine' x_len ?e ?_); (case e => walk_at "sq"))
  | ((with_reducible refine' x_range ?e ?f ?_); (case e => omega); (case f => omega))
  | ((with_reducible refine' x_tylst ?e ?_); (case e => walk_at "get"))
  | ((with_reducible refine' x_append ?e ?f ?_); (case e => walk_at "get"); (case f => walk_at "size"))
  | ((with_reducible refine' And.intro ?e ?_); (case e => (show _ ≤ sizeLine; walk_at "size")))
  | ((with_reducible refine' Exists.intro _ (And.intro ?e ?_)); (case e => with_unfolding_all rfl)))
theorem gt_k {G : Gp} {d : Addr} {kvs : List (Key × T)} {x : Str} (e : G d = some (.dK kvs)) : gtT G d (.str x) (lookT kvs (.inr x)) := .inl ⟨kvs, .inr x, .inl e, rfl, rfl⟩
theorem Kl.len : ∀ ps : Kl, (klT ps).length = ps.labels.length
  | .nil => by simp only [klT, Kl.labels]; rfl
  | .cons l k ps => by simp only [klT, Kl.labels, List.length_cons, ps.len]
theorem sum_le {zs : List Str} (h : ∀ z ∈ zs, z.length ≤ 8) : (zs.map (·.length)).sum ≤ 8 * zs.length := by
  induction zs with
  | nil => exact Nat.le_refl _
  | cons z r ih =>
    rw [List.map_cons, List.sum_cons, List.length_cons]
    have := ih fun x hx => h x (List.mem_cons_of_mem _ hx)
    have := h z (by simp)
    omega
/-! ### kinds as they are drawn -/
theorem join_le (a : Str) : ∀ zs : List Str, (Txt.join a zs).length ≤ (zs.map (·.length)).sum + zs.length * a.length
  | [] => by rw [TL.join_eq]; exact Nat.zero_le _
  | [z] => by rw [TL.join_eq]; simp [Str.join]
  | z :: y :: r => by
    have ih := join_le a (y :: r)
    rw [TL.join_eq] at ih ⊢
    have e : Str.join a (z :: y :: r) = z ++ a ++ Str.join a (y :: r) := rfl
    rw [e, len_app, len_app, List.map_cons, List.sum_cons, List.length_cons, Nat.add_mul]
    omega
theorem row_lab : ∀ {ps : Kl} {j : Nat} {t : T}, (klT ps)[j]? = some t → ∃ l kc, t = .tup [.str l, knT kc] ∧ ps.labels[j]? = some l
  | .nil, j, t, h => by simp [klT] at h
  | .cons l k ps, 0, t, h => by
    simp only [klT, List.getElem?_cons_zero, Option.some.injEq] at h
    exact ⟨l, k, h.symm, by simp [Kl.labels]⟩
  | .cons l k ps, j + 1, t, h => by
    simp only [klT, List.getElem?_cons_succ] at h
    obtain ⟨l2, kc, e1, e2⟩ := row_lab (ps := ps) h
    exact ⟨l2, kc, e1, by simpa [Kl.labels] using e2⟩
section
variable {a w q pl po pa : Addr} {ls : List Str} {os : List (Str × Str)} {an : List Int}
theorem rest_ok {k : Nat} {r : Bool} {ps : Kl} {G : Gp} {N : Int} {R : KT} (L : Lab ls) (h : Wrl a w q pl po pa ls os an G N) (hN : N ≤ 800000) (sub : ps.labels.Sublist ls)
    (hR : ∀ (o : Option Int) (G' : Gp), (∀ i, o = some i → i.natAbs ≤ 2000000) → FrS (S3 a w q) G G' → Wrl a w q pl po pa ls os an G' (N + 2) → R (oT o) G') : SP (k + 2) 14 [.ref a, .ref w, .str (rwS r), .tup (klT ps)] G R := by
  show spOf 7 4 (b14 (SP (k + 1))) _ _ _
  refine ⟨rfl, ?_⟩
  unfold b14
  have szl := sizeLine_eq
  with_reducible refine x_seq ?_
  with_reducible refine x_if ?_
  refine x_b (x_op (x_call (x_cons (x_var rfl (x_cons (x_c (x_nil ?_)))))))
  refine take_ok h.bx (by omega) (by omega) (by omega) fun v G1 v0 v1 f1 B1 => ?_
  have W1 := h.take f1 B1 (by omega)
  have F1 : FrS (S3 a w q) G G1 := f1.toS (.inl rfl)
  refine x_c (x_eqI ⟨_, rfl, ?_⟩)
  refine x_ite (fun _ => ?_) (fun _ => ?_)
  · refine x_ret (x_c (fwdT.of ?_))
    exact hR none G1 (fun i z => by cases z) F1 (W1.le (by omega))
  with_reducible refine x_next ?_
  with_reducible refine x_seq ?_
  have rl : ∀ r, (rwS r).length = 3 := by decide +kernel
  have l1 : (Str.ofString " ").length = 1 := by decide +kernel
  have labs : ∀ z ∈ ps.labels, z.length ≤ 8 := fun z hz => (L.wd z (sub.subset hz)).2.1
  have ln : ps.labels.length ≤ 4 := by have := sub.length_le; exact Nat.le_trans this L.len
  have sl := sum_le labs
  have jl := join_le (Str.ofString " ") ps.labels
  rw [l1] at jl
  refine x_asg (x_op (x_op (x_var rfl (x_c (x_adds (by rw [rl, l1]; omega) ?_)))))
  refine x_bm (x_c ⟨rfl, x_cons ?_⟩)
  refine x_lc (x_iseq (x_var rfl ⟨klT ps, .inl rfl, fun D hD => ?_⟩))
  have oD := W1.off hD
  refine ⟨fun j G' => G' D = some (.lst ((ps.labels.take j).map T.str)) ∧ Ext G1 G', ⟨put_same, Ext.new hD⟩, fun j G' _ q hq => (by cases hq), ?_, ?_⟩
  · intro j t G' ht ⟨w1, w2⟩
    obtain ⟨l, kc, rfl, el⟩ := row_lab ht
    refine x_gtup rfl (x_gcons (x_gname (x_gcons (x_gname (x_gnil (x_yes ?_))))))
    rw [if_pos rfl]
    refine x_var rfl ⟨_, w1, ?_, fwdG.of ⟨?_, Ext.grow hD w2⟩⟩
    · rw [List.length_map, List.length_take]; omega
    · rw [put_same, List.take_succ, el]; simp
  intro G2 ⟨e2, f2⟩
  have e2 : G2 D = some (.lst ((ps.labels.take (klT ps).length).map T.str)) := e2
  rw [Kl.len, List.take_length] at e2
  have W2 : Wrl a w q pl po pa ls os an G2 (N + 1) := W1.take f2.fr (by obtain ⟨b0, b1, b2, z, zz⟩ := W1.bx; exact ⟨b0, b1, b2, f2 _ _ z, zz⟩) (by omega)
  have F2 : FrS (S3 a w q) G G2 := F1.trans (f2.fr.toS (a := a) (.inl rfl))
  refine x_nil ⟨_, _, ps.labels, rfl, rfl, .inr (.inr ⟨D, rfl, e2⟩), by rw [l1]; omega, ?_⟩
  refine x_adds (by rw [len_app, rl, l1]; omega) (x_gname ?_)
  generalize rwS r ++ Str.ofString " " ++ Txt.join (Str.ofString " ") ps.labels = spot
  obtain ⟨n, kvs, s1, s2, s3, s4, s5, s6⟩ := W2.st
  have kz : kvs.length < sizeLine := by rw [szl]; omega
  -- the last line
  have last : ∀ (M : MEnds) (x5 x6 : Option T) (G3 : Gp) (kv3 : List (Key × T)) (i : Int), M.rt = fwdT R → Wrl a w q pl po pa ls os an G3 (N + 2) → G3 q = some (.dK kv3) → lookT kv3 (.inr spot) = some (.int i) → i.natAbs ≤ 2000000 → FrS (S3 a w q) G G3 →
      msRet (mDGet (mDGet (mVar 1) (mC (.str "rests"))) (mVar 4)) M [some (.ref a), some (.ref w), some (.str (rwS r)), some (.tup (klT ps)), some (.str spot), x5, x6] G3 := fun M x5 x6 G3 kv3 i eM W3 eq3 lk il F3 => by
    refine x_ret (x_dget (x_dget (x_var rfl (x_c ⟨w, _, rfl, W3.gr, x_var rfl ⟨q, .int i, rfl, ?_, ?_⟩⟩))))
    · have := gt_k (x := spot) eq3
      rw [lk] at this; exact this
    · rw [eM]
      exact fwdT.of (hR (some i) G3 (fun j z => by cases z; exact il) F3 W3)
  with_reducible refine x_seq ?_
  with_reducible refine x_if ?_
  refine x_b (x_dnin (x_var rfl (x_dget (x_var rfl (x_c ⟨w, _, rfl, W2.gr, q, _, rfl, gt_k s2, _, rfl, ?_⟩)))))
  cases hl : lookT kvs (.inr spot) with
  | some t =>
    refine x_iteF rfl (x_next ?_)
    obtain ⟨j, hj⟩ := look_in hl
    obtain ⟨i, ei, i0, i1⟩ := s3 _ hj
    have ei : t = .int i := ei
    subst ei
    exact last _ _ _ G2 kvs i rfl (W2.le (by omega)) s2 hl (by omega) F2
  | none =>
    refine x_iteT rfl ?_
    refine x_asg (x_tup (x_cons (x_dget (x_var rfl (x_c ⟨w, _, rfl, .inl ⟨_, .inr "next", .inl s1, rfl, wk_next.symm⟩, ?_⟩)))))
    refine x_cons (x_op (x_dget (x_var rfl (x_c ⟨w, _, rfl, .inl ⟨_, .inr "next", .inl s1, rfl, wk_next.symm⟩, x_c (x_add (x_nil ⟨by show 2 ≤ sizeLine; decide, ?_⟩))⟩))))
    refine x_gtup rfl (x_gcons (x_gsub (x_dget (x_var rfl (x_c ⟨w, _, rfl, W2.gr, x_var rfl ⟨q, _, rfl, .inl ⟨kvs, .inr spot, s2, rfl, kz, rfl⟩, ?_⟩⟩)))))
    have W3w : Mi.put G2 q (.dK (putT kvs (.inr spot) (.int n))) w = some (.dK (wk pl po pa q n)) := by rw [put_ne W2.wq]; exact s1
    refine x_gcons (x_gsub (x_var rfl (x_c ⟨w, _, rfl, .inl ⟨_, .inr "next", W3w, rfl, by show 5 < sizeLine; decide, rfl⟩, x_gnil ?_⟩)))
    rw [wk_put]
    have eq4 : Mi.put (Mi.put G2 q (.dK (putT kvs (.inr spot) (.int n)))) w (.dK (wk pl po pa q (n + 1))) q = some (.dK (putT kvs (.inr spot) (.int n))) := by rw [put_ne (Ne.symm W2.wq)]; exact put_same
    have F4 : FrS (S3 a w q) G (Mi.put (Mi.put G2 q (.dK (putT kvs (.inr spot) (.int n)))) w (.dK (wk pl po pa q (n + 1)))) := F2.trans ((FrS.put (.inr (.inr rfl))).trans (FrS.put (.inr (.inl rfl))))
    refine last _ _ _ _ _ n rfl ?_ eq4 (look_put _ _ _) (by omega) F4
    have g : ∀ {p : Addr} {ts : List T}, G2 p = some (.lst ts) → Mi.put (Mi.put G2 q (.dK (putT kvs (.inr spot) (.int n)))) w (.dK (wk pl po pa q (n + 1))) p = some (.lst ts) := fun {p ts} z => by
      rw [put_ne (fun y => by rw [y, s1] at z; cases z), put_ne (fun y => by rw [y, s2] at z; cases z)]; exact z
    refine ⟨((W2.bx.put W2.qa).put W2.wa).le (by omega), W2.wa, W2.qa, W2.la, W2.oa, W2.aa, W2.wq, g W2.lab, g W2.own, W2.owd, g W2.any, W2.abd, W2.al, W2.ol, n + 1, _, put_same, eq4, fun p hp => ?_, ?_, by omega, by omega⟩
    · rcases put_mem hp with z | z
      · exact ⟨n, z, by omega, by omega⟩
      · obtain ⟨i, e, i0, i1⟩ := s3 p z
        exact ⟨i, e, i0, by omega⟩
    · have := put_lenT kvs (.inr spot) (.int n); omega
end
end Lw

set_option Elab.async false
set_option linter.all false
set_option maxRecDepth 100000
set_option maxHeartbeats 1000000
namespace Lw
open PySem L2 Mi
variable [Tb]
local macro_rules | `(tactic| walk_at "get") => `(tactic| first | assumption | exact put_same | (refine get_new (by assumption) ?_; walk_at "get") | (refine get_ne (by assumption) ?_; walk_at "get"))
local macro_rules | `(tactic| walk_at "sq") => `(tactic| first | assumption | exact .inl rfl | exact .inr (.inl rfl) | exact .inr (.inr ⟨_, rfl, by walk_at "get"⟩))
local macro_rules | `(tactic| walk_at "size") => `(tactic| first | assumption | (simp only [List.length_cons, List.length_nil]; decide) | (have := sizeLine_eq; omega))
local macro_rules | `(tactic| walk_at "txt") => `(tactic| first | assumption | (simp only [Str.length, Str.cps_append, Array.size_append]; have := sizeLine_eq; omega))
local macro_rules | `(tactic| walk_at "go1") => `(tactic| first
  | ((with_reducible refine' x_var ?e ?_); (case e => with_unfolding_all rfl))
  | with_reducible refine x_seq ?_
  | with_reducible refine x_asg ?_
  | with_reducible refine x_if ?_
  | with_reducible refine x_ret ?_
  | with_reducible refine x_next ?_
  | with_reducible refine x_expr ?_
  | with_reducible refine x_gname ?_
  | with_reducible refine x_gcons ?_
  | with_reducible refine x_gnil ?_
  | with_reducible refine x_gsub ?_
  | with_reducible refine x_c ?_
  | with_reducible refine x_op ?_
  | with_reducible refine x_call ?_
  | with_reducible refine x_cons ?_
  | with_reducible refine x_nil ?_
  | with_reducible refine x_par ?_
  | with_reducible refine x_tup ?_
  | with_reducible refine x_lst ?_
  | with_reducible refine x_b ?_
  | with_reducible refine x_tru ?_
  | with_reducible refine x_not ?_
  | with_reducible refine x_or ?_
  | with_reducible refine x_and ?_
  | with_reducible refine x_ife ?_
  | with_reducible refine x_add ?_
  | with_reducible refine x_sub ?_
  | with_reducible refine x_gtI ?_
  | with_reducible refine x_ltI ?_
  | with_reducible refine x_geI ?_
  | with_reducible refine x_leI ?_
  | with_reducible refine x_abs ?_
  | with_reducible refine x_intb ?_
  | with_reducible refine x_for ?_
  | with_reducible refine x_irange ?_
  | with_reducible refine x_lc ?_
  | with_reducible refine x_yes ?_
  | with_reducible refine x_bm ?_
  | with_reducible refine x_bm0 ?_
  | with_reducible refine x_andv ?_
  | with_reducible refine x_orv ?_
  | with_reducible refine x_notv ?_
  | with_reducible refine x_eqI ?_
  | with_reducible refine x_tystr ?_
  | ((with_reducible refine' x_gtup ?e ?_); (case e => with_unfolding_all rfl))
  | ((with_reducible refine' x_pow ?e ?_); (case e => exact ⟨by decide, by decide, by decide⟩))
  | ((with_reducible refine' x_ix ?e ?q ?_); (case e => walk_at "get"); (case q => with_unfolding_all rfl))
  | ((with_reducible refine' x_ixt ?q ?_); (case q => with_unfolding_all rfl))
  | ((with_reducible refine' x_sto ?e ?q ?_); (case e => walk_at "get"); (case q => with_unfolding_all rfl))
  | ((with_reducible refine' x_adds ?e ?_); (case e => walk_at "txt"))
  | ((with_reducible refine' x_muls ?e ?f ?g ?_); (case e => omega); (case f => omega); (case g => walk_at "txt"))
  | ((with_reducible refine' x_divmod ?e ?_); (case e => exact ⟨by omega, by omega⟩))
  | ((with_reducible refine' x_mod ?e ?_); (case e => omega))
  | ((with_reducible refine' x_fdivC ?e ?f ?_); (case e => omega); (case f => omega))
  | ((with_reducible refine' x_mulL ?e ?f ?_); (case e => omega); (case f => omega))
  | ((with_reducible refine' x_mulR ?e ?f ?_); (case e => omega); (case f => omega))
  | ((with_reducible refine' x_len ?e ?_); (case e => walk_at "sq"))
  | ((with_reducible refine' x_range ?e ?f ?_); (case e => omega); (case f => omega))
  | ((with_reducible refine' x_tylst ?e ?_); (case e => walk_at "get"))
  | ((with_reducible refine' x_append ?e ?f ?_); (case e => walk_at "get"); (case f => walk_at "size"))
  | ((with_reducible refine' And.intro ?e ?_); (case e => (show _ ≤ sizeLine; walk_at "size")))
  | ((with_reducible refine' Exists.intro _ (And.intro ?e ?_)); (case e => with_unfolding_all rfl)))
theorem beq_dec (x y : Str) : (x == y) = decide (x = y) := by
  by_cases h : x = y
  · subst h; rw [decide_eq_true rfl]; exact beq_self_eq_true x
  · rw [decide_eq_false h]; exact beq_eq_false_iff_ne.mpr h
theorem x_eqD {x y : Str} {G : Gp} {R : KT} (c : SeqAt.shaped (.str x) = true) (c2 : SeqAt.shaped (.str y) = true) (h : R (.bl (decide (x = y))) G) : oEq (.str x) (.str y) G R := x_eqSb c c2 (beq_dec x y) h
/-! ### kinds, on and on -/
def Ck : Nat → Int
  | 0 => 10
  | d + 1 => 4 * Ck d + 40
theorem Ck_pos : ∀ d, 10 ≤ Ck d
  | 0 => by decide
  | d + 1 => by have := Ck_pos d; unfold Ck; omega
theorem Cs4 (C : Int) : Cs C 4 = 4 * C + 4 := by simp only [Cs]; omega
def Kl.app : Kl → Str → Kn → Kl
  | .nil, l, k => .cons l k .nil
  | .cons x y ps, l, k => .cons x y (ps.app l k)
theorem Kl.app_T : ∀ (ps : Kl) (l : Str) (k : Kn), klT (ps.app l k) = klT ps ++ [.tup [.str l, knT k]]
  | .nil, l, k => by simp only [Kl.app, klT]; rfl
  | .cons x y ps, l, k => by simp only [Kl.app, klT, Kl.app_T ps l k]; rfl
theorem Kl.app_labels : ∀ (ps : Kl) (l : Str) (k : Kn), (ps.app l k).labels = ps.labels ++ [l]
  | .nil, l, k => rfl
  | .cons x y ps, l, k => by simp only [Kl.app, Kl.labels, Kl.app_labels ps l k, List.cons_append]
theorem Kgs.app {ls : List Str} {n : Nat} : ∀ {ps : Kl} {l : Str} {k : Kn}, Kgs ls n ps → Kg ls n k → Kgs ls n (ps.app l k)
  | .nil, l, k, _, h => .cons h .nil
  | .cons x y ps, l, k, .cons a b, h => .cons a (Kgs.app b h)
theorem x_eqNilD {p r : Addr} {G : Gp} {ts : List T} {ds : List PyData} {R : KT} (e : G p = some (.lst ts)) (e2 : G r = some (.lst [])) (hd : DtAll G ts ds) (sh : SeqAt.shaped (.list ds) = true) (ne : ds ≠ []) (h : R (.bl false) G) : oEq (.ref p) (.ref r) G R := by
  refine ⟨.list ds, .list [], .lst (.inr ⟨p, rfl, e⟩) hd, .lst (.inr ⟨r, rfl, e2⟩) .nil, sh, by decide +kernel, ?_⟩
  have : PyData.eqv (.list ds) (.list []) = false := by
    cases ds with
    | nil => exact absurd rfl ne
    | cons _ _ => rfl
  rw [this]; exact h
theorem x_eqNilI {p r : Addr} {G : Gp} {an : List Int} {R : KT} (e : G p = some (.lst (an.map T.int))) (e2 : G r = some (.lst [])) (hl : an.length ≤ 3) (h : R (.bl an.isEmpty) G) : oEq (.ref p) (.ref r) G R := by
  have dt : DtAll G (an.map T.int) (an.map PyData.int) := by
    clear e hl h
    induction an with
    | nil => exact .nil
    | cons x xs ih => exact .cons (.int x) ih
  have sh : SeqAt.shaped (.list (an.map PyData.int)) = true := by
    match an, hl with
    | [], _ => rfl
    | [x], _ => rfl
    | [x, y], _ => rfl
    | [x, y, z], _ => rfl
  refine ⟨.list (an.map .int), .list [], .lst (.inr ⟨p, rfl, e⟩) dt, .lst (.inr ⟨r, rfl, e2⟩) .nil, sh, by decide +kernel, ?_⟩
  have : PyData.eqv (.list (an.map .int)) (.list []) = an.isEmpty := by cases an <;> rfl
  rw [this]; exact h
section
variable {a w q pl po pa : Addr} {ls : List Str} {os : List (Str × Str)} {an : List Int}
def KindOk (a w q pl po pa : Addr) (ls : List Str) (os : List (Str × Str)) (an : List Int) (k d : Nat) : Prop := ∀ (G : Gp) (N : Int) (R : KT), Wrl a w q pl po pa ls os an G N → N + Ck d ≤ 800000 →
  (∀ (kd : Kn) (G' : Gp), Kg ls d kd → FrS (S3 a w q) G G' → Wrl a w q pl po pa ls os an G' (N + Ck d) → R (knT kd) G') → SP k 15 [.ref a, .ref w, .int ((d + 1 : Nat) : Int)] G R
theorem kpairs_ok {k d : Nat} {G : Gp} {N least : Int} {R : KT} (L : Lab ls) (IH : KindOk a w q pl po pa ls os an (k + 1) d) (h : Wrl a w q pl po pa ls os an G N) (hN : N + 10 + Cs (Ck d) 4 ≤ 800000) (hl : least = 0 ∨ least = 1)
    (hR : ∀ (ps : Kl) (G' : Gp), ps.labels.Sublist ls → (least = 1 → ps.labels ≠ []) → Kgs ls d ps → FrS (S3 a w q) G G' → Wrl a w q pl po pa ls os an G' (N + 10 + Cs (Ck d) 4) → R (.tup (klT ps)) G') :
    SP (k + 2) 13 [.ref a, .ref w, .int ((d + 1 : Nat) : Int), .int least] G R := by
  show spOf 6 4 (b13 (SP (k + 1))) _ _ _
  refine ⟨rfl, ?_⟩
  unfold b13
  have szl := sizeLine_eq
  have cp := Ck_pos d
  rw [Cs4] at hN
  have hN2 : N + 14 ≤ 800000 := by omega
  -- what follows, with some labels
  have main : ∀ (D : Addr) (zs : List Str) (G1 : Gp), Off a w q pl po pa D → G1 D = some (.lst (zs.map T.str)) → zs.Sublist ls → (least = 1 → zs ≠ []) → FrS (S3 a w q) G G1 → Wrl a w q pl po pa ls os an G1 (N + 10) →
      msRet (mCall omTuple (maCons (mLc (miSeq (mVar 4)) (mgName 5) mtYes (mTup (maCons (mVar 5) (maCons (mCall (SP (k + 1) 15) (maCons (mVar 0) (maCons (mVar 1) (maCons (mVar 2) maNil)))) maNil))) [5]) maNil)) { nx := fun _ G' => fwdT R T.non G', rt := fwdT R }
        [some (.ref a), some (.ref w), some (.int ((d + 1 : Nat) : Int)), some (.int least), some (.ref D), none] G1 := by
    intro D zs G1 oD eD sub hne F1 W1
    have zl : zs.length ≤ 4 := by have := sub.length_le; exact Nat.le_trans this L.len
    refine x_ret (x_call (x_cons ?_))
    refine x_lc (x_iseq (x_var rfl ⟨zs.map T.str, .inr (.inl (.inr ⟨D, rfl, eD⟩)), fun D2 hD2 => ?_⟩))
    have oD2 := W1.off hD2
    have DD : D ≠ D2 := fun z => by rw [z, hD2] at eD; cases eD
    refine ⟨fun i G' => ∃ ps : Kl, ps.labels = zs.take i ∧ Kgs ls d ps ∧ G' D2 = some (.lst (klT ps)) ∧ FrS (S3 a w q) G1 G' ∧ Wrl a w q pl po pa ls os an G' (N + 10 + Cs (Ck d) i), ?_, ?_, ?_, ?_⟩
    · exact ⟨.nil, rfl, .nil, by rw [put_same]; rfl, FrS.new hD2, (W1.new hD2).le (by simp only [Cs]; omega)⟩
    · intro j G' ⟨ps, _, _, _, f, _⟩ q' hq
      have : q' = (D, zs.map T.str) := by simpa [heldT] using hq
      subst this
      exact f _ _ oD.s3 eD
    · intro i t G' ht ⟨ps, w1, w3, w4, w5, w6⟩
      rw [List.getElem?_map] at ht
      cases e0 : zs[i]? with
      | none => rw [e0] at ht; cases ht
      | some y =>
        rw [e0] at ht
        cases ht
        have hi := (List.getElem?_eq_some_iff.mp e0).1
        have c1 := Cs_le (C := Ck d) (by omega) (n := i + 1) (m := 4) (by omega)
        rw [Cs4] at c1
        have c2 : Cs (Ck d) (i + 1) = Cs (Ck d) i + (Ck d + 1) := rfl
        refine x_gname (x_yes ?_)
        rw [if_pos rfl]
        refine x_tup (x_cons (x_var rfl (x_cons (x_call (x_cons (x_var rfl (x_cons (x_var rfl (x_cons (x_var rfl (x_nil ?_)))))))))))
        refine IH G' _ _ w6 (by omega) fun kd G3 hk f3 W3 => x_nil ⟨by show 2 ≤ sizeLine; decide, ?_⟩
        refine ⟨_, oD2.get f3 w4, ?_, fwdG.of ⟨ps.app y kd, ?_, w3.app hk, by rw [put_same, Kl.app_T], FrS.grow hD2 (w5.trans f3), (W3.put oD2).le (by omega)⟩⟩
        · rw [Kl.len, w1, List.length_take]; omega
        · rw [Kl.app_labels, w1, List.take_succ, e0]; rfl
    · intro G' ⟨ps, w1, w3, w4, w5, w6⟩
      have w1 : ps.labels = zs.take (zs.map T.str).length := w1
      rw [List.length_map, List.take_length] at w1
      have w6 : Wrl a w q pl po pa ls os an G' (N + 10 + Cs (Ck d) (zs.map T.str).length) := w6
      rw [List.length_map] at w6
      have c1 := Cs_le (C := Ck d) (by omega) (n := zs.length) (m := 4) (by omega)
      refine x_nil (x_tuple (.inr (.inr ⟨D2, rfl, w4⟩)) (by rw [Kl.len, w1]; omega) (fwdT.of ?_))
      exact hR ps G' (by rw [w1]; exact sub) (fun z => by rw [w1]; exact hne z) w3 (F1.trans w5) (w6.le (by omega))
  with_reducible refine x_seq ?_
  with_reducible refine x_asg ?_
  refine pick2_ok (k := k) (fun _ => True) h.bx h.la h.lab L.len (fun K kk => x_dget (x_var rfl (x_c ⟨w, _, rfl, h.gl, kk⟩))) (fun x G1 M K hx f1 B1 hM kk => ?_) (by simp) fun D zs G1 Da hD eD sub _ f1 B1 => ?_
  · refine x_b (x_op (x_call (x_cons (x_var rfl (x_cons (x_c (x_nil ?_)))))))
    refine take_ok B1 (by omega) (by omega) (by omega) fun v G3 v0 v1 f3 B3 => ?_
    exact x_c (x_eqI ⟨_, rfl, kk _ G3 (fun _ => trivial) f3 B3⟩)
  have oD := h.off hD
  have W1 := h.take f1 B1 (by omega)
  have F1 : FrS (S3 a w q) G G1 := f1.toS (.inl rfl)
  refine x_gname ?_
  with_reducible refine x_seq ?_
  with_reducible refine x_if ?_
  refine x_b (x_op (x_call (x_cons (x_var rfl (x_nil (x_len (.inr (.inr ⟨D, rfl, eD⟩)) (x_var rfl (x_ltI ⟨_, rfl, ?_⟩))))))))
  rw [List.length_map]
  refine x_ite (fun c => ?_) (fun c => ?_)
  · have c := of_decide_eq_true c
    refine x_asg (x_lst (x_cons (x_op (x_dget (x_var rfl (x_c ⟨w, _, rfl, W1.gl, ?_⟩))))))
    refine x_call (x_cons (x_var rfl (x_cons (x_call (x_cons (x_dget (x_var rfl (x_c ⟨w, _, rfl, W1.gl, ?_⟩))))))))
    refine x_nil (x_len (.inr (.inr ⟨pl, rfl, W1.lab⟩)) (x_nil ?_))
    rw [List.length_map]
    have lp : 0 < ls.length := List.length_pos_iff.mpr L.ne
    have lq := L.len
    refine take_ok W1.bx (by omega) (by omega) (by omega) fun v G2 v0 v1 f2 B2 => ?_
    have W2 := W1.take f2 B2 (by omega)
    obtain ⟨u, eu, mu⟩ := atI_nat (xs := ls.map T.str) v0 (by rw [List.length_map]; exact v1)
    obtain ⟨x, hx, rfl⟩ := List.mem_map.mp mu
    refine x_ix W2.lab eu (x_nil ⟨by show 1 ≤ sizeLine; decide, fun D3 hD3 => x_gname ?_⟩)
    refine main D3 [x] _ (W2.off hD3) put_same (List.singleton_sublist.mpr hx) (fun _ => by simp) (F1.trans ((f2.toS (.inl rfl)).trans (FrS.new hD3))) ((W2.new hD3).le (by omega))
  · have c := of_decide_eq_false c
    refine x_next (main D zs G1 oD eD sub (fun z => ?_) F1 (W1.le (by omega)))
    rintro rfl
    rcases hl with h0 | h0
    · omega
    · exact c (by show ((0 : Nat) : Int) < least; omega)
theorem kind_step {k d : Nat} (L : Lab ls) (IH : ∀ d' k', d = d' + 1 → k' ≤ k + 2 → 2 * d' + 3 ≤ k' → KindOk a w q pl po pa ls os an k' d') (hk : 2 * d + 3 ≤ k + 3) : KindOk a w q pl po pa ls os an (k + 3) d := by
  intro G N R h hN hR
  show spOf 7 3 (b15 (SP (k + 2))) _ _ _
  refine ⟨rfl, ?_⟩
  unfold b15
  have szl := sizeLine_eq
  have cp := Ck_pos d
  with_reducible refine x_seq ?_
  with_reducible refine x_asg ?_
  -- the way is drawn
  have way : ∀ K : KT, (∀ (v : Int) (G1 : Gp), 0 ≤ v → v < 8 → (3 ≤ v → 1 ≤ d) → FrS (S3 a w q) G G1 → Wrl a w q pl po pa ls os an G1 (N + 1) → K (.int v) G1) → mIf (mB (mOp oGtU (mVar 2) (mC (.int 1)))) (mCall (SP (k + 2) 7) (maCons (mVar 0) (maCons (mC (.int 8)) maNil))) (mCall (SP (k + 2) 7) (maCons (mVar 0) (maCons (mC (.int 3)) maNil)))
      (List.map some [T.ref a, .ref w, .int ((d + 1 : Nat) : Int)] ++ List.replicate (7 - 3) none) G K := by
    intro K kk
    refine x_ife (x_b (x_op (x_var rfl (x_c (x_gtI ⟨_, rfl, ?_⟩)))))
    refine x_ite (fun c => ?_) (fun c => ?_)
    · have c := of_decide_eq_true c
      refine x_call (x_cons (x_var rfl (x_cons (x_c (x_nil ?_)))))
      exact take_ok h.bx (by omega) (by omega) (by omega) fun v G1 v0 v1 f1 B1 => kk v G1 v0 v1 (fun _ => by omega) (f1.toS (.inl rfl)) (h.take f1 B1 (by omega))
    · refine x_call (x_cons (x_var rfl (x_cons (x_c (x_nil ?_)))))
      exact take_ok h.bx (by omega) (by omega) (by omega) fun v G1 v0 v1 f1 B1 => kk v G1 v0 (by omega) (fun _ => by omega) (f1.toS (.inl rfl)) (h.take f1 B1 (by omega))
  refine way _ fun v G1 v0 v8 vd F1 W1 => x_gname ?_
  with_reducible refine x_seq ?_
  with_reducible refine x_if ?_
  -- way 0, or no anys, or no owns
  refine x_or (x_b (x_op (x_var rfl (x_c (x_eqI ⟨_, rfl, ?_⟩)))))
  refine x_ite (fun c => ?_) (fun c0 => ?_)
  · refine x_iteT rfl (x_ret (x_tup (x_cons (x_c (x_nil ⟨by show 1 ≤ sizeLine; decide, fwdT.of ?_⟩)))))
    have := hR .num G1 .num F1 (W1.le (by omega))
    simp only [knT] at this
    exact this
  have c0 := of_decide_eq_false c0
  have ruleA : ∀ K : Bool → Gp → Prop, (∀ b G2, Ext G1 G2 → Wrl a w q pl po pa ls os an G2 (N + 1) → FrS (S3 a w q) G G2 → (b = false → (v = 1 → an ≠ []) ∧ (v = 2 → os ≠ [])) → K b G2) → tmOr (tmAnd (mB (mOp oEq (mVar 3) (mC (.int 1)))) (mB (mOp oEq (mDGet (mVar 1) (mC (.str "anys"))) (mLst maNil)))) (tmAnd (mB (mOp oEq (mVar 3) (mC (.int 2)))) (mB (mOp oEq (mDGet (mVar 1) (mC (.str "owns"))) (mLst maNil)))) [some (.ref a), some (.ref w), some (.int ((d + 1 : Nat) : Int)), some (.int v), none, none, none] G1 K := by
    intro K kk
    refine x_or (x_and (x_b (x_op (x_var rfl (x_c (x_eqI ⟨_, rfl, ?_⟩))))))
    refine x_ite (fun c => ?_) (fun c1 => ?_)
    · have c := of_decide_eq_true c
      refine x_b (x_op (x_dget (x_var rfl (x_c ⟨w, _, rfl, W1.ga, x_lst (x_nil ⟨by show 0 ≤ sizeLine; decide, fun e he => ?_⟩)⟩))))
      refine x_eqNilI (get_new he W1.any) put_same W1.al ⟨_, rfl, ?_⟩
      cases ean : an with
      | nil => exact x_iteT rfl (kk true _ (Ext.new he) (W1.new he) (F1.trans (FrS.new he)) (fun z => nomatch z))
      | cons a0 ar =>
      refine x_iteF rfl (x_and (x_b (x_op (x_var rfl (x_c (x_eqI ⟨_, rfl, ?_⟩))))))
      refine x_iteF (decide_eq_false (by omega)) ?_
      exact kk false _ (Ext.new he) (W1.new he) (F1.trans (FrS.new he)) fun _ => ⟨fun _ z => (by rw [ean] at z; cases z), fun z => (by omega)⟩
    · have c1 := of_decide_eq_false c1
      refine x_iteF rfl (x_and (x_b (x_op (x_var rfl (x_c (x_eqI ⟨_, rfl, ?_⟩))))))
      refine x_ite (fun c => ?_) (fun c => ?_)
      · refine x_b (x_op (x_dget (x_var rfl (x_c ⟨w, _, rfl, W1.go, x_lst (x_nil ⟨by show 0 ≤ sizeLine; decide, fun e he => ?_⟩)⟩))))
        refine x_eqNilP (zs := os) (get_new he W1.own) put_same W1.owd ⟨_, rfl, ?_⟩
        refine kk _ _ (Ext.new he) (W1.new he) (F1.trans (FrS.new he)) fun e => ⟨fun z => absurd z c1, fun _ z => ?_⟩
        rw [z] at e; cases e
      · exact kk false G1 (Ext.refl _) W1 F1 fun _ => ⟨fun z => absurd z c1, fun z => absurd z (of_decide_eq_false c)⟩
  refine ruleA _ fun b G2 f2 W2 F2 hne => ?_
  cases b with
  | true =>
    refine x_iteT rfl (x_ret (x_tup (x_cons (x_c (x_nil ⟨by show 1 ≤ sizeLine; decide, fwdT.of ?_⟩)))))
    have := hR .num G2 .num F2 (W2.le (by omega))
    simp only [knT] at this
    exact this
  | false =>
  obtain ⟨hna, hno⟩ := hne rfl
  refine x_iteF rfl (x_next ?_)
  with_reducible refine x_seq ?_
  with_reducible refine x_if ?_
  refine x_b (x_op (x_var rfl (x_c (x_eqI ⟨_, rfl, ?_⟩))))
  refine x_ite (fun c => ?_) (fun c1 => ?_)
  · refine x_ret (x_tup (x_cons (x_c (x_cons (x_call (x_cons (x_var rfl (x_cons (x_dget (x_var rfl (x_c ⟨w, _, rfl, W2.ga, x_nil ?_⟩)))))))))))
    have v1e := of_decide_eq_true c
    have ln : 1 ≤ (an.map T.int).length := by rw [List.length_map]; exact List.length_pos_iff.mpr (hna v1e)
    have lm : (an.map T.int).length ≤ 3 := by rw [List.length_map]; exact W2.al
    refine of_ok W2.bx (by omega) (.inr (.inr ⟨pa, W2.aa, rfl, W2.any⟩)) ln (by omega) fun t G3 ht f3 B3 => ?_
    refine x_nil ⟨by show 2 ≤ sizeLine; decide, fwdT.of ?_⟩
    obtain ⟨i, hin, rfl⟩ := List.mem_map.mp ht
    have hi := W2.abd i hin
    have := hR (.any i) G3 (.any hi) (F2.trans (f3.toS (.inl rfl))) ((W2.take f3 B3 (by omega)).le (by omega))
    simp only [knT] at this
    exact this
  have c1 := of_decide_eq_false c1
  with_reducible refine x_next ?_
  with_reducible refine x_seq ?_
  with_reducible refine x_if ?_
  refine x_b (x_op (x_var rfl (x_c (x_eqI ⟨_, rfl, ?_⟩))))
  refine x_ite (fun c => ?_) (fun c2 => ?_)
  · refine x_ret (x_op (x_tup (x_cons (x_c (x_nil ⟨by show 1 ≤ sizeLine; decide, ?_⟩)))))
    refine x_call (x_cons (x_var rfl (x_cons (x_dget (x_var rfl (x_c ⟨w, _, rfl, W2.go, x_nil ?_⟩))))))
    have v2e := of_decide_eq_true c
    have ln : 1 ≤ (os.map prT).length := by rw [List.length_map]; exact List.length_pos_iff.mpr (hno v2e)
    have lm : (os.map prT).length ≤ 7 := by rw [List.length_map]; exact W2.ol
    refine of_ok W2.bx (by omega) (.inr (.inr ⟨po, W2.oa, rfl, W2.own⟩)) ln (by omega) fun t G3 ht f3 B3 => ?_
    obtain ⟨⟨ox, oy⟩, hin, rfl⟩ := List.mem_map.mp ht
    obtain ⟨wx, wy⟩ := W2.owd _ hin
    refine x_catT (by show 3 ≤ sizeLine; decide) (fwdT.of ?_)
    have := hR (.own ox oy) G3 (.own wx wy) (F2.trans (f3.toS (.inl rfl))) ((W2.take f3 B3 (by omega)).le (by omega))
    simp only [knT] at this
    exact this
  have c2 := of_decide_eq_false c2
  have d1 : 1 ≤ d := vd (by omega)
  obtain ⟨d', rfl⟩ : ∃ d', d = d' + 1 := ⟨d - 1, by omega⟩
  have cp' := Ck_pos d'
  have cw : Ck (d' + 1) = 4 * Ck d' + 40 := rfl
  have sub1 : ((d' + 1 + 1 : Nat) : Int) - 1 = ((d' + 1 : Nat) : Int) := by omega
  with_reducible refine x_next ?_
  with_reducible refine x_seq ?_
  with_reducible refine x_if ?_
  refine x_b (x_op (x_var rfl (x_c (x_ltI ⟨_, rfl, ?_⟩))))
  refine x_ite (fun c => ?_) (fun c3 => ?_)
  · have IH2 := IH d' (k + 2) rfl (by omega) (by omega)
    with_reducible refine x_seq ?_
    refine x_asg (x_call (x_cons (x_var rfl (x_cons (x_var rfl (x_cons (x_op (x_var rfl (x_c (x_sub (x_nil ?_)))))))))))
    rw [sub1]
    refine IH2 G2 _ _ W2 (by omega) fun ka G3 hka f3 W3 => x_gname ?_
    refine x_ret (x_tup (x_cons (x_c (x_cons (x_var rfl (x_cons (x_call (x_cons (x_var rfl (x_cons (x_var rfl (x_cons (x_op (x_var rfl (x_c (x_sub (x_nil ?_)))))))))))))))))
    rw [sub1]
    refine IH2 G3 _ _ W3 (by omega) fun kb G4 hkb f4 W4 => x_nil ⟨by show 3 ≤ sizeLine; decide, fwdT.of ?_⟩
    have := hR (.fn ka kb) G4 (.fn hka hkb) (F2.trans (f3.trans f4)) (W4.le (by omega))
    simp only [knT] at this
    exact this
  have c3 := of_decide_eq_false c3
  with_reducible refine x_next ?_
  with_reducible refine x_seq ?_
  refine x_asg (x_op (x_lst (x_cons (x_c (x_cons (x_c (x_nil ⟨by show 2 ≤ sizeLine; decide, fun e he => ?_⟩)))))))
  refine x_op (x_var rfl (x_c (x_mod (by decide) ?_)))
  have W3 := W2.new (c := .lst [.str "rec", .str "sum"]) he
  have F3 : FrS (S3 a w q) G (Mi.put G2 e (.lst [.str "rec", .str "sum"])) := F2.trans (FrS.new he)
  have ee : Mi.put G2 e (.lst [.str "rec", .str "sum"]) e = some (.lst [.str "rec", .str "sum"]) := put_same
  generalize Mi.put G2 e (.lst [.str "rec", .str "sum"]) = G3 at W3 F3 ee
  obtain ⟨r, hr⟩ : ∃ r : Bool, atI [T.str "rec", .str "sum"] (v % 2) = some (.str (rwS r)) := by
    have : v % 2 = 0 ∨ v % 2 = 1 := by omega
    rcases this with z | z
    · exact ⟨true, by rw [z]; rfl⟩
    · exact ⟨false, by rw [z]; rfl⟩
  refine x_ix ee hr (x_gname ?_)
  have IH1 := IH d' (k + 1) rfl (by omega) (by omega)
  have rsh : ∀ r, SeqAt.shaped (.str (rwS r)) = true ∧ decide (rwS r = Str.ofString "sum") = !r := by decide +kernel
  with_reducible refine x_seq ?_
  refine x_asg (x_call (x_cons (x_var rfl (x_cons (x_var rfl (x_cons (x_op (x_var rfl (x_c (x_sub ?_))))))))))
  rw [sub1]
  refine x_cons (x_call (x_cons (x_op (x_var rfl (x_c (x_eqD (rsh r).1 (by decide +kernel) (x_nil (x_intb (x_nil ?_)))))))))
  have cs4 := Cs4 (Ck d')
  refine kpairs_ok (k := k) L IH1 W3 (by omega) (by cases decide (rwS r = Str.ofString "sum") <;> simp) fun ps G4 sub hne hps f4 W4 => x_gname ?_
  refine x_ret (x_tup (x_cons (x_var rfl (x_cons (x_var rfl (x_cons (x_call (x_cons (x_var rfl (x_cons (x_var rfl (x_cons (x_var rfl (x_cons (x_var rfl (x_nil ?_))))))))))))))))
  refine rest_ok (k := k) L W4 (by omega) sub fun o G5 ho f5 W5 => x_nil ⟨by show 3 ≤ sizeLine; decide, fwdT.of ?_⟩
  have := hR (.row r ps o) G5 (.row sub (fun z => hne (by rw [(rsh r).2, z]; rfl)) ho hps) (F3.trans (f4.trans f5)) (W5.le (by omega))
  simp only [knT] at this
  exact this
theorem kind_ok (L : Lab ls) : ∀ (d k : Nat), 2 * d + 3 ≤ k → KindOk a w q pl po pa ls os an k d
  | 0, k, h => by
    obtain ⟨k0, rfl⟩ : ∃ k0, k = k0 + 3 := ⟨k - 3, by omega⟩
    exact kind_step L (fun d' k' e => by omega) h
  | d + 1, k, h => by
    obtain ⟨k0, rfl⟩ : ∃ k0, k = k0 + 3 := ⟨k - 3, by omega⟩
    refine kind_step L (fun d' k' e h1 h2 => ?_) h
    obtain rfl : d = d' := by omega
    exact kind_ok L d k' h2
end
end Lw

set_option Elab.async false
set_option linter.all false
set_option maxRecDepth 100000
set_option maxHeartbeats 1000000
namespace Lw
open PySem L2 Mi
variable [Tb]
local macro_rules | `(tactic| walk_at "get") => `(tactic| first | assumption | exact put_same | (refine get_new (by assumption) ?_; walk_at "get") | (refine get_ne (by assumption) ?_; walk_at "get"))
local macro_rules | `(tactic| walk_at "sq") => `(tactic| first | assumption | exact .inl rfl | exact .inr (.inl rfl) | exact .inr (.inr ⟨_, rfl, by walk_at "get"⟩))
local macro_rules | `(tactic| walk_at "size") => `(tactic| first | assumption | (simp only [List.length_cons, List.length_nil]; decide) | (have := sizeLine_eq; omega))
local macro_rules | `(tactic| walk_at "txt") => `(tactic| first | assumption | (simp only [Str.length, Str.cps_append, Array.size_append]; have := sizeLine_eq; omega))
local macro_rules | `(tactic| walk_at "go1") => `(tactic| first
  | ((with_reducible refine' x_var ?e ?_); (case e => with_unfolding_all rfl))
  | with_reducible refine x_seq ?_
  | with_reducible refine x_asg ?_
  | with_reducible refine x_if ?_
  | with_reducible refine x_ret ?_
  | with_reducible refine x_next ?_
  | with_reducible refine x_expr ?_
  | with_reducible refine x_gname ?_
  | with_reducible refine x_gcons ?_
  | with_reducible refine x_gnil ?_
  | with_reducible refine x_gsub ?_
  | with_reducible refine x_c ?_
  | with_reducible refine x_op ?_
  | with_reducible refine x_call ?_
  | with_reducible refine x_cons ?_
  | with_reducible refine x_nil ?_
  | with_reducible refine x_par ?_
  | with_reducible refine x_tup ?_
  | with_reducible refine x_lst ?_
  | with_reducible refine x_b ?_
  | with_reducible refine x_tru ?_
  | with_reducible refine x_not ?_
  | with_reducible refine x_or ?_
  | with_reducible refine x_and ?_
  | with_reducible refine x_ife ?_
  | with_reducible refine x_add ?_
  | with_reducible refine x_sub ?_
  | with_reducible refine x_gtI ?_
  | with_reducible refine x_ltI ?_
  | with_reducible refine x_geI ?_
  | with_reducible refine x_leI ?_
  | with_reducible refine x_abs ?_
  | with_reducible refine x_intb ?_
  | with_reducible refine x_for ?_
  | with_reducible refine x_irange ?_
  | with_reducible refine x_lc ?_
  | with_reducible refine x_yes ?_
  | with_reducible refine x_bm ?_
  | with_reducible refine x_bm0 ?_
  | with_reducible refine x_andv ?_
  | with_reducible refine x_orv ?_
  | with_reducible refine x_notv ?_
  | with_reducible refine x_eqI ?_
  | with_reducible refine x_tystr ?_
  | ((with_reducible refine' x_gtup ?e ?_); (case e => with_unfolding_all rfl))
  | ((with_reducible refine' x_pow ?e ?_); (case e => exact ⟨by decide, by decide, by decide⟩))
  | ((with_reducible refine' x_ix ?e ?q ?_); (case e => walk_at "get"); (case q => with_unfolding_all rfl))
  | ((with_reducible refine' x_ixt ?q ?_); (case q => with_unfolding_all rfl))
  | ((with_reducible refine' x_sto ?e ?q ?_); (case e => walk_at "get"); (case q => with_unfolding_all rfl))
  | ((with_reducible refine' x_adds ?e ?_); (case e => walk_at "txt"))
  | ((with_reducible refine' x_muls ?e ?f ?g ?_); (case e => omega); (case f => omega); (case g => walk_at "txt"))
  | ((with_reducible refine' x_divmod ?e ?_); (case e => exact ⟨by omega, by omega⟩))
  | ((with_reducible refine' x_mod ?e ?_); (case e => omega))
  | ((with_reducible refine' x_fdivC ?e ?f ?_); (case e => omega); (case f => omega))
  | ((with_reducible refine' x_mulL ?e ?f ?_); (case e => omega); (case f => omega))
  | ((with_reducible refine' x_mulR ?e ?f ?_); (case e => omega); (case f => omega))
  | ((with_reducible refine' x_len ?e ?_); (case e => walk_at "sq"))
  | ((with_reducible refine' x_range ?e ?f ?_); (case e => omega); (case f => omega))
  | ((with_reducible refine' x_tylst ?e ?_); (case e => walk_at "get"))
  | ((with_reducible refine' x_append ?e ?f ?_); (case e => walk_at "get"); (case f => walk_at "size"))
  | ((with_reducible refine' And.intro ?e ?_); (case e => (show _ ≤ sizeLine; walk_at "size")))
  | ((with_reducible refine' Exists.intro _ (And.intro ?e ?_)); (case e => with_unfolding_all rfl)))
theorem kn_shaped (k : Kn) : SeqAt.shaped (.str k.word) = true := by
  have h : ∀ z ∈ ([Str.ofString "num", Str.ofString "any", Str.ofString "own", Str.ofString "fun", Str.ofString "rec", Str.ofString "sum"] : List Str), SeqAt.shaped (.str z) = true := by decide +kernel
  cases k with
  | row r ps q => cases r <;> exact h _ (by simp [Kn.word, rwS])
  | _ => exact h _ (by simp [Kn.word])
/-! ### a kind's parts -/
def Kl.ks : Kl → List Kn
  | .nil => []
  | .cons _ k r => k :: r.ks
def Kn.parts : Kn → List Kn
  | .fn a b => [a, b]
  | .row _ ps _ => ps.ks
  | _ => []
theorem klT_at : ∀ {ps : Kl} {j : Nat} {t : T}, (klT ps)[j]? = some t → ∃ l k, t = .tup [.str l, knT k] ∧ ps.ks[j]? = some k ∧ ps.labels[j]? = some l
  | .nil, j, t, h => by simp [klT] at h
  | .cons l k ps, 0, t, h => by
    simp only [klT, List.getElem?_cons_zero, Option.some.injEq] at h
    exact ⟨l, k, h.symm, rfl, by simp [Kl.labels]⟩
  | .cons l k ps, j + 1, t, h => by
    simp only [klT, List.getElem?_cons_succ] at h
    obtain ⟨l2, kc, e1, e2, e3⟩ := klT_at (ps := ps) h
    exact ⟨l2, kc, e1, by simpa [Kl.ks] using e2, by simpa [Kl.labels] using e3⟩
theorem Kl.ks_len : ∀ ps : Kl, ps.ks.length = (klT ps).length
  | .nil => by simp [klT, Kl.ks]
  | .cons _ _ ps => by simp only [klT, Kl.ks, List.length_cons, Kl.ks_len ps]
section
variable {G : Gp} {R : KT}
theorem x_head {kn : Kn} (h : R (.str kn.word) G) : oIx (knT kn) (.int 0) G R := by
  obtain ⟨us, e⟩ := word_kn kn
  rw [e]; exact x_ixt (atI0 _ _) h
theorem x_fn1 {a b : Kn} (h : R (knT a) G) : oIx (knT (.fn a b)) (.int 1) G R := by simp only [knT]; exact x_ixt rfl h
theorem x_fn2 {a b : Kn} (h : R (knT b) G) : oIx (knT (.fn a b)) (.int 2) G R := by simp only [knT]; exact x_ixt rfl h
theorem x_row1 {r : Bool} {ps : Kl} {q : Option Int} (h : R (.tup (klT ps)) G) : oIx (knT (.row r ps q)) (.int 1) G R := by simp only [knT]; exact x_ixt rfl h
theorem x_row2 {r : Bool} {ps : Kl} {q : Option Int} (h : R (oT q) G) : oIx (knT (.row r ps q)) (.int 2) G R := by simp only [knT]; exact x_ixt rfl h
theorem x_own1 {m n : Str} (h : R (.str m) G) : oIx (knT (.own m n)) (.int 1) G R := by simp only [knT]; exact x_ixt rfl h
theorem x_own2 {m n : Str} (h : R (.str n) G) : oIx (knT (.own m n)) (.int 2) G R := by simp only [knT]; exact x_ixt rfl h
end
theorem kn_fun {k : Kn} (h : k.word = "fun") : ∃ a b, k = .fn a b := by
  cases k with
  | fn a b => exact ⟨a, b, rfl⟩
  | row r _ _ => cases r <;> (simp only [Kn.word, rwS] at h; exact absurd h (by decide +kernel))
  | _ => simp only [Kn.word] at h; exact absurd h (by decide +kernel)
theorem kn_own {k : Kn} (h : k.word = "own") : ∃ a b, k = .own a b := by
  cases k with
  | own a b => exact ⟨a, b, rfl⟩
  | row r _ _ => cases r <;> (simp only [Kn.word, rwS] at h; exact absurd h (by decide +kernel))
  | _ => simp only [Kn.word] at h; exact absurd h (by decide +kernel)
theorem kn_row {k : Kn} (h : k.word = "rec" ∨ k.word = "sum") : ∃ r ps q, k = .row r ps q := by
  cases k with
  | row r ps q => exact ⟨r, ps, q, rfl⟩
  | _ => simp only [Kn.word] at h; exact absurd h (by decide +kernel)
theorem Kn.parts_nil {k : Kn} (h1 : ¬ k.word = "fun") (h2 : ¬ (k.word = "rec" ∨ k.word = "sum")) : k.parts = [] := by
  cases k with
  | fn a b => exact absurd rfl h1
  | row r ps q => cases r <;> exact absurd (by first | exact .inl rfl | exact .inr rfl) h2
  | _ => rfl
theorem x_inS2d {z w1 w2 : Str} {G : Gp} {R : KT} (h : R (.bl (decide (z = w1) || decide (z = w2))) G) : oInA false (.str z) (.tup [.str w1, .str w2]) G R := x_inS2 h
theorem parts_ok {k : Nat} {kn : Kn} {G : Gp} {R : KT} (hz : kn.parts.length ≤ 1000) (hR : ∀ (p : Addr) (G' : Gp), G p = none → G' p = some (.lst (kn.parts.map knT)) → Ext G G' → R (.ref p) G') : SP (k + 1) 1 [knT kn] G R := by
  have szl := sizeLine_eq
  show spOf 2 1 (b1 (SP k)) _ _ _
  refine ⟨rfl, ?_⟩
  unfold b1
  with_reducible refine x_seq ?_
  with_reducible refine x_if ?_
  refine x_b (x_op (x_op (x_var rfl (x_c (x_head (x_c (x_eqD (kn_shaped kn) (by decide +kernel) ⟨_, rfl, ?_⟩)))))))
  refine x_ite (fun c => ?_) (fun c1 => ?_)
  · obtain ⟨a, b, rfl⟩ := kn_fun (of_decide_eq_true c)
    refine x_ret (x_lst (x_cons (x_op (x_var rfl (x_c (x_fn1 ?_))))))
    refine x_cons (x_op (x_var rfl (x_c (x_fn2 (x_nil ⟨by show 2 ≤ sizeLine; omega, fun p hp => fwdT.of (hR p _ hp put_same (Ext.new hp))⟩)))))
  have c1 := of_decide_eq_false c1
  refine x_next ?_
  dsimp only
  with_reducible refine x_seq ?_
  with_reducible refine x_if ?_
  refine x_b (x_op (x_op (x_var rfl (x_c (x_head (x_tup (x_cons (x_c (x_cons (x_c (x_nil ⟨by show 2 ≤ sizeLine; omega, x_inS2d ⟨_, rfl, ?_⟩⟩)))))))))))
  refine x_ite (fun c => ?_) (fun c2 => ?_)
  · obtain ⟨r, ps, q, rfl⟩ := kn_row (by simpa using c)
    have hz : ps.ks.length ≤ 1000 := hz
    refine x_ret (x_lc (x_iseq (x_op (x_var rfl (x_c (x_row1 ⟨klT ps, .inl rfl, fun D hD => ?_⟩))))))
    refine ⟨fun j G' => G' D = some (.lst ((ps.ks.take j).map knT)) ∧ Ext G G', ⟨put_same, Ext.new hD⟩, fun i G' _ p hp => by simp [heldT] at hp, ?_, ?_⟩
    · intro j t G' ht ⟨e, f⟩
      obtain ⟨l, kc, rfl, ek, _⟩ := klT_at ht
      refine x_gname ?_
      unfold mtYes; dsimp only
      rw [if_pos rfl]
      refine x_op (x_var rfl (x_c (x_ixt rfl ⟨_, e, ?_, fwdG.of ⟨?_, Ext.grow hD f⟩⟩)))
      · rw [List.length_map, List.length_take]; omega
      · rw [put_same, List.take_add_one, ek, List.map_append]; rfl
    · intro G' ⟨e, f⟩
      refine fwdT.of (hR D G' hD ?_ f)
      rw [e, ← Kl.ks_len, List.take_length]; rfl
  · refine x_next ?_
    dsimp only
    refine x_ret (x_lst (x_nil ⟨by show 0 ≤ sizeLine; omega, fun p hp => fwdT.of (hR p _ hp ?_ (Ext.new hp))⟩))
    rw [Kn.parts_nil c1 (by simpa using c2)]; exact put_same
end Lw

set_option Elab.async false
set_option linter.all false
set_option maxRecDepth 100000
set_option maxHeartbeats 1000000
namespace Lw
open PySem L2 Mi
variable [Tb]
local macro_rules | `(tactic| walk_at "get") => `(tactic| first | assumption | exact put_same | (refine get_new (by assumption) ?_; walk_at "get") | (refine get_ne (by assumption) ?_; walk_at "get"))
local macro_rules | `(tactic| walk_at "sq") => `(tactic| first | assumption | exact .inl rfl | exact .inr (.inl rfl) | exact .inr (.inr ⟨_, rfl, by walk_at "get"⟩))
local macro_rules | `(tactic| walk_at "size") => `(tactic| first | assumption | (simp only [List.length_cons, List.length_nil]; decide) | (have := sizeLine_eq; omega))
local macro_rules | `(tactic| walk_at "txt") => `(tactic| first | assumption | (simp only [Str.length, Str.cps_append, Array.size_append]; have := sizeLine_eq; omega))
local macro_rules | `(tactic| walk_at "go1") => `(tactic| first
  | ((with_reducible refine' x_var ?e ?_); (case e => with_unfolding_all rfl))
  | with_reducible refine x_seq ?_
  | with_reducible refine x_asg ?_
  | with_reducible refine x_if ?_
  | with_reducible refine x_ret ?_
  | with_reducible refine x_next ?_
  | with_reducible refine x_expr ?_
  | with_reducible refine x_gname ?_
  | with_reducible refine x_gcons ?_
  | with_reducible refine x_gnil ?_
  | with_reducible refine x_gsub ?_
  | with_reducible refine x_c ?_
  | with_reducible refine x_op ?_
  | with_reducible refine x_call ?_
  | with_reducible refine x_cons ?_
  | with_reducible refine x_nil ?_
  | with_reducible refine x_par ?_
  | with_reducible refine x_tup ?_
  | with_reducible refine x_lst ?_
  | with_reducible refine x_b ?_
  | with_reducible refine x_tru ?_
  | with_reducible refine x_not ?_
  | with_reducible refine x_or ?_
  | with_reducible refine x_and ?_
  | with_reducible refine x_ife ?_
  | with_reducible refine x_add ?_
  | with_reducible refine x_sub ?_
  | with_reducible refine x_gtI ?_
  | with_reducible refine x_ltI ?_
  | with_reducible refine x_geI ?_
  | with_reducible refine x_leI ?_
  | with_reducible refine x_abs ?_
  | with_reducible refine x_intb ?_
  | with_reducible refine x_for ?_
  | with_reducible refine x_irange ?_
  | with_reducible refine x_lc ?_
  | with_reducible refine x_yes ?_
  | with_reducible refine x_bm ?_
  | with_reducible refine x_bm0 ?_
  | with_reducible refine x_andv ?_
  | with_reducible refine x_orv ?_
  | with_reducible refine x_notv ?_
  | with_reducible refine x_eqI ?_
  | with_reducible refine x_tystr ?_
  | ((with_reducible refine' x_gtup ?e ?_); (case e => with_unfolding_all rfl))
  | ((with_reducible refine' x_pow ?e ?_); (case e => exact ⟨by decide, by decide, by decide⟩))
  | ((with_reducible refine' x_ix ?e ?q ?_); (case e => walk_at "get"); (case q => with_unfolding_all rfl))
  | ((with_reducible refine' x_ixt ?q ?_); (case q => with_unfolding_all rfl))
  | ((with_reducible refine' x_sto ?e ?q ?_); (case e => walk_at "get"); (case q => with_unfolding_all rfl))
  | ((with_reducible refine' x_adds ?e ?_); (case e => walk_at "txt"))
  | ((with_reducible refine' x_muls ?e ?f ?g ?_); (case e => omega); (case f => omega); (case g => walk_at "txt"))
  | ((with_reducible refine' x_divmod ?e ?_); (case e => exact ⟨by omega, by omega⟩))
  | ((with_reducible refine' x_mod ?e ?_); (case e => omega))
  | ((with_reducible refine' x_fdivC ?e ?f ?_); (case e => omega); (case f => omega))
  | ((with_reducible refine' x_mulL ?e ?f ?_); (case e => omega); (case f => omega))
  | ((with_reducible refine' x_mulR ?e ?f ?_); (case e => omega); (case f => omega))
  | ((with_reducible refine' x_len ?e ?_); (case e => walk_at "sq"))
  | ((with_reducible refine' x_range ?e ?f ?_); (case e => omega); (case f => omega))
  | ((with_reducible refine' x_tylst ?e ?_); (case e => walk_at "get"))
  | ((with_reducible refine' x_append ?e ?f ?_); (case e => walk_at "get"); (case f => walk_at "size"))
  | ((with_reducible refine' And.intro ?e ?_); (case e => (show _ ≤ sizeLine; walk_at "size")))
  | ((with_reducible refine' Exists.intro _ (And.intro ?e ?_)); (case e => with_unfolding_all rfl)))
/-! ### has it an own kind? -/
mutual
def hasO : Kn → Bool
  | .own _ _ => true
  | .fn a b => hasO a || hasO b
  | .row _ ps _ => hasOl ps
  | _ => false
def hasOl : Kl → Bool
  | .nil => false
  | .cons _ k ps => hasO k || hasOl ps
end
mutual
def nK : Kn → Nat
  | .fn a b => 1 + nK a + nK b
  | .row _ ps _ => 1 + nKl ps
  | _ => 1
def nKl : Kl → Nat
  | .nil => 0
  | .cons _ k ps => nK k + nKl ps
end
def nKs (ks : List Kn) : Nat := (ks.map nK).sum
theorem nKs_app (a b : List Kn) : nKs (a ++ b) = nKs a + nKs b := by unfold nKs; rw [List.map_append, List.sum_append]
theorem nK_pos : ∀ k : Kn, 1 ≤ nK k
  | .num => by simp only [nK]; omega
  | .any _ => by simp only [nK]; omega
  | .own _ _ => by simp only [nK]; omega
  | .fn _ _ => by simp only [nK]; omega
  | .row _ _ _ => by simp only [nK]; omega
theorem nKl_ks : ∀ ps : Kl, nKl ps = nKs ps.ks
  | .nil => by simp [nKl, nKs, Kl.ks]
  | .cons _ k ps => by
    have := nKl_ks ps
    simp only [nKl, Kl.ks, nKs, List.map_cons, List.sum_cons] at this ⊢
    omega
theorem nK_parts (k : Kn) : nK k = 1 + nKs k.parts := by
  cases k with
  | fn a b => simp only [nK, Kn.parts, nKs, List.map_cons, List.map_nil, List.sum_cons, List.sum_nil]; omega
  | row r ps q => simp only [nK, Kn.parts, nKl_ks]
  | _ => simp [nK, Kn.parts, nKs]
theorem nKs_len : ∀ ks : List Kn, ks.length ≤ nKs ks
  | [] => Nat.le_refl 0
  | k :: r => by have := nKs_len r; have := nK_pos k; simp only [nKs, List.map_cons, List.sum_cons, List.length_cons] at *; omega
theorem hasOl_ks : ∀ ps : Kl, hasOl ps = ps.ks.any hasO
  | .nil => rfl
  | .cons _ k ps => by simp only [hasOl, Kl.ks, List.any_cons, hasOl_ks ps]
theorem hasO_parts {k : Kn} (h : ¬ k.word = "own") : hasO k = k.parts.any hasO := by
  cases k with
  | own _ _ => exact absurd rfl h
  | fn a b => simp [hasO, Kn.parts]
  | row r ps q => simp only [hasO, Kn.parts, hasOl_ks]
  | _ => rfl
theorem hasOwn_ok {k : Nat} {kn : Kn} {G : Gp} {R : KT} (hz : nK kn ≤ 1000) (hR : ∀ G' : Gp, Ext G G' → R (.bl (hasO kn)) G') : SP (k + 2) 4 [knT kn] G R := by
  have szl := sizeLine_eq
  show spOf 3 1 (b4 (SP (k + 1))) _ _ _
  refine ⟨rfl, ?_⟩
  unfold b4
  with_reducible refine x_seq ?_
  refine x_asg (x_lst (x_cons (x_var rfl (x_nil ⟨by show 1 ≤ sizeLine; omega, fun td htd => x_gname ?_⟩))))
  dsimp only
  with_reducible refine x_seq ?_
  refine x_while (fun n r G' => ∃ (st : List Kn) (x2 : Option T), r = [some (knT kn), some (.ref td), x2] ∧ G' td = some (.lst (st.map knT)) ∧ n = nKs st ∧ nKs st ≤ nK kn ∧ hasO kn = st.any hasO ∧ Ext G G')
    ⟨nKs [kn], [kn], none, rfl, put_same, rfl, by simp [nKs], by simp, Ext.new htd⟩ ?_
  intro n r G1 ⟨st, x2, er, etd, en, le, hh, f⟩
  subst er
  refine x_tru (x_var rfl ⟨_, tru_lst etd, ?_⟩)
  cases hst : st with
  | nil =>
    subst hst
    rw [List.any_nil] at hh
    refine x_iteF rfl ?_
    dsimp only
    refine x_ret (x_c (fwdT.of ?_))
    have := hR G1 f
    rwa [hh] at this
  | cons s0 sr =>
    rw [← hst]
    have ne : st ≠ [] := by rw [hst]; exact List.cons_ne_nil _ _
    obtain ⟨rest, kc, rfl⟩ : ∃ rest kc, st = rest ++ [kc] := ⟨st.dropLast, st.getLast ne, (List.dropLast_concat_getLast ne).symm⟩
    refine x_iteT (by rw [List.isEmpty_map]; cases rest <;> rfl) ?_
    rw [List.map_append] at etd
    rw [nKs_app] at en le
    have n1 : nKs [kc] = nK kc := by simp [nKs]
    have n2 := nK_parts kc
    have n3 := nKs_len kc.parts
    have n4 := nKs_len rest
    with_reducible refine x_seq ?_
    refine x_asg (x_bm0 (x_var rfl (x_tylst etd (x_pop etd (x_gname ?_)))))
    dsimp only
    with_reducible refine x_seq ?_
    with_reducible refine x_if ?_
    refine x_b (x_op (x_op (x_var rfl (x_c (x_head (x_c (x_eqD (kn_shaped kc) (by decide +kernel) ⟨_, rfl, ?_⟩)))))))
    refine x_ite (fun c => ?_) (fun c => ?_)
    · refine x_ret (x_c (fwdT.of ?_))
      obtain ⟨m, n', rfl⟩ := kn_own (of_decide_eq_true c)
      have e : hasO kn = true := by rw [hh, List.any_append]; simp [hasO]
      have ex : Ext G (Mi.put G1 td (.lst (rest.map knT))) := Ext.grow htd f
      have := hR _ ex
      rwa [e] at this
    · have c := of_decide_eq_false c
      refine x_next ?_
      refine x_expr (x_bm (x_var rfl (x_tylst put_same (x_cons (x_call (x_cons (x_var rfl (x_nil (parts_ok (by omega) fun p G2 hp ep f2 => ?_)))))))))
      have tdp : td ≠ p := fun z => by rw [← z, put_same] at hp; cases hp
      refine x_nil (x_extend (f2 _ _ put_same) ep (by rw [List.length_map, List.length_map]; omega) ?_)
      refine fwd.of ⟨nKs (rest ++ kc.parts), by rw [en, nKs_app]; omega, rest ++ kc.parts, _, rfl, by rw [put_same, List.map_append], rfl, by rw [nKs_app]; omega, ?_, ?_⟩
      · rw [hh, List.any_append, List.any_append, ← hasO_parts c]; simp
      · exact Ext.grow htd ((Ext.grow htd f).trans f2)
end Lw

set_option Elab.async false
set_option linter.all false
set_option maxRecDepth 100000
set_option maxHeartbeats 1000000
namespace Lw
open PySem L2 Mi
variable [Tb]
local macro_rules | `(tactic| walk_at "get") => `(tactic| first | assumption | exact put_same | (refine get_new (by assumption) ?_; walk_at "get") | (refine get_ne (by assumption) ?_; walk_at "get"))
local macro_rules | `(tactic| walk_at "sq") => `(tactic| first | assumption | exact .inl rfl | exact .inr (.inl rfl) | exact .inr (.inr ⟨_, rfl, by walk_at "get"⟩))
local macro_rules | `(tactic| walk_at "size") => `(tactic| first | assumption | (simp only [List.length_cons, List.length_nil]; decide) | (have := sizeLine_eq; omega))
local macro_rules | `(tactic| walk_at "txt") => `(tactic| first | assumption | (simp only [Str.length, Str.cps_append, Array.size_append]; have := sizeLine_eq; omega))
local macro_rules | `(tactic| walk_at "go1") => `(tactic| first
  | ((with_reducible refine' x_var ?e ?_); (case e => with_unfolding_all rfl))
  | with_reducible refine x_seq ?_
  | with_reducible refine x_asg ?_
  | with_reducible refine x_if ?_
  | with_reducible refine x_ret ?_
  | with_reducible refine x_next ?_
  | with_reducible refine x_expr ?_
  | with_reducible refine x_gname ?_
  | with_reducible refine x_gcons ?_
  | with_reducible refine x_gnil ?_
  | with_reducible refine x_gsub ?_
  | with_reducible refine x_c ?_
  | with_reducible refine x_op ?_
  | with_reducible refine x_call ?_
  | with_reducible refine x_cons ?_
  | with_reducible refine x_nil ?_
  | with_reducible refine x_par ?_
  | with_reducible refine x_tup ?_
  | with_reducible refine x_lst ?_
  | with_reducible refine x_b ?_
  | with_reducible refine x_tru ?_
  | with_reducible refine x_not ?_
  | with_reducible refine x_or ?_
  | with_reducible refine x_and ?_
  | with_reducible refine x_ife ?_
  | with_reducible refine x_add ?_
  | with_reducible refine x_sub ?_
  | with_reducible refine x_gtI ?_
  | with_reducible refine x_ltI ?_
  | with_reducible refine x_geI ?_
  | with_reducible refine x_leI ?_
  | with_reducible refine x_abs ?_
  | with_reducible refine x_intb ?_
  | with_reducible refine x_for ?_
  | with_reducible refine x_irange ?_
  | with_reducible refine x_lc ?_
  | with_reducible refine x_yes ?_
  | with_reducible refine x_bm ?_
  | with_reducible refine x_bm0 ?_
  | with_reducible refine x_andv ?_
  | with_reducible refine x_orv ?_
  | with_reducible refine x_notv ?_
  | with_reducible refine x_eqI ?_
  | with_reducible refine x_tystr ?_
  | ((with_reducible refine' x_gtup ?e ?_); (case e => with_unfolding_all rfl))
  | ((with_reducible refine' x_pow ?e ?_); (case e => exact ⟨by decide, by decide, by decide⟩))
  | ((with_reducible refine' x_ix ?e ?q ?_); (case e => walk_at "get"); (case q => with_unfolding_all rfl))
  | ((with_reducible refine' x_ixt ?q ?_); (case q => with_unfolding_all rfl))
  | ((with_reducible refine' x_sto ?e ?q ?_); (case e => walk_at "get"); (case q => with_unfolding_all rfl))
  | ((with_reducible refine' x_adds ?e ?_); (case e => walk_at "txt"))
  | ((with_reducible refine' x_muls ?e ?f ?g ?_); (case e => omega); (case f => omega); (case g => walk_at "txt"))
  | ((with_reducible refine' x_divmod ?e ?_); (case e => exact ⟨by omega, by omega⟩))
  | ((with_reducible refine' x_mod ?e ?_); (case e => omega))
  | ((with_reducible refine' x_fdivC ?e ?f ?_); (case e => omega); (case f => omega))
  | ((with_reducible refine' x_mulL ?e ?f ?_); (case e => omega); (case f => omega))
  | ((with_reducible refine' x_mulR ?e ?f ?_); (case e => omega); (case f => omega))
  | ((with_reducible refine' x_len ?e ?_); (case e => walk_at "sq"))
  | ((with_reducible refine' x_range ?e ?f ?_); (case e => omega); (case f => omega))
  | ((with_reducible refine' x_tylst ?e ?_); (case e => walk_at "get"))
  | ((with_reducible refine' x_append ?e ?f ?_); (case e => walk_at "get"); (case f => walk_at "size"))
  | ((with_reducible refine' And.intro ?e ?_); (case e => (show _ ≤ sizeLine; walk_at "size")))
  | ((with_reducible refine' Exists.intro _ (And.intro ?e ?_)); (case e => with_unfolding_all rfl)))
/-! ### what stands for an own kind -/
abbrev Ow := Str → Str → Option Kn
def Kl.with : Kl → List Kn → Kl
  | .cons l _ ps, v :: vs => .cons l v (ps.with vs)
  | _, _ => .nil
def Kn.with : Kn → List Kn → Kn
  | .fn a b, [x, y] => .fn x y
  | .row r ps q, vs => .row r (ps.with vs) q
  | k, _ => k
def mkK (f : Ow) : Kn → List Kn → Kn
  | .own m n, _ => (f m n).getD (.own m n)
  | k, vs => k.with vs
mutual
def opn (f : Ow) : Kn → Kn
  | .own m n => (f m n).getD (.own m n)
  | .fn a b => .fn (opn f a) (opn f b)
  | .row r ps q => .row r (opnl f ps) q
  | .num => .num
  | .any i => .any i
def opnl (f : Ow) : Kl → Kl
  | .nil => .nil
  | .cons l k ps => .cons l (opn f k) (opnl f ps)
end
theorem opnl_with (f : Ow) : ∀ ps : Kl, ps.with (ps.ks.map (opn f)) = opnl f ps
  | .nil => by simp [Kl.with, Kl.ks, opnl]
  | .cons l k ps => by simp only [Kl.ks, List.map_cons, Kl.with, opnl, opnl_with f ps]
theorem opn_mk (f : Ow) (k : Kn) : mkK f k (k.parts.map (opn f)) = opn f k := by
  cases k with
  | num => simp [mkK, Kn.with, opn]
  | any i => simp [mkK, Kn.with, opn]
  | own m n => simp [mkK, opn]
  | fn a b => simp [mkK, Kn.with, Kn.parts, opn]
  | row r ps q => simp only [mkK, Kn.with, Kn.parts, opn, opnl_with]
theorem klT_with : ∀ (ps : Kl) (vs : List Kn), vs.length = ps.ks.length → klT (ps.with vs) = List.zipWith (fun a b => T.tup [a, b]) (ps.labels.map T.str) (vs.map knT)
  | .nil, vs, _ => by simp [Kl.with, klT, Kl.labels]
  | .cons l k ps, [], h => by simp [Kl.ks] at h
  | .cons l k ps, v :: vs, h => by
    have := klT_with ps vs (by simpa [Kl.ks] using h)
    simp only [Kl.with, klT, Kl.labels, List.map_cons, List.zipWith_cons_cons, this]
theorem kn_word_ne {k : Kn} (h : ¬ k.word = "own") (f : Ow) (vs : List Kn) : mkK f k vs = k.with vs := by
  cases k with
  | own m n => exact absurd rfl h
  | _ => rfl
theorem x_tupZip {m1 m2 : ME} {r : Mi.Env} {G : Gp} {R : KT} (h : m1 r G fun t1 G1 => m2 r G1 fun t2 G2 => ∃ (l1 : Addr) (ts : List T) (l2 : Addr) (us : List T), t1 = .ref l1 ∧ G2 l1 = some (.lst ts) ∧ t2 = .ref l2 ∧ G2 l2 = some (.lst us) ∧ R (.tup (List.zipWith (fun a b => T.tup [a, b]) ts us)) G2) : mTupZip m1 m2 r G R := h
theorem with_ok {k : Nat} {kn : Kn} {vs : List Kn} {p : Addr} {G : Gp} {R : KT} (hl : vs.length = kn.parts.length) (hz : vs.length ≤ 1000) (ep : G p = some (.lst (vs.map knT))) (hR : ∀ G' : Gp, Ext G G' → R (knT (kn.with vs)) G') : SP (k + 1) 2 [knT kn, .ref p] G R := by
  have szl := sizeLine_eq
  show spOf 4 2 (b2 (SP k)) _ _ _
  refine ⟨rfl, ?_⟩
  unfold b2
  with_reducible refine x_seq ?_
  with_reducible refine x_if ?_
  refine x_b (x_op (x_op (x_var rfl (x_c (x_head (x_c (x_eqD (kn_shaped kn) (by decide +kernel) ⟨_, rfl, ?_⟩)))))))
  refine x_ite (fun c => ?_) (fun c1 => ?_)
  · obtain ⟨a, b, rfl⟩ := kn_fun (of_decide_eq_true c)
    match vs, hl with
    | [x, y], _ =>
    refine x_ret (x_tup (x_cons (x_c (x_cons (x_op (x_var rfl (x_c (x_ix ep rfl ?_))))))))
    refine x_cons (x_op (x_var rfl (x_c (x_ix ep rfl (x_nil ⟨by show 3 ≤ sizeLine; omega, fwdT.of ?_⟩)))))
    have := hR G (Ext.refl _)
    simp only [Kn.with, knT] at this
    exact this
  have c1 := of_decide_eq_false c1
  refine x_next ?_
  dsimp only
  with_reducible refine x_seq ?_
  with_reducible refine x_if ?_
  refine x_b (x_op (x_op (x_var rfl (x_c (x_head (x_tup (x_cons (x_c (x_cons (x_c (x_nil ⟨by show 2 ≤ sizeLine; omega, x_inS2d ⟨_, rfl, ?_⟩⟩)))))))))))
  refine x_ite (fun c => ?_) (fun c2 => ?_)
  · obtain ⟨r, ps, q, rfl⟩ := kn_row (by simpa using c)
    have hl : vs.length = ps.ks.length := hl
    with_reducible refine x_seq ?_
    refine x_asg (x_lc (x_iseq (x_op (x_var rfl (x_c (x_row1 ⟨klT ps, .inl rfl, fun D hD => ?_⟩))))))
    refine ⟨fun j G' => G' D = some (.lst ((ps.labels.take j).map T.str)) ∧ Ext G G', ⟨put_same, Ext.new hD⟩, fun i G' _ p hp => by simp [heldT] at hp, ?_, ?_⟩
    · intro j t G' ht ⟨e, f⟩
      obtain ⟨l, kc, rfl, ek, el⟩ := klT_at ht
      refine x_gname ?_
      unfold mtYes; dsimp only
      rw [if_pos rfl]
      refine x_op (x_var rfl (x_c (x_ixt rfl ⟨_, e, ?_, fwdG.of ⟨?_, Ext.grow hD f⟩⟩)))
      · have := ps.ks_len
        have := ps.len
        rw [List.length_map, List.length_take]; omega
      · rw [put_same, List.take_add_one, el, List.map_append]; rfl
    · intro G' ⟨e, f⟩
      have e : G' D = some (.lst (ps.labels.map T.str)) := by
        have e : G' D = some (.lst ((ps.labels.take (klT ps).length).map T.str)) := e
        rw [Kl.len, List.take_length] at e
        exact e
      refine x_gname ?_
      dsimp only
      refine x_ret (x_tup (x_cons (x_op (x_var rfl (x_c (x_head (x_cons (x_tupZip (x_var rfl (x_var rfl ⟨D, _, p, _, rfl, e, rfl, f _ _ ep, ?_⟩))))))))))
      refine x_cons (x_op (x_var rfl (x_c (x_row2 (x_nil ⟨by show 3 ≤ sizeLine; omega, fwdT.of ?_⟩)))))
      have := hR G' f
      simp only [Kn.with, knT] at this
      rw [klT_with ps vs hl] at this
      exact this
  · refine x_next ?_
    dsimp only
    refine x_ret (x_var rfl (fwdT.of ?_))
    have e : kn.with vs = kn := by
      cases kn with
      | fn a b => exact absurd rfl c1
      | row r ps q => cases r <;> simp [Kn.word, rwS] at c2
      | _ => rfl
    have := hR G (Ext.refl _)
    rwa [e] at this
end Lw

set_option Elab.async false
set_option linter.all false
set_option maxRecDepth 100000
set_option maxHeartbeats 1000000
namespace Lw
open PySem L2 Mi
variable [Tb]
local macro_rules | `(tactic| walk_at "get") => `(tactic| first | assumption | exact put_same | (refine get_new (by assumption) ?_; walk_at "get") | (refine get_ne (by assumption) ?_; walk_at "get"))
local macro_rules | `(tactic| walk_at "sq") => `(tactic| first | assumption | exact .inl rfl | exact .inr (.inl rfl) | exact .inr (.inr ⟨_, rfl, by walk_at "get"⟩))
local macro_rules | `(tactic| walk_at "size") => `(tactic| first | assumption | (simp only [List.length_cons, List.length_nil]; decide) | (have := sizeLine_eq; omega))
local macro_rules | `(tactic| walk_at "txt") => `(tactic| first | assumption | (simp only [Str.length, Str.cps_append, Array.size_append]; have := sizeLine_eq; omega))
local macro_rules | `(tactic| walk_at "go1") => `(tactic| first
  | ((with_reducible refine' x_var ?e ?_); (case e => with_unfolding_all rfl))
  | with_reducible refine x_seq ?_
  | with_reducible refine x_asg ?_
  | with_reducible refine x_if ?_
  | with_reducible refine x_ret ?_
  | with_reducible refine x_next ?_
  | with_reducible refine x_expr ?_
  | with_reducible refine x_gname ?_
  | with_reducible refine x_gcons ?_
  | with_reducible refine x_gnil ?_
  | with_reducible refine x_gsub ?_
  | with_reducible refine x_c ?_
  | with_reducible refine x_op ?_
  | with_reducible refine x_call ?_
  | with_reducible refine x_cons ?_
  | with_reducible refine x_nil ?_
  | with_reducible refine x_par ?_
  | with_reducible refine x_tup ?_
  | with_reducible refine x_lst ?_
  | with_reducible refine x_b ?_
  | with_reducible refine x_tru ?_
  | with_reducible refine x_not ?_
  | with_reducible refine x_or ?_
  | with_reducible refine x_and ?_
  | with_reducible refine x_ife ?_
  | with_reducible refine x_add ?_
  | with_reducible refine x_sub ?_
  | with_reducible refine x_gtI ?_
  | with_reducible refine x_ltI ?_
  | with_reducible refine x_geI ?_
  | with_reducible refine x_leI ?_
  | with_reducible refine x_abs ?_
  | with_reducible refine x_intb ?_
  | with_reducible refine x_for ?_
  | with_reducible refine x_irange ?_
  | with_reducible refine x_lc ?_
  | with_reducible refine x_yes ?_
  | with_reducible refine x_bm ?_
  | with_reducible refine x_bm0 ?_
  | with_reducible refine x_andv ?_
  | with_reducible refine x_orv ?_
  | with_reducible refine x_notv ?_
  | with_reducible refine x_eqI ?_
  | with_reducible refine x_tystr ?_
  | ((with_reducible refine' x_gtup ?e ?_); (case e => with_unfolding_all rfl))
  | ((with_reducible refine' x_pow ?e ?_); (case e => exact ⟨by decide, by decide, by decide⟩))
  | ((with_reducible refine' x_ix ?e ?q ?_); (case e => walk_at "get"); (case q => with_unfolding_all rfl))
  | ((with_reducible refine' x_ixt ?q ?_); (case q => with_unfolding_all rfl))
  | ((with_reducible refine' x_sto ?e ?q ?_); (case e => walk_at "get"); (case q => with_unfolding_all rfl))
  | ((with_reducible refine' x_adds ?e ?_); (case e => walk_at "txt"))
  | ((with_reducible refine' x_muls ?e ?f ?g ?_); (case e => omega); (case f => omega); (case g => walk_at "txt"))
  | ((with_reducible refine' x_divmod ?e ?_); (case e => exact ⟨by omega, by omega⟩))
  | ((with_reducible refine' x_mod ?e ?_); (case e => omega))
  | ((with_reducible refine' x_fdivC ?e ?f ?_); (case e => omega); (case f => omega))
  | ((with_reducible refine' x_mulL ?e ?f ?_); (case e => omega); (case f => omega))
  | ((with_reducible refine' x_mulR ?e ?f ?_); (case e => omega); (case f => omega))
  | ((with_reducible refine' x_len ?e ?_); (case e => walk_at "sq"))
  | ((with_reducible refine' x_range ?e ?f ?_); (case e => omega); (case f => omega))
  | ((with_reducible refine' x_tylst ?e ?_); (case e => walk_at "get"))
  | ((with_reducible refine' x_append ?e ?f ?_); (case e => walk_at "get"); (case f => walk_at "size"))
  | ((with_reducible refine' And.intro ?e ?_); (case e => (show _ ≤ sizeLine; walk_at "size")))
  | ((with_reducible refine' Exists.intro _ (And.intro ?e ?_)); (case e => with_unfolding_all rfl)))
/-! ### a kind by what its parts came to -/
def Seal (kvs : List (List Key × T)) (f : Ow) : Prop := ∀ m n : Str, lookT kvs [.inr m, .inr n] = (f m n).map knT
theorem x_get2 {mo me mf : ME} {r : Mi.Env} {G : Gp} {R : KT} (h : mo r G fun s G1 => ∃ a, s = .ref a ∧ isDct G1 a ∧ me r G1 fun t G2 => mf r G2 fun w G3 => ∃ u, gtT G3 a t u ∧ R (u.getD w) G3) : mGet2 mo me mf r G R := h
theorem x_tupK {k : MA} {r : Mi.Env} {G : Gp} {R : KT} (h : k r G fun ts G1 => ts.length ≤ sizeLine ∧ R (.pr ts) G1) : mTupK k r G R := h
theorem unsealed_ok {k : Nat} {kn : Kn} {vs : List Kn} {p sd : Addr} {kvs : List (List Key × T)} {f : Ow} {G : Gp} {R : KT} (hl : vs.length = kn.parts.length) (hz : vs.length ≤ 1000) (ep : G p = some (.lst (vs.map knT))) (es : G sd = some (.dT kvs)) (hs : Seal kvs f)
    (hR : ∀ G' : Gp, Ext G G' → R (knT (mkK f kn vs)) G') : SP (k + 2) 5 [knT kn, .ref p, .ref sd] G R := by
  have szl := sizeLine_eq
  show spOf 3 3 (b5 (SP (k + 1))) _ _ _
  refine ⟨rfl, ?_⟩
  unfold b5
  with_reducible refine x_seq ?_
  with_reducible refine x_if ?_
  refine x_b (x_op (x_op (x_var rfl (x_c (x_head (x_c (x_eqD (kn_shaped kn) (by decide +kernel) ⟨_, rfl, ?_⟩)))))))
  refine x_ite (fun c => ?_) (fun c => ?_)
  · obtain ⟨m, n, rfl⟩ := kn_own (of_decide_eq_true c)
    refine x_ret (x_get2 (x_var rfl ⟨sd, rfl, .inr (.inl ⟨kvs, es⟩), x_tupK (x_cons (x_op (x_var rfl (x_c (x_own1 ?_)))))⟩))
    refine x_cons (x_op (x_var rfl (x_c (x_own2 (x_nil ⟨by show 2 ≤ sizeLine; omega, x_var rfl ⟨_, .inr ⟨kvs, [.inr m, .inr n], es, rfl, rfl⟩, fwdT.of ?_⟩⟩)))))
    rw [hs m n]
    have := hR G (Ext.refl _)
    have e : ((f m n).map knT).getD (knT (.own m n)) = knT (mkK f (.own m n) vs) := by
      show _ = knT ((f m n).getD (.own m n))
      cases f m n <;> rfl
    rw [e]
    exact this
  · have c := of_decide_eq_false c
    refine x_next ?_
    dsimp only
    refine x_ret (x_call (x_cons (x_var rfl (x_cons (x_var rfl (x_nil (with_ok hl hz ep fun G' f' => fwdT.of ?_)))))))
    have := hR G' f'
    rwa [kn_word_ne c] at this
/-! ### the fold -/
mutual
def post : Kn → List Kn
  | .fn a b => post a ++ (post b ++ [.fn a b])
  | .row r ps q => postl ps ++ [.row r ps q]
  | .num => [.num]
  | .any i => [.any i]
  | .own m n => [.own m n]
def postl : Kl → List Kn
  | .nil => []
  | .cons _ k ps => post k ++ postl ps
end
def posts (ks : List Kn) : List Kn := ks.flatMap post
theorem postl_ks : ∀ ps : Kl, postl ps = posts ps.ks
  | .nil => rfl
  | .cons _ k ps => by simp only [postl, Kl.ks, posts, List.flatMap_cons]; rw [postl_ks ps]; rfl
theorem post_parts (k : Kn) : post k = posts k.parts ++ [k] := by
  cases k with
  | fn a b => simp [post, posts, Kn.parts]
  | row r ps q => simp only [post, Kn.parts, postl_ks]
  | _ => simp [post, posts, Kn.parts]
theorem posts_app (a b : List Kn) : posts (a ++ b) = posts a ++ posts b := List.flatMap_append
/-- the walk over the parts in their order, on a stack -/
def run (f : Ow) : List Kn → List Kn → Option (List Kn)
  | M, [] => some M
  | M, k :: r => if k.parts.length ≤ M.length then run f (M.take (M.length - k.parts.length) ++ [mkK f k (M.drop (M.length - k.parts.length))]) r else none
mutual
theorem run_post (f : Ow) : ∀ (k : Kn) (M r : List Kn), run f M (post k ++ r) = run f (M ++ [opn f k]) r
  | .num, M, r => by simp [post, run, Kn.parts, mkK, Kn.with, opn]
  | .any i, M, r => by simp [post, run, Kn.parts, mkK, Kn.with, opn]
  | .own m n, M, r => by simp [post, run, Kn.parts, mkK, opn]
  | .fn a b, M, r => by
    rw [post, List.append_assoc, run_post f a, List.append_assoc, run_post f b]
    simp only [List.append_assoc, List.cons_append, List.nil_append, run, Kn.parts, List.length_append, List.length_cons, List.length_nil]
    rw [if_pos (by omega)]
    have e : M.length + (0 + 1 + 1) - (0 + 1 + 1) = M.length := by omega
    have e2 : M.length + (0 + 1 + (0 + 1)) - (0 + 1 + 1) = M.length := by omega
    simp [mkK, Kn.with, opn]
  | .row q ps o, M, r => by
    rw [post, List.append_assoc, run_postl f ps]
    simp only [List.cons_append, List.nil_append, run, Kn.parts, List.length_append, List.length_map]
    rw [if_pos (by omega)]
    have e : M.length + ps.ks.length - ps.ks.length = M.length := by omega
    rw [e, List.take_left, List.drop_left]
    simp only [mkK, Kn.with, opn, opnl_with]
theorem run_postl (f : Ow) : ∀ (ps : Kl) (M r : List Kn), run f M (postl ps ++ r) = run f (M ++ ps.ks.map (opn f)) r
  | .nil, M, r => by simp [postl, Kl.ks]
  | .cons _ k ps, M, r => by
    rw [postl, List.append_assoc, run_post f k, run_postl f ps]
    simp [Kl.ks]
end
end Lw

set_option Elab.async false
set_option linter.all false
set_option maxRecDepth 100000
set_option maxHeartbeats 1000000
namespace Lw
open PySem L2 Mi
variable [Tb]
local macro_rules | `(tactic| walk_at "get") => `(tactic| first | assumption | exact put_same | (refine get_new (by assumption) ?_; walk_at "get") | (refine get_ne (by assumption) ?_; walk_at "get"))
local macro_rules | `(tactic| walk_at "sq") => `(tactic| first | assumption | exact .inl rfl | exact .inr (.inl rfl) | exact .inr (.inr ⟨_, rfl, by walk_at "get"⟩))
local macro_rules | `(tactic| walk_at "size") => `(tactic| first | assumption | (simp only [List.length_cons, List.length_nil]; decide) | (have := sizeLine_eq; omega))
local macro_rules | `(tactic| walk_at "txt") => `(tactic| first | assumption | (simp only [Str.length, Str.cps_append, Array.size_append]; have := sizeLine_eq; omega))
local macro_rules | `(tactic| walk_at "go1") => `(tactic| first
  | ((with_reducible refine' x_var ?e ?_); (case e => with_unfolding_all rfl))
  | with_reducible refine x_seq ?_
  | with_reducible refine x_asg ?_
  | with_reducible refine x_if ?_
  | with_reducible refine x_ret ?_
  | with_reducible refine x_next ?_
  | with_reducible refine x_expr ?_
  | with_reducible refine x_gname ?_
  | with_reducible refine x_gcons ?_
  | with_reducible refine x_gnil ?_
  | with_reducible refine x_gsub ?_
  | with_reducible refine x_c ?_
  | with_reducible refine x_op ?_
  | with_reducible refine x_call ?_
  | with_reducible refine x_cons ?_
  | with_reducible refine x_nil ?_
  | with_reducible refine x_par ?_
  | with_reducible refine x_tup ?_
  | with_reducible refine x_lst ?_
  | with_reducible refine x_b ?_
  | with_reducible refine x_tru ?_
  | with_reducible refine x_not ?_
  | with_reducible refine x_or ?_
  | with_reducible refine x_and ?_
  | with_reducible refine x_ife ?_
  | with_reducible refine x_add ?_
  | with_reducible refine x_sub ?_
  | with_reducible refine x_gtI ?_
  | with_reducible refine x_ltI ?_
  | with_reducible refine x_geI ?_
  | with_reducible refine x_leI ?_
  | with_reducible refine x_abs ?_
  | with_reducible refine x_intb ?_
  | with_reducible refine x_for ?_
  | with_reducible refine x_irange ?_
  | with_reducible refine x_lc ?_
  | with_reducible refine x_yes ?_
  | with_reducible refine x_bm ?_
  | with_reducible refine x_bm0 ?_
  | with_reducible refine x_andv ?_
  | with_reducible refine x_orv ?_
  | with_reducible refine x_notv ?_
  | with_reducible refine x_eqI ?_
  | with_reducible refine x_tystr ?_
  | ((with_reducible refine' x_gtup ?e ?_); (case e => with_unfolding_all rfl))
  | ((with_reducible refine' x_pow ?e ?_); (case e => exact ⟨by decide, by decide, by decide⟩))
  | ((with_reducible refine' x_ix ?e ?q ?_); (case e => walk_at "get"); (case q => with_unfolding_all rfl))
  | ((with_reducible refine' x_ixt ?q ?_); (case q => with_unfolding_all rfl))
  | ((with_reducible refine' x_sto ?e ?q ?_); (case e => walk_at "get"); (case q => with_unfolding_all rfl))
  | ((with_reducible refine' x_adds ?e ?_); (case e => walk_at "txt"))
  | ((with_reducible refine' x_muls ?e ?f ?g ?_); (case e => omega); (case f => omega); (case g => walk_at "txt"))
  | ((with_reducible refine' x_divmod ?e ?_); (case e => exact ⟨by omega, by omega⟩))
  | ((with_reducible refine' x_mod ?e ?_); (case e => omega))
  | ((with_reducible refine' x_fdivC ?e ?f ?_); (case e => omega); (case f => omega))
  | ((with_reducible refine' x_mulL ?e ?f ?_); (case e => omega); (case f => omega))
  | ((with_reducible refine' x_mulR ?e ?f ?_); (case e => omega); (case f => omega))
  | ((with_reducible refine' x_len ?e ?_); (case e => walk_at "sq"))
  | ((with_reducible refine' x_range ?e ?f ?_); (case e => omega); (case f => omega))
  | ((with_reducible refine' x_tylst ?e ?_); (case e => walk_at "get"))
  | ((with_reducible refine' x_append ?e ?f ?_); (case e => walk_at "get"); (case f => walk_at "size"))
  | ((with_reducible refine' And.intro ?e ?_); (case e => (show _ ≤ sizeLine; walk_at "size")))
  | ((with_reducible refine' Exists.intro _ (And.intro ?e ?_)); (case e => with_unfolding_all rfl)))
/-! ### folded -/
def FrN (G G' : Gp) : Prop := ∀ a c, G a = some c → (∀ L w, c ≠ .fnc L w) → G' a = some c
theorem FrN.refl (G : Gp) : FrN G G := fun _ _ h _ => h
theorem FrN.trans {A B D : Gp} (h : FrN A B) (k : FrN B D) : FrN A D := fun a c e n => k a c (h a c e n) n
theorem FrN.ext {A B : Gp} (h : Ext A B) : FrN A B := fun a c e _ => h a c e
theorem FrN.put {A B : Gp} {p : Addr} {c : C} (h : A p = none) (f : FrN A B) : FrN A (Mi.put B p c) := fun a d e n => by
  rw [put_ne (fun z => by rw [z, h] at e; cases e)]; exact f a d e n
theorem x_callV {i : Nat} {S : List (Str × Sm)} {Ls : List (LamT × ME)} {mas : MA} {r : Mi.Env} {G : Gp} {R : KT} (nm : Str) (sp : Sm) (e : r[i]? = some (some (.ref (Tb.gf nm)))) (hm : (nm, sp) ∈ S) (h : mas r G fun ts G1 => sp ts G1 R) : mCallV i S Ls mas r G R :=
  .inl ⟨nm, sp, e, hm, h⟩
theorem x_callF {i : Nat} {S : List (Str × Sm)} {mas : MA} {r : Mi.Env} {G : Gp} {R : KT} {f : Addr} {L : LamT} {mb : ME} {w : T} (e : r[i]? = some (some (.ref f))) (ef : G f = some (.fnc L w))
    (h : mas r G fun ts G1 => G1 f = some (.fnc L w) ∧ ts.length = L.ps.length ∧ ∀ c, mb (ts.map some ++ [some w]) (Mi.put (noF G1) f (.fnp L c)) fun t G2 => G2 f = some (.fnp L c) ∧ R t (Mi.put G2 f (.fnc L w))) : mCallV i S [(L, mb)] mas r G R :=
  .inr ⟨f, L, mb, w, e, List.mem_singleton.mpr rfl, ef, h⟩
theorem cut_from {α : Type} {xs : List α} {a : Nat} (h : a ≤ xs.length) : cutT xs (some (a : Int)) none = xs.drop a := by
  have h1 : HT.sIx xs.length 0 (some (a : Int)) = a := by rw [HT.sIx_nat]; omega
  have h2 : HT.sIx xs.length xs.length none = xs.length := rfl
  unfold cutT
  rw [h1, h2]
  exact List.take_of_length_le (by rw [List.length_drop]; omega)
theorem x_slF {p : Addr} {G : Gp} {ts : List T} {a : Nat} {R : KT} (e : G p = some (.lst ts)) (h : a ≤ ts.length) (k : ∀ q, G q = none → R (.ref q) (Mi.put G q (.lst (ts.drop a)))) : oSl (.ref p) (some (a : Int)) none G R :=
  .inr (.inl ⟨ts, .inr ⟨p, rfl, e⟩, by rw [cut_from h]; exact k⟩)
theorem x_delF {m : ME} {ml : MO} {r : Mi.Env} {G : Gp} {M : MEnds} (h : m r G fun t G1 => ml r G1 fun o G2 => ∃ (l : Addr) (ts : List T) (a : Int), t = .ref l ∧ o = some a ∧ G2 l = some (.lst ts) ∧ 0 ≤ a ∧ a ≤ ts.length ∧ M.nx r (Mi.put G2 l (.lst (ts.take a.toNat)))) : msDelFrom m ml M r G := h
theorem x_slMV {m ml : ME} {r : Mi.Env} {G : Gp} {R : KT} (h : m r G fun t G1 => ml r G1 fun u G2 => ∃ i, u = .int i ∧ oSl t (some i) none G2 R) : mSl m (moS ml) moN r G R := h
theorem lam_len : lam3.ps.length = 2 := by
  unfold lam3 lamAt
  split <;> rfl
def prF (k : Kn) : T := .tup [knT k, .int (k.parts.length : Nat)]
theorem folded_ok {k : Nat} {kn : Kn} {fa sd : Addr} {kvs : List (List Key × T)} {f : Ow} {G : Gp} {R : KT} (hz : nK kn ≤ 900) (ef : G fa = some (.fnc lam3 (.ref sd))) (es : G sd = some (.dT kvs)) (hs : Seal kvs f)
    (hR : ∀ G' : Gp, FrN G G' → R (knT (opn f kn)) G') : SP (k + 5) 0 [knT kn, .ref (Tb.gf "kind_parts"), .ref fa] G R := by
  have szl := sizeLine_eq
  show spOf 11 3 (b0 (SP (k + 4)) (some (SP (k + 3)))) _ _ _
  refine ⟨rfl, ?_⟩
  unfold b0
  with_reducible refine x_seq ?_
  refine x_asg (x_lst (x_nil ⟨by show 0 ≤ sizeLine; omega, fun pf hpf => x_gname ?_⟩))
  dsimp only
  with_reducible refine x_seq ?_
  refine x_asg (x_lst (x_cons (x_var rfl (x_nil ⟨by show 1 ≤ sizeLine; omega, fun td htd => x_gname ?_⟩))))
  dsimp only
  have tdf : td ≠ pf := fun z => by rw [z, put_same] at htd; cases htd
  have htd0 : G td = none := by rwa [put_ne tdf] at htd
  with_reducible refine x_seq ?_
  refine x_while (fun n r G' => ∃ (st F : List Kn) (x5 x6 : Option T), r = [some (knT kn), some (.ref (Tb.gf "kind_parts")), some (.ref fa), some (.ref pf), some (.ref td), x5, x6, none, none, none, none] ∧ G' pf = some (.lst (F.map prF)) ∧ G' td = some (.lst (st.map knT)) ∧
      n = nKs st ∧ nKs st + F.length ≤ nK kn ∧ post kn = posts st ++ F.reverse ∧ Ext G G')
    ⟨nKs [kn], [kn], [], none, none, rfl, by rw [put_ne (Ne.symm tdf)]; exact put_same, put_same, rfl, by simp [nKs], by simp [posts], Ext.grow htd0 (Ext.new hpf)⟩ ?_
  intro n r G1 ⟨st, F, x5, x6, er, epf, etd, en, le, hp, f1⟩
  subst er
  refine x_tru (x_var rfl ⟨_, tru_lst etd, ?_⟩)
  cases hst : st with
  | cons s0 sr =>
    rw [← hst]
    have ne : st ≠ [] := by rw [hst]; exact List.cons_ne_nil _ _
    obtain ⟨rest, kc, rfl⟩ : ∃ rest kc, st = rest ++ [kc] := ⟨st.dropLast, st.getLast ne, (List.dropLast_concat_getLast ne).symm⟩
    refine x_iteT (by rw [List.isEmpty_map]; cases rest <;> rfl) ?_
    rw [List.map_append] at etd
    rw [nKs_app] at en le
    have n1 : nKs [kc] = nK kc := by simp [nKs]
    have n2 := nK_parts kc
    have n3 := nKs_len kc.parts
    have n4 := nKs_len rest
    with_reducible refine x_seq ?_
    refine x_asg (x_bm0 (x_var rfl (x_tylst etd (x_pop etd (x_gname ?_)))))
    dsimp only
    have epf2 : Mi.put G1 td (.lst (rest.map knT)) pf = some (.lst (F.map prF)) := by rw [put_ne (Ne.symm tdf)]; exact epf
    with_reducible refine x_seq ?_
    refine x_asg (x_callV "kind_parts" _ rfl (List.mem_singleton.mpr rfl) (x_cons (x_var rfl (x_nil (parts_ok (k := k + 3) (by omega) fun p G2 hpn ep f2 => x_gname ?_)))))
    dsimp only
    have f12 : Ext G G2 := Ext.trans (Ext.grow htd0 f1) f2
    have etd2 := f2 _ _ put_same
    have epf3 := f2 _ _ epf2
    have tdp : td ≠ p := fun z => by rw [← z, put_same] at hpn; cases hpn
    have pfp : pf ≠ p := fun z => by rw [← z, epf2] at hpn; cases hpn
    have ppf : G2 p = some (.lst (kc.parts.map knT)) := ep
    with_reducible refine x_seq ?_
    refine x_expr (x_bm (x_var rfl (x_tylst epf3 (x_cons (x_tup (x_cons (x_var rfl (x_cons (x_call (x_cons (x_var rfl (x_nil (x_len (.inr (.inr ⟨p, rfl, ep⟩)) ?_)))))))))))))
    refine x_nil ⟨by show 2 ≤ sizeLine; omega, x_nil (x_append epf3 (by rw [List.length_map]; omega) ?_)⟩
    dsimp only
    have ep4 : Mi.put G2 pf (.lst (F.map prF ++ [.tup [knT kc, .int ((kc.parts.map knT).length : Nat)]])) p = some (.lst (kc.parts.map knT)) := by rw [put_ne (Ne.symm pfp)]; exact ep
    have etd4 : Mi.put G2 pf (.lst (F.map prF ++ [.tup [knT kc, .int ((kc.parts.map knT).length : Nat)]])) td = some (.lst (rest.map knT)) := by rw [put_ne tdf]; exact etd2
    refine x_expr (x_bm (x_var rfl (x_tylst etd4 (x_cons (x_var rfl (x_nil (x_extend etd4 ep4 (by rw [List.length_map, List.length_map]; omega) ?_)))))))
    refine fwd.of ⟨nKs (rest ++ kc.parts), by rw [en, nKs_app]; omega, rest ++ kc.parts, F ++ [kc], _, _, rfl, ?_, by rw [put_same, List.map_append], rfl, by rw [nKs_app, List.length_append, List.length_singleton]; omega, ?_, ?_⟩
    · rw [put_ne (Ne.symm tdf), put_same, List.map_append, List.length_map]; rfl
    · rw [hp, posts_app, posts_app, List.reverse_append]
      have e1 : posts [kc] = post kc := by simp [posts]
      rw [e1, post_parts]
      simp
    · exact Ext.grow htd0 (Ext.grow hpf f12)
  | nil =>
    subst hst
    have hp : post kn = F.reverse := by rw [hp]; rfl
    refine x_iteF rfl ?_
    dsimp only
    have lF : (post kn).length ≤ nK kn := by rw [hp, List.length_reverse]; omega
    have ef1 := f1 _ _ ef
    have es1 := f1 _ _ es
    with_reducible refine x_seq ?_
    refine x_asg (x_lst (x_nil ⟨by show 0 ≤ sizeLine; omega, fun md hmd => x_gname ?_⟩))
    dsimp only
    have md0 : G md = none := by
      cases e : G md with
      | none => rfl
      | some c => rw [f1 _ _ e] at hmd; cases hmd
    have mdf : md ≠ fa := fun z => by rw [z, ef1] at hmd; cases hmd
    have mds : md ≠ sd := fun z => by rw [z, es1] at hmd; cases hmd
    have mdp : md ≠ pf := fun z => by rw [z, epf] at hmd; cases hmd
    with_reducible refine x_seq ?_
    refine x_for (x_iseq (x_rev (x_var rfl ⟨F.map prF, .inr ⟨pf, rfl, by rw [put_ne (Ne.symm mdp)]; exact epf⟩, fun D hD => ⟨(post kn).map prF, .inr (.inl (.inr ⟨D, rfl, by rw [put_same, ← List.map_reverse, hp]⟩)), ?_⟩⟩)))
    have Dmd : D ≠ md := fun z => by rw [z, put_same] at hD; cases hD
    have hD1 : G1 D = none := by rwa [put_ne Dmd] at hD
    have Df : D ≠ fa := fun z => by rw [z, ef1] at hD1; cases hD1
    have Ds : D ≠ sd := fun z => by rw [z, es1] at hD1; cases hD1
    have D0 : G D = none := by
      cases e : G D with
      | none => rfl
      | some c => rw [f1 _ _ e] at hD1; cases hD1
    refine ⟨fun i r G' => ∃ (M : List Kn) (x5 x6 x8 x9 x10 : Option T), r = [some (knT kn), some (.ref (Tb.gf "kind_parts")), some (.ref fa), some (.ref pf), some (.ref td), x5, x6, some (.ref md), x8, x9, x10] ∧ G' md = some (.lst (M.map knT)) ∧ G' D = some (.lst ((post kn).map prF)) ∧
      G' fa = some (.fnc lam3 (.ref sd)) ∧ G' sd = some (.dT kvs) ∧ run f M ((post kn).drop i) = some [opn f kn] ∧ M.length ≤ i ∧ FrN G G', ?_, ?_, ?_, ?_⟩
    · refine ⟨[], _, _, none, none, none, rfl, by rw [put_ne (Ne.symm Dmd)]; exact put_same, by rw [put_same, ← List.map_reverse, hp], ?_, ?_, ?_, Nat.le_refl 0, ?_⟩
      · rw [put_ne (Ne.symm Df), put_ne (Ne.symm mdf)]; exact ef1
      · rw [put_ne (Ne.symm Ds), put_ne (Ne.symm mds)]; exact es1
      · have := run_post f kn [] []
        rw [List.append_nil] at this
        rw [List.drop_zero, this]
        rfl
      · exact FrN.put D0 (FrN.put md0 (FrN.ext f1))
    · intro i r G' ⟨M, _, _, _, _, _, _, _, eD, _⟩ p hp'
      have : p = (D, (post kn).map prF) := by simpa [heldT] using hp'
      rw [this]; exact eD
    · intro i t r G2 ht ⟨M, x5, x6, x8, x9, x10, er, emd, eD, ef2, es2, hrun, hM, fr⟩
      subst er
      obtain ⟨kc, hk, rfl⟩ : ∃ kc, (post kn)[i]? = some kc ∧ t = prF kc := by
        have ht : ((post kn).map prF)[i]? = some t := ht
        rw [List.getElem?_map] at ht
        cases e : (post kn)[i]? with
        | none => rw [e] at ht; cases ht
        | some kc => rw [e] at ht; cases ht; exact ⟨kc, rfl, rfl⟩
      have hi := (List.getElem?_eq_some_iff.mp hk).1
      have hdrop : (post kn).drop i = kc :: (post kn).drop (i + 1) := by
        rw [List.drop_eq_getElem_cons hi]
        congr 1
        exact Option.some.inj ((List.getElem?_eq_getElem hi).symm.trans hk)
      rw [hdrop] at hrun
      unfold run at hrun
      by_cases hle : kc.parts.length ≤ M.length
      · rw [if_pos hle] at hrun
        refine x_gtup rfl (x_gcons (x_gname (x_gcons (x_gname (x_gnil ?_)))))
        dsimp only
        with_reducible refine x_seq ?_
        refine x_asg (x_op (x_call (x_cons (x_var rfl (x_nil (x_len (.inr (.inr ⟨md, rfl, emd⟩)) (x_var rfl (x_sub (x_gname ?_)))))))))
        have est : (((M.map knT).length : Nat) : Int) - ((kc.parts.length : Nat) : Int) = ((M.length - kc.parts.length : Nat) : Int) := by rw [List.length_map]; omega
        rw [est]
        dsimp only
        with_reducible refine x_seq ?_
        refine x_asg (x_slMV (x_var rfl (x_var rfl ⟨_, rfl, x_slF emd (by rw [List.length_map]; omega) fun q hq => x_gname ?_⟩)))
        dsimp only
        generalize ha : M.length - kc.parts.length = a at hrun ⊢
        have qm : q ≠ md := fun z => by rw [z, emd] at hq; cases hq
        have qD : q ≠ D := fun z => by rw [z, eD] at hq; cases hq
        have qf : q ≠ fa := fun z => by rw [z, ef2] at hq; cases hq
        have qs : q ≠ sd := fun z => by rw [z, es2] at hq; cases hq
        have q0 : G q = none ∨ ∃ L w, G q = some (.fnc L w) := by
          cases e : G q with
          | none => exact .inl rfl
          | some c =>
            cases c with
            | fnc L w => exact .inr ⟨L, w, rfl⟩
            | _ => have := fr q _ e (by simp); rw [this] at hq; cases hq
        with_reducible refine x_seq ?_
        refine x_delF (x_var rfl (x_var rfl ⟨_, rfl, md, M.map knT, a, rfl, rfl, by rw [put_ne (Ne.symm qm)]; exact emd, by omega, by rw [List.length_map]; omega, ?_⟩))
        dsimp only
        rw [Int.toNat_natCast]
        generalize hG4 : Mi.put (Mi.put G2 q (.lst ((M.map knT).drop a))) md (.lst ((M.map knT).take a)) = G4
        have e4 : ∀ {p : Addr} {c : C}, p ≠ q → p ≠ md → G2 p = some c → G4 p = some c := fun {p c} h1 h2 h3 => by rw [← hG4, put_ne h2, put_ne h1]; exact h3
        have em4 : G4 md = some (.lst ((M.map knT).take a)) := by rw [← hG4]; exact put_same
        have eq4 : G4 q = some (.lst ((M.drop a).map knT)) := by rw [← hG4, put_ne qm, put_same, List.map_drop]
        have ef4 : G4 fa = some (.fnc lam3 (.ref sd)) := e4 (Ne.symm qf) (Ne.symm mdf) ef2
        have es4 : G4 sd = some (.dT kvs) := e4 (Ne.symm qs) (Ne.symm mds) es2
        have eD4 : G4 D = some (.lst ((post kn).map prF)) := e4 (Ne.symm qD) Dmd eD
        have fs : sd ≠ fa := fun z => by rw [z, ef4] at es4; cases es4
        refine x_expr (x_bm (x_var rfl (x_tylst em4 (x_cons (x_callF rfl ef4 (x_cons (x_var rfl (x_cons (x_var rfl (x_nil ⟨ef4, lam_len.symm, fun c => ?_⟩))))))))))
        show mCall (SP (k + 3) 5) _ _ _ _
        have g5 : ∀ {p : Addr} {c' : C}, p ≠ fa → G4 p = some c' → (∀ L w, c' ≠ .fnc L w) → Mi.put (noF G4) fa (.fnp lam3 c) p = some c' := fun {p c'} h1 h2 h3 => by rw [put_ne h1]; exact noF_at h2 h3
        have hlen : (M.drop a).length = kc.parts.length := by rw [List.length_drop]; omega
        have hpl := nKs_len kc.parts
        refine x_call (x_cons (x_var rfl (x_cons (x_var rfl (x_cons (x_var rfl (x_nil (unsealed_ok (k := k + 1) (vs := M.drop a) hlen (by rw [List.length_drop]; omega) (g5 qf eq4 (by simp)) (g5 fs es4 (by simp)) hs fun G5 f5 => ⟨f5 _ _ put_same, ?_⟩))))))))
        have g6 : ∀ {p : Addr} {c' : C}, p ≠ fa → G4 p = some c' → (∀ L w, c' ≠ .fnc L w) → Mi.put G5 fa (.fnc lam3 (.ref sd)) p = some c' := fun {p c'} h1 h2 h3 => by rw [put_ne h1]; exact f5 _ _ (g5 h1 h2 h3)
        refine x_nil (x_append (g6 mdf em4 (by simp)) (by rw [List.length_take, List.length_map]; omega) ?_)
        refine fwd.of ⟨M.take a ++ [mkK f kc (M.drop a)], _, _, _, _, _, rfl, ?_, ?_, ?_, ?_, hrun, ?_, ?_⟩
        · rw [put_same, List.map_append, List.map_take]; rfl
        · rw [put_ne Dmd]; exact g6 Df eD4 (by simp)
        · rw [put_ne (Ne.symm mdf), put_same]
        · rw [put_ne (Ne.symm mds)]; exact g6 fs es4 (by simp)
        · rw [List.length_append, List.length_take, List.length_singleton]; omega
        · intro p c' e n
          have np : p ≠ md := fun z => by rw [z, md0] at e; cases e
          have nf : p ≠ fa := fun z => by rw [z, ef] at e; cases e; exact n _ _ rfl
          have nq : p ≠ q := fun z => by
            rw [z] at e
            rcases q0 with h0 | ⟨L, w, h0⟩ <;> rw [h0] at e <;> cases e
            exact n _ _ rfl
          rw [put_ne np]
          exact g6 nf (e4 nq np (fr p c' e n)) n
      · rw [if_neg hle] at hrun; cases hrun
    · intro r G' ⟨M, x5, x6, x8, x9, x10, er, emd, eD, ef2, es2, hrun, hM, fr⟩
      subst er
      have hl : ((post kn).map prF).length = (post kn).length := List.length_map _
      have hrun : run f M ((post kn).drop ((post kn).map prF).length) = some [opn f kn] := hrun
      rw [hl, List.drop_length] at hrun
      have eM : M = [opn f kn] := by unfold run at hrun; exact Option.some.inj hrun
      subst eM
      dsimp only
      refine x_ret (x_op (x_var rfl (x_c (x_ix emd (atI0 _ _) (fwdT.of (hR G' fr))))))
end Lw

set_option Elab.async false
set_option linter.all false
set_option maxRecDepth 100000
set_option maxHeartbeats 1000000
namespace Lw
open PySem L2 Mi
variable [Tb]
local macro_rules | `(tactic| walk_at "get") => `(tactic| first | assumption | exact put_same | (refine get_new (by assumption) ?_; walk_at "get") | (refine get_ne (by assumption) ?_; walk_at "get"))
local macro_rules | `(tactic| walk_at "sq") => `(tactic| first | assumption | exact .inl rfl | exact .inr (.inl rfl) | exact .inr (.inr ⟨_, rfl, by walk_at "get"⟩))
local macro_rules | `(tactic| walk_at "size") => `(tactic| first | assumption | (simp only [List.length_cons, List.length_nil]; decide) | (have := sizeLine_eq; omega))
local macro_rules | `(tactic| walk_at "txt") => `(tactic| first | assumption | (simp only [Str.length, Str.cps_append, Array.size_append]; have := sizeLine_eq; omega))
local macro_rules | `(tactic| walk_at "go1") => `(tactic| first
  | ((with_reducible refine' x_var ?e ?_); (case e => with_unfolding_all rfl))
  | with_reducible refine x_seq ?_
  | with_reducible refine x_asg ?_
  | with_reducible refine x_if ?_
  | with_reducible refine x_ret ?_
  | with_reducible refine x_next ?_
  | with_reducible refine x_expr ?_
  | with_reducible refine x_gname ?_
  | with_reducible refine x_gcons ?_
  | with_reducible refine x_gnil ?_
  | with_reducible refine x_gsub ?_
  | with_reducible refine x_c ?_
  | with_reducible refine x_op ?_
  | with_reducible refine x_call ?_
  | with_reducible refine x_cons ?_
  | with_reducible refine x_nil ?_
  | with_reducible refine x_par ?_
  | with_reducible refine x_tup ?_
  | with_reducible refine x_lst ?_
  | with_reducible refine x_b ?_
  | with_reducible refine x_tru ?_
  | with_reducible refine x_not ?_
  | with_reducible refine x_or ?_
  | with_reducible refine x_and ?_
  | with_reducible refine x_ife ?_
  | with_reducible refine x_add ?_
  | with_reducible refine x_sub ?_
  | with_reducible refine x_gtI ?_
  | with_reducible refine x_ltI ?_
  | with_reducible refine x_geI ?_
  | with_reducible refine x_leI ?_
  | with_reducible refine x_abs ?_
  | with_reducible refine x_intb ?_
  | with_reducible refine x_for ?_
  | with_reducible refine x_irange ?_
  | with_reducible refine x_lc ?_
  | with_reducible refine x_yes ?_
  | with_reducible refine x_bm ?_
  | with_reducible refine x_bm0 ?_
  | with_reducible refine x_andv ?_
  | with_reducible refine x_orv ?_
  | with_reducible refine x_notv ?_
  | with_reducible refine x_eqI ?_
  | with_reducible refine x_tystr ?_
  | ((with_reducible refine' x_gtup ?e ?_); (case e => with_unfolding_all rfl))
  | ((with_reducible refine' x_pow ?e ?_); (case e => exact ⟨by decide, by decide, by decide⟩))
  | ((with_reducible refine' x_ix ?e ?q ?_); (case e => walk_at "get"); (case q => with_unfolding_all rfl))
  | ((with_reducible refine' x_ixt ?q ?_); (case q => with_unfolding_all rfl))
  | ((with_reducible refine' x_sto ?e ?q ?_); (case e => walk_at "get"); (case q => with_unfolding_all rfl))
  | ((with_reducible refine' x_adds ?e ?_); (case e => walk_at "txt"))
  | ((with_reducible refine' x_muls ?e ?f ?g ?_); (case e => omega); (case f => omega); (case g => walk_at "txt"))
  | ((with_reducible refine' x_divmod ?e ?_); (case e => exact ⟨by omega, by omega⟩))
  | ((with_reducible refine' x_mod ?e ?_); (case e => omega))
  | ((with_reducible refine' x_fdivC ?e ?f ?_); (case e => omega); (case f => omega))
  | ((with_reducible refine' x_mulL ?e ?f ?_); (case e => omega); (case f => omega))
  | ((with_reducible refine' x_mulR ?e ?f ?_); (case e => omega); (case f => omega))
  | ((with_reducible refine' x_len ?e ?_); (case e => walk_at "sq"))
  | ((with_reducible refine' x_range ?e ?f ?_); (case e => omega); (case f => omega))
  | ((with_reducible refine' x_tylst ?e ?_); (case e => walk_at "get"))
  | ((with_reducible refine' x_append ?e ?f ?_); (case e => walk_at "get"); (case f => walk_at "size"))
  | ((with_reducible refine' And.intro ?e ?_); (case e => (show _ ≤ sizeLine; walk_at "size")))
  | ((with_reducible refine' Exists.intro _ (And.intro ?e ?_)); (case e => with_unfolding_all rfl)))
/-! ### opened -/
abbrev Op := Str × Str × Kn
def opT (z : Op) : T := .tup [.str z.1, .str z.2.1, knT z.2.2]
def look (os : List Op) : Ow := fun m n => (os.find? fun z => decide (z.1 = m) && decide (z.2.1 = n)).map (·.2.2)
def kvT (z : Op) : List Key × T := ([.inr z.1, .inr z.2.1], knT z.2.2)
theorem seal_look : ∀ os : List Op, Seal (os.map kvT) (look os)
  | [], m, n => rfl
  | z :: os, m, n => by
    have ih := seal_look os m n
    unfold lookT look at ih ⊢
    rw [List.map_cons]
    by_cases h : z.1 = m ∧ z.2.1 = n
    · obtain ⟨rfl, rfl⟩ := h
      rw [List.find?_cons_of_pos (by simp [kvT]), List.find?_cons_of_pos (by simp)]
      rfl
    · rw [List.find?_cons_of_neg (by simp only [kvT, decide_eq_true_eq]; intro e; simp at e; exact h e), List.find?_cons_of_neg (by simpa using h)]
      exact ih
theorem look_nil : look [] = fun _ _ => none := rfl
mutual
theorem opn_none : ∀ k : Kn, opn (fun _ _ => none) k = k
  | .num => by simp only [opn]
  | .any _ => by simp only [opn]
  | .own _ _ => by simp [opn]
  | .fn a b => by simp only [opn, opn_none a, opn_none b]
  | .row r ps q => by simp only [opn, opnl_none ps]
theorem opnl_none : ∀ ps : Kl, opnl (fun _ _ => none) ps = ps
  | .nil => by simp only [opnl]
  | .cons l k ps => by simp only [opnl, opn_none k, opnl_none ps]
end
mutual
theorem opn_no (f : Ow) : ∀ k : Kn, hasO k = false → opn f k = k
  | .num, _ => by simp only [opn]
  | .any _, _ => by simp only [opn]
  | .own _ _, h => by simp [hasO] at h
  | .fn a b, h => by
    simp only [hasO, Bool.or_eq_false_iff] at h
    simp only [opn, opn_no f a h.1, opn_no f b h.2]
  | .row r ps q, h => by
    simp only [hasO] at h
    simp only [opn, opnl_no f ps h]
theorem opnl_no (f : Ow) : ∀ ps : Kl, hasOl ps = false → opnl f ps = ps
  | .nil, _ => by simp only [opnl]
  | .cons l k ps, h => by
    simp only [hasOl, Bool.or_eq_false_iff] at h
    simp only [opnl, opn_no f k h.1, opnl_no f ps h.2]
end
theorem x_dcT {w : MI} {g : MG} {tk tv : ME} {vs : List Nat} {r : Mi.Env} {G : Gp} {R : KT} (h : w r G fun m G1 => ∀ D, G1 D = none → ∃ W : Nat → Gp → Prop, W 0 (Mi.put G1 D (.dT [])) ∧ (∀ i G, W i G → Held G m.held) ∧
  (∀ i t G, m.its[i]? = some t → W i G → g t (wipeT r vs) G fun r2 G2 => tk r2 G2 fun y G3 => tv r2 G3 fun z G4 => ∃ (kvs : List (List Key × T)) (k : List Key), y = .pr (k.map kT) ∧ G4 D = some (.dT kvs) ∧ kvs.length < sizeLine ∧
    fwdG (W (i + 1)) (Mi.put G4 D (.dT (putT kvs k z)))) ∧ ∀ G, W m.its.length G → R (.ref D) G) : mDcT w g tk tv vs r G R := h
theorem put_newT {kvs : List (List Key × T)} {k : List Key} {t : T} (h : ∀ p ∈ kvs, p.1 ≠ k) : putT kvs k t = kvs ++ [(k, t)] := by
  unfold putT
  rw [if_neg]
  simp only [List.any_eq_true, decide_eq_true_eq, not_exists, not_and]
  exact fun p hp => h p hp
theorem opened_ok {k : Nat} {kn : Kn} {os : List Op} {t : T} {G : Gp} {R : KT} (hz : nK kn ≤ 900) (ho : os.length ≤ 100) (nd : (os.map fun z => (z.1, z.2.1)).Nodup) (hsrc : t = .tup (os.map opT) ∨ ∃ p, t = .ref p ∧ G p = some (.lst (os.map opT)))
    (tab : G (Tb.at_ 3) = some (.tab lam3.qual)) (hR : ∀ G' : Gp, FrN G G' → R (knT (opn (look os) kn)) G') : SP (k + 7) 3 [knT kn, t] G R := by
  have szl := sizeLine_eq
  show spOf 6 2 (b3 (SP (k + 6))) _ _ _
  refine ⟨rfl, ?_⟩
  unfold b3
  have tru : truT G t (!os.isEmpty) := by
    rcases hsrc with rfl | ⟨p, rfl, e⟩
    · show (!os.isEmpty) = !(os.map opT).isEmpty
      rw [List.isEmpty_map]
    · have := tru_lst e
      rwa [List.isEmpty_map] at this
  with_reducible refine x_seq ?_
  with_reducible refine x_if ?_
  refine x_or (x_not (x_tru (x_var rfl ⟨_, tru, ?_⟩)))
  cases hos : os with
  | nil =>
    subst hos
    refine x_iteT rfl (x_iteT rfl (x_ret (x_var rfl (fwdT.of ?_))))
    have := hR G (FrN.refl G)
    rw [look_nil, opn_none] at this
    exact this
  | cons z0 zr =>
  rw [← hos]
  have hne : os.isEmpty = false := by rw [hos]; rfl
  refine x_iteF (by rw [hne]; rfl) (x_not (x_tru (x_call (x_cons (x_var rfl (x_nil (hasOwn_ok (k := k + 4) (by omega) fun G1 f1 => ⟨_, rfl, ?_⟩)))))))
  cases hh : hasO kn with
  | false =>
    refine x_iteT rfl (x_ret (x_var rfl (fwdT.of ?_)))
    have := hR G1 (FrN.ext f1)
    rw [opn_no _ kn hh] at this
    exact this
  | true =>
  refine x_iteF rfl (x_next ?_)
  dsimp only
  have src1 : srcT G1 t (os.map opT) := by
    rcases hsrc with rfl | ⟨p, rfl, e⟩
    · exact .inl rfl
    · exact .inr (.inl (.inr ⟨p, rfl, f1 _ _ e⟩))
  have held1 : ∀ G', Ext G1 G' → Held G' (heldT t (os.map opT)) := fun G' f p hp => by
    rcases hsrc with rfl | ⟨p', rfl, e⟩
    · simp [heldT] at hp
    · have : p = (p', os.map opT) := by simpa [heldT] using hp
      rw [this]; exact f _ _ (f1 _ _ e)
  with_reducible refine x_seq ?_
  refine x_asg (x_dcT (x_iseq (x_var rfl ⟨os.map opT, src1, fun D hD => ?_⟩)))
  refine ⟨fun i G' => G' D = some (.dT ((os.take i).map kvT)) ∧ Ext G1 G', ⟨put_same, Ext.new hD⟩, fun i G' ⟨_, f⟩ => held1 G' f, ?_, ?_⟩
  · intro i u G' hu ⟨e, f⟩
    obtain ⟨z, hz1, rfl⟩ : ∃ z, os[i]? = some z ∧ u = opT z := by
      have hu : (os.map opT)[i]? = some u := hu
      rw [List.getElem?_map] at hu
      cases e : os[i]? with
      | none => rw [e] at hu; cases hu
      | some z => rw [e] at hu; cases hu; exact ⟨z, rfl, rfl⟩
    have hi := (List.getElem?_eq_some_iff.mp hz1).1
    refine x_gtup rfl (x_gcons (x_gname (x_gcons (x_gname (x_gcons (x_gname (x_gnil ?_)))))))
    refine x_tupK (x_cons (x_var rfl (x_cons (x_var rfl (x_nil ⟨by show 2 ≤ sizeLine; omega, x_var rfl ⟨_, [.inr z.1, .inr z.2.1], rfl, e, ?_, fwdG.of ⟨?_, Ext.grow hD f⟩⟩⟩)))))
    · rw [List.length_map, List.length_take]; omega
    · rw [put_same, put_newT, List.take_add_one, hz1, List.map_append]
      · rfl
      · intro p hp e2
        obtain ⟨y, hy, rfl⟩ := List.mem_map.mp hp
        have e3 : y.1 = z.1 ∧ y.2.1 = z.2.1 := by simpa [kvT] using e2
        have tk : os.take (i + 1) = os.take i ++ [z] := by rw [List.take_add_one, hz1]; rfl
        have nd2 : ((os.take (i + 1)).map fun z => (z.1, z.2.1)).Nodup := nd.sublist ((List.take_sublist _ _).map _)
        rw [tk, List.map_append] at nd2
        have := (List.nodup_append.mp nd2).2.2 (y.1, y.2.1) (List.mem_map.mpr ⟨y, hy, rfl⟩) (z.1, z.2.1) (by simp)
        exact this (by rw [e3.1, e3.2])
  · intro G2 ⟨e, f2⟩
    have e : G2 D = some (.dT (os.map kvT)) := by
      have e : G2 D = some (.dT ((os.take (os.map opT).length).map kvT)) := e
      rw [List.length_map, List.take_length] at e
      exact e
    refine x_gname ?_
    dsimp only
    refine x_ret (x_var rfl ⟨f2 _ _ (f1 _ _ tab), .ref D, rfl, fun fa hfa => ?_⟩)
    have Df : D ≠ fa := fun z => by rw [z, hfa] at e; cases e
    refine folded_ok (k := k + 1) hz put_same (by rw [put_ne Df]; exact e) (seal_look os) fun G3 f3 => fwdT.of (hR (noF G3) fun p c ep n => noF_at ?_ n)
    have e2 := f2 _ _ (f1 _ _ ep)
    exact f3 p c (by rw [put_ne (fun z => by rw [z, hfa] at e2; cases e2)]; exact e2) n
end Lw

set_option Elab.async false
set_option linter.all false
set_option maxRecDepth 100000
set_option maxHeartbeats 1000000
namespace Lw
open PySem L2 Mi
variable [Tb]
local macro_rules | `(tactic| walk_at "get") => `(tactic| first | assumption | exact put_same | (refine get_new (by assumption) ?_; walk_at "get") | (refine get_ne (by assumption) ?_; walk_at "get"))
local macro_rules | `(tactic| walk_at "sq") => `(tactic| first | assumption | exact .inl rfl | exact .inr (.inl rfl) | exact .inr (.inr ⟨_, rfl, by walk_at "get"⟩))
local macro_rules | `(tactic| walk_at "size") => `(tactic| first | assumption | (simp only [List.length_cons, List.length_nil]; decide) | (have := sizeLine_eq; omega))
local macro_rules | `(tactic| walk_at "txt") => `(tactic| first | assumption | (simp only [Str.length, Str.cps_append, Array.size_append]; have := sizeLine_eq; omega))
local macro_rules | `(tactic| walk_at "go1") => `(tactic| first
  | ((with_reducible refine' x_var ?e ?_); (case e => with_unfolding_all rfl))
  | with_reducible refine x_seq ?_
  | with_reducible refine x_asg ?_
  | with_reducible refine x_if ?_
  | with_reducible refine x_ret ?_
  | with_reducible refine x_next ?_
  | with_reducible refine x_expr ?_
  | with_reducible refine x_gname ?_
  | with_reducible refine x_gcons ?_
  | with_reducible refine x_gnil ?_
  | with_reducible refine x_gsub ?_
  | with_reducible refine x_c ?_
  | with_reducible refine x_op ?_
  | with_reducible refine x_call ?_
  | with_reducible refine x_cons ?_
  | with_reducible refine x_nil ?_
  | with_reducible refine x_par ?_
  | with_reducible refine x_tup ?_
  | with_reducible refine x_lst ?_
  | with_reducible refine x_b ?_
  | with_reducible refine x_tru ?_
  | with_reducible refine x_not ?_
  | with_reducible refine x_or ?_
  | with_reducible refine x_and ?_
  | with_reducible refine x_ife ?_
  | with_reducible refine x_add ?_
  | with_reducible refine x_sub ?_
  | with_reducible refine x_gtI ?_
  | with_reducible refine x_ltI ?_
  | with_reducible refine x_geI ?_
  | with_reducible refine x_leI ?_
  | with_reducible refine x_abs ?_
  | with_reducible refine x_intb ?_
  | with_reducible refine x_for ?_
  | with_reducible refine x_irange ?_
  | with_reducible refine x_lc ?_
  | with_reducible refine x_yes ?_
  | with_reducible refine x_bm ?_
  | with_reducible refine x_bm0 ?_
  | with_reducible refine x_andv ?_
  | with_reducible refine x_orv ?_
  | with_reducible refine x_notv ?_
  | with_reducible refine x_eqI ?_
  | with_reducible refine x_tystr ?_
  | ((with_reducible refine' x_gtup ?e ?_); (case e => with_unfolding_all rfl))
  | ((with_reducible refine' x_pow ?e ?_); (case e => exact ⟨by decide, by decide, by decide⟩))
  | ((with_reducible refine' x_ix ?e ?q ?_); (case e => walk_at "get"); (case q => with_unfolding_all rfl))
  | ((with_reducible refine' x_ixt ?q ?_); (case q => with_unfolding_all rfl))
  | ((with_reducible refine' x_sto ?e ?q ?_); (case e => walk_at "get"); (case q => with_unfolding_all rfl))
  | ((with_reducible refine' x_adds ?e ?_); (case e => walk_at "txt"))
  | ((with_reducible refine' x_muls ?e ?f ?g ?_); (case e => omega); (case f => omega); (case g => walk_at "txt"))
  | ((with_reducible refine' x_divmod ?e ?_); (case e => exact ⟨by omega, by omega⟩))
  | ((with_reducible refine' x_mod ?e ?_); (case e => omega))
  | ((with_reducible refine' x_fdivC ?e ?f ?_); (case e => omega); (case f => omega))
  | ((with_reducible refine' x_mulL ?e ?f ?_); (case e => omega); (case f => omega))
  | ((with_reducible refine' x_mulR ?e ?f ?_); (case e => omega); (case f => omega))
  | ((with_reducible refine' x_len ?e ?_); (case e => walk_at "sq"))
  | ((with_reducible refine' x_range ?e ?f ?_); (case e => omega); (case f => omega))
  | ((with_reducible refine' x_tylst ?e ?_); (case e => walk_at "get"))
  | ((with_reducible refine' x_append ?e ?f ?_); (case e => walk_at "get"); (case f => walk_at "size"))
  | ((with_reducible refine' And.intro ?e ?_); (case e => (show _ ≤ sizeLine; walk_at "size")))
  | ((with_reducible refine' Exists.intro _ (And.intro ?e ?_)); (case e => with_unfolding_all rfl)))
/-! ### how great, how deep -/
mutual
def dp : Kn → Nat
  | .fn a b => 1 + max (dp a) (dp b)
  | .row _ ps _ => 1 + dpl ps
  | _ => 0
def dpl : Kl → Nat
  | .nil => 0
  | .cons _ k ps => max (dp k) (dpl ps)
end
theorem dpl_at : ∀ {ps : Kl} {j : Nat} {k : Kn}, ps.ks[j]? = some k → dp k ≤ dpl ps
  | .nil, j, k, h => by simp [Kl.ks] at h
  | .cons _ k0 ps, 0, k, h => by
    simp only [Kl.ks, List.getElem?_cons_zero, Option.some.injEq] at h
    subst h; simp only [dpl]; omega
  | .cons _ k0 ps, j + 1, k, h => by
    simp only [Kl.ks, List.getElem?_cons_succ] at h
    have := dpl_at h
    simp only [dpl]; omega
theorem nKs_at : ∀ {ks : List Kn} {j : Nat} {k : Kn}, ks[j]? = some k → nK k ≤ nKs ks
  | [], j, k, h => by simp at h
  | k0 :: ks, 0, k, h => by
    simp only [List.getElem?_cons_zero, Option.some.injEq] at h
    subst h; simp only [nKs, List.map_cons, List.sum_cons]; omega
  | k0 :: ks, j + 1, k, h => by
    simp only [List.getElem?_cons_succ] at h
    have := nKs_at h
    simp only [nKs, List.map_cons, List.sum_cons] at this ⊢; omega
def Cn : Nat → Nat
  | 0 => 1
  | d + 1 => 4 * Cn d + 2
mutual
theorem Kg.size {ls : List Str} (hl : ls.length ≤ 4) : ∀ {n : Nat} {k : Kn}, Kg ls n k → nK k ≤ Cn n ∧ dp k ≤ n
  | n, .num, _ => by cases n <;> simp [nK, dp, Cn] <;> omega
  | n, .any _, _ => by cases n <;> simp [nK, dp, Cn] <;> omega
  | n, .own _ _, _ => by cases n <;> simp [nK, dp, Cn] <;> omega
  | _, .fn a b, .fn (n := n) h1 h2 => by
    have a1 := Kg.size hl h1
    have a2 := Kg.size hl h2
    simp only [nK, dp, Cn]; omega
  | _, .row r ps q, .row (n := n) h1 _ _ h2 => by
    have a1 := Kgs.size hl h2
    have a2 := h1.length_le
    simp only [nK, dp, Cn]
    have : nKl ps ≤ ps.labels.length * Cn n := a1.1
    have : ps.labels.length * Cn n ≤ 4 * Cn n := Nat.mul_le_mul_right _ (Nat.le_trans a2 hl)
    omega
theorem Kgs.size {ls : List Str} (hl : ls.length ≤ 4) : ∀ {n : Nat} {ps : Kl}, Kgs ls n ps → nKl ps ≤ ps.labels.length * Cn n ∧ dpl ps ≤ n
  | n, .nil, _ => by simp [nKl, dpl, Kl.labels]
  | n, .cons l k ps, .cons h1 h2 => by
    have a1 := Kg.size hl h1
    have a2 := Kgs.size hl h2
    simp only [nKl, dpl, Kl.labels, List.length_cons, Nat.add_mul, Nat.one_mul]
    omega
end
end Lw

set_option Elab.async false
set_option linter.all false
set_option maxRecDepth 100000
set_option maxHeartbeats 1000000
namespace Lw
open PySem L2 Mi
variable [Tb]
local macro_rules | `(tactic| walk_at "get") => `(tactic| first | assumption | exact put_same | (refine get_new (by assumption) ?_; walk_at "get") | (refine get_ne (by assumption) ?_; walk_at "get"))
local macro_rules | `(tactic| walk_at "sq") => `(tactic| first | assumption | exact .inl rfl | exact .inr (.inl rfl) | exact .inr (.inr ⟨_, rfl, by walk_at "get"⟩))
local macro_rules | `(tactic| walk_at "size") => `(tactic| first | assumption | (simp only [List.length_cons, List.length_nil]; decide) | (have := sizeLine_eq; omega))
local macro_rules | `(tactic| walk_at "txt") => `(tactic| first | assumption | (simp only [Str.length, Str.cps_append, Array.size_append]; have := sizeLine_eq; omega))
local macro_rules | `(tactic| walk_at "go1") => `(tactic| first
  | ((with_reducible refine' x_var ?e ?_); (case e => with_unfolding_all rfl))
  | with_reducible refine x_seq ?_
  | with_reducible refine x_asg ?_
  | with_reducible refine x_if ?_
  | with_reducible refine x_ret ?_
  | with_reducible refine x_next ?_
  | with_reducible refine x_expr ?_
  | with_reducible refine x_gname ?_
  | with_reducible refine x_gcons ?_
  | with_reducible refine x_gnil ?_
  | with_reducible refine x_gsub ?_
  | with_reducible refine x_c ?_
  | with_reducible refine x_op ?_
  | with_reducible refine x_call ?_
  | with_reducible refine x_cons ?_
  | with_reducible refine x_nil ?_
  | with_reducible refine x_par ?_
  | with_reducible refine x_tup ?_
  | with_reducible refine x_lst ?_
  | with_reducible refine x_b ?_
  | with_reducible refine x_tru ?_
  | with_reducible refine x_not ?_
  | with_reducible refine x_or ?_
  | with_reducible refine x_and ?_
  | with_reducible refine x_ife ?_
  | with_reducible refine x_add ?_
  | with_reducible refine x_sub ?_
  | with_reducible refine x_gtI ?_
  | with_reducible refine x_ltI ?_
  | with_reducible refine x_geI ?_
  | with_reducible refine x_leI ?_
  | with_reducible refine x_abs ?_
  | with_reducible refine x_intb ?_
  | with_reducible refine x_for ?_
  | with_reducible refine x_irange ?_
  | with_reducible refine x_lc ?_
  | with_reducible refine x_yes ?_
  | with_reducible refine x_bm ?_
  | with_reducible refine x_bm0 ?_
  | with_reducible refine x_andv ?_
  | with_reducible refine x_orv ?_
  | with_reducible refine x_notv ?_
  | with_reducible refine x_eqI ?_
  | with_reducible refine x_tystr ?_
  | ((with_reducible refine' x_gtup ?e ?_); (case e => with_unfolding_all rfl))
  | ((with_reducible refine' x_pow ?e ?_); (case e => exact ⟨by decide, by decide, by decide⟩))
  | ((with_reducible refine' x_ix ?e ?q ?_); (case e => walk_at "get"); (case q => with_unfolding_all rfl))
  | ((with_reducible refine' x_ixt ?q ?_); (case q => with_unfolding_all rfl))
  | ((with_reducible refine' x_sto ?e ?q ?_); (case e => walk_at "get"); (case q => with_unfolding_all rfl))
  | ((with_reducible refine' x_adds ?e ?_); (case e => walk_at "txt"))
  | ((with_reducible refine' x_muls ?e ?f ?g ?_); (case e => omega); (case f => omega); (case g => walk_at "txt"))
  | ((with_reducible refine' x_divmod ?e ?_); (case e => exact ⟨by omega, by omega⟩))
  | ((with_reducible refine' x_mod ?e ?_); (case e => omega))
  | ((with_reducible refine' x_fdivC ?e ?f ?_); (case e => omega); (case f => omega))
  | ((with_reducible refine' x_mulL ?e ?f ?_); (case e => omega); (case f => omega))
  | ((with_reducible refine' x_mulR ?e ?f ?_); (case e => omega); (case f => omega))
  | ((with_reducible refine' x_len ?e ?_); (case e => walk_at "sq"))
  | ((with_reducible refine' x_range ?e ?f ?_); (case e => omega); (case f => omega))
  | ((with_reducible refine' x_tylst ?e ?_); (case e => walk_at "get"))
  | ((with_reducible refine' x_append ?e ?f ?_); (case e => walk_at "get"); (case f => walk_at "size"))
  | ((with_reducible refine' And.intro ?e ?_); (case e => (show _ ≤ sizeLine; walk_at "size")))
  | ((with_reducible refine' Exists.intro _ (And.intro ?e ?_)); (case e => with_unfolding_all rfl)))
theorem x_sumI {p : Addr} {ns : List Int} {G : Gp} {R : KT} (e : G p = some (.lst (ns.map T.int))) (h : R (.int ns.sum) G) : omSum [.ref p] G R := ⟨_, ns, rfl, .inr ⟨p, rfl, e⟩, h⟩
theorem sum_nK : ∀ ks : List Kn, (ks.map fun k => (nK k : Int)).sum = (nKs ks : Nat)
  | [] => rfl
  | k :: r => by
    have := sum_nK r
    simp only [nKs, List.map_cons, List.sum_cons] at this ⊢
    rw [this]; push_cast; rfl
theorem size_ok : ∀ (n : Nat) {k : Nat} {kn : Kn} {G : Gp} {R : KT}, dp kn ≤ n → nK kn ≤ 10000 → (∀ G' : Gp, Ext G G' → R (.int (nK kn : Nat)) G') → SP (k + n + 1) 17 [knT kn] G R := by
  intro n
  induction n with
  | zero =>
    intro k kn G R hd hz hR
    show spOf 3 1 (b17 (SP (k + 0))) _ _ _
    refine ⟨rfl, ?_⟩
    unfold b17
    have szl := sizeLine_eq
    with_reducible refine x_seq ?_
    with_reducible refine x_if ?_
    refine x_b (x_op (x_op (x_var rfl (x_c (x_head (x_c (x_eqD (kn_shaped kn) (by decide +kernel) ⟨_, rfl, ?_⟩)))))))
    refine x_ite (fun c => ?_) (fun c1 => ?_)
    · obtain ⟨a, b, rfl⟩ := kn_fun (of_decide_eq_true c)
      simp only [dp] at hd; omega
    have c1 := of_decide_eq_false c1
    refine x_next ?_
    dsimp only
    refine x_ret (x_ife (x_b (x_op (x_op (x_var rfl (x_c (x_head (x_tup (x_cons (x_c (x_cons (x_c (x_nil ⟨by show 2 ≤ sizeLine; omega, x_inS2d ⟨_, rfl, ?_⟩⟩)))))))))))))
    refine x_ite (fun c => ?_) (fun c2 => ?_)
    · obtain ⟨r, ps, q, rfl⟩ := kn_row (by simpa using c)
      simp only [dp] at hd; omega
    · refine x_c (fwdT.of ?_)
      have := hR G (Ext.refl _)
      rw [nK_parts, Kn.parts_nil c1 (by simpa using c2)] at this
      exact this
  | succ n ih =>
    intro k kn G R hd hz hR
    show spOf 3 1 (b17 (SP (k + n + 1))) _ _ _
    refine ⟨rfl, ?_⟩
    unfold b17
    have szl := sizeLine_eq
    with_reducible refine x_seq ?_
    with_reducible refine x_if ?_
    refine x_b (x_op (x_op (x_var rfl (x_c (x_head (x_c (x_eqD (kn_shaped kn) (by decide +kernel) ⟨_, rfl, ?_⟩)))))))
    refine x_ite (fun c => ?_) (fun c1 => ?_)
    · obtain ⟨a, b, rfl⟩ := kn_fun (of_decide_eq_true c)
      simp only [dp] at hd
      simp only [nK] at hz
      refine x_ret (x_op (x_op (x_c (x_call (x_cons (x_op (x_var rfl (x_c (x_fn1 (x_nil (ih (by omega) (by omega) fun G1 f1 => x_add ?_)))))))))))
      refine x_call (x_cons (x_op (x_var rfl (x_c (x_fn2 (x_nil (ih (by omega) (by omega) fun G2 f2 => x_add (fwdT.of ?_))))))))
      have := hR G2 (f1.trans f2)
      simp only [nK] at this
      push_cast at this
      exact this
    have c1 := of_decide_eq_false c1
    refine x_next ?_
    dsimp only
    refine x_ret (x_ife (x_b (x_op (x_op (x_var rfl (x_c (x_head (x_tup (x_cons (x_c (x_cons (x_c (x_nil ⟨by show 2 ≤ sizeLine; omega, x_inS2d ⟨_, rfl, ?_⟩⟩)))))))))))))
    refine x_ite (fun c => ?_) (fun c2 => ?_)
    · obtain ⟨r, ps, q, rfl⟩ := kn_row (by simpa using c)
      simp only [dp] at hd
      simp only [nK] at hz
      have hks := nKl_ks ps
      have hlen := nKs_len ps.ks
      have hkl := ps.ks_len
      refine x_op (x_c (x_call (x_cons (x_lc (x_iseq (x_op (x_var rfl (x_c (x_row1 ⟨klT ps, .inl rfl, fun D hD => ?_⟩)))))))))
      refine ⟨fun j G' => G' D = some (.lst (((ps.ks.take j).map fun k => (nK k : Int)).map T.int)) ∧ Ext G G', ⟨put_same, Ext.new hD⟩, fun i G' _ p hp => by simp [heldT] at hp, ?_, ?_⟩
      · intro j t G' ht ⟨e, f⟩
        obtain ⟨l, kc, rfl, ek, _⟩ := klT_at ht
        have h1 := dpl_at ek
        have h2 := nKs_at ek
        refine x_gtup rfl (x_gcons (x_gname (x_gcons (x_gname (x_gnil ?_)))))
        unfold mtYes; dsimp only
        rw [if_pos rfl]
        refine x_call (x_cons (x_var rfl (x_nil (ih (kn := kc) (by omega) (by omega) fun G2 f2 => ⟨_, f2 _ _ e, ?_, fwdG.of ⟨?_, Ext.grow hD (f.trans f2)⟩⟩))))
        · rw [List.length_map, List.length_map, List.length_take]; omega
        · rw [put_same, List.take_add_one, ek, List.map_append, List.map_append]; rfl
      · intro G' ⟨e, f⟩
        have e : G' D = some (.lst ((ps.ks.map fun k => (nK k : Int)).map T.int)) := by
          have e : G' D = some (.lst (((ps.ks.take (klT ps).length).map fun k => (nK k : Int)).map T.int)) := e
          rw [← Kl.ks_len, List.take_length] at e
          exact e
        refine x_nil (x_sumI e (x_add (fwdT.of ?_)))
        have := hR G' f
        rw [sum_nK]
        simp only [nK, hks] at this
        push_cast at this
        exact this
    · refine x_c (fwdT.of ?_)
      have := hR G (Ext.refl _)
      rw [nK_parts, Kn.parts_nil c1 (by simpa using c2)] at this
      exact this
end Lw

set_option Elab.async false
set_option linter.all false
set_option maxRecDepth 100000
set_option maxHeartbeats 1000000
namespace Lw
open PySem L2 Mi
variable [Tb]
local macro_rules | `(tactic| walk_at "get") => `(tactic| first | assumption | exact put_same | (refine get_new (by assumption) ?_; walk_at "get") | (refine get_ne (by assumption) ?_; walk_at "get"))
local macro_rules | `(tactic| walk_at "sq") => `(tactic| first | assumption | exact .inl rfl | exact .inr (.inl rfl) | exact .inr (.inr ⟨_, rfl, by walk_at "get"⟩))
local macro_rules | `(tactic| walk_at "size") => `(tactic| first | assumption | (simp only [List.length_cons, List.length_nil]; decide) | (have := sizeLine_eq; omega))
local macro_rules | `(tactic| walk_at "txt") => `(tactic| first | assumption | (simp only [Str.length, Str.cps_append, Array.size_append]; have := sizeLine_eq; omega))
local macro_rules | `(tactic| walk_at "go1") => `(tactic| first
  | ((with_reducible refine' x_var ?e ?_); (case e => with_unfolding_all rfl))
  | with_reducible refine x_seq ?_
  | with_reducible refine x_asg ?_
  | with_reducible refine x_if ?_
  | with_reducible refine x_ret ?_
  | with_reducible refine x_next ?_
  | with_reducible refine x_expr ?_
  | with_reducible refine x_gname ?_
  | with_reducible refine x_gcons ?_
  | with_reducible refine x_gnil ?_
  | with_reducible refine x_gsub ?_
  | with_reducible refine x_c ?_
  | with_reducible refine x_op ?_
  | with_reducible refine x_call ?_
  | with_reducible refine x_cons ?_
  | with_reducible refine x_nil ?_
  | with_reducible refine x_par ?_
  | with_reducible refine x_tup ?_
  | with_reducible refine x_lst ?_
  | with_reducible refine x_b ?_
  | with_reducible refine x_tru ?_
  | with_reducible refine x_not ?_
  | with_reducible refine x_or ?_
  | with_reducible refine x_and ?_
  | with_reducible refine x_ife ?_
  | with_reducible refine x_add ?_
  | with_reducible refine x_sub ?_
  | with_reducible refine x_gtI ?_
  | with_reducible refine x_ltI ?_
  | with_reducible refine x_geI ?_
  | with_reducible refine x_leI ?_
  | with_reducible refine x_abs ?_
  | with_reducible refine x_intb ?_
  | with_reducible refine x_for ?_
  | with_reducible refine x_irange ?_
  | with_reducible refine x_lc ?_
  | with_reducible refine x_yes ?_
  | with_reducible refine x_bm ?_
  | with_reducible refine x_bm0 ?_
  | with_reducible refine x_andv ?_
  | with_reducible refine x_orv ?_
  | with_reducible refine x_notv ?_
  | with_reducible refine x_eqI ?_
  | with_reducible refine x_tystr ?_
  | ((with_reducible refine' x_gtup ?e ?_); (case e => with_unfolding_all rfl))
  | ((with_reducible refine' x_pow ?e ?_); (case e => exact ⟨by decide, by decide, by decide⟩))
  | ((with_reducible refine' x_ix ?e ?q ?_); (case e => walk_at "get"); (case q => with_unfolding_all rfl))
  | ((with_reducible refine' x_ixt ?q ?_); (case q => with_unfolding_all rfl))
  | ((with_reducible refine' x_sto ?e ?q ?_); (case e => walk_at "get"); (case q => with_unfolding_all rfl))
  | ((with_reducible refine' x_adds ?e ?_); (case e => walk_at "txt"))
  | ((with_reducible refine' x_muls ?e ?f ?g ?_); (case e => omega); (case f => omega); (case g => walk_at "txt"))
  | ((with_reducible refine' x_divmod ?e ?_); (case e => exact ⟨by omega, by omega⟩))
  | ((with_reducible refine' x_mod ?e ?_); (case e => omega))
  | ((with_reducible refine' x_fdivC ?e ?f ?_); (case e => omega); (case f => omega))
  | ((with_reducible refine' x_mulL ?e ?f ?_); (case e => omega); (case f => omega))
  | ((with_reducible refine' x_mulR ?e ?f ?_); (case e => omega); (case f => omega))
  | ((with_reducible refine' x_len ?e ?_); (case e => walk_at "sq"))
  | ((with_reducible refine' x_range ?e ?f ?_); (case e => omega); (case f => omega))
  | ((with_reducible refine' x_tylst ?e ?_); (case e => walk_at "get"))
  | ((with_reducible refine' x_append ?e ?f ?_); (case e => walk_at "get"); (case f => walk_at "size"))
  | ((with_reducible refine' And.intro ?e ?_); (case e => (show _ ≤ sizeLine; walk_at "size")))
  | ((with_reducible refine' Exists.intro _ (And.intro ?e ?_)); (case e => with_unfolding_all rfl)))
theorem Wd.sh {z : Str} (h : Wd z) : SeqAt.shaped (.str z) = true := Bool.and_eq_true_iff.mpr ⟨h.ok, rfl⟩
theorem beqS2 (a b : Str) : (a == b) = decide (a = b) := beq_dec a b
theorem x_eqSS {a b : Str} {G : Gp} {R : KT} (c : SeqAt.shaped (.str a) = true) (c2 : SeqAt.shaped (.str b) = true) (h : R (.bl (decide (a = b))) G) : oEq (.str a) (.str b) G R := x_eqSb c c2 (beqS2 a b) h
theorem x_isN {t : T} {G : Gp} {R : KT} (h : R (.bl t.isN) G) : oIsN t .non G R := ⟨rfl, h⟩
theorem x_eqNN {G : Gp} {R : KT} (h : R (.bl true) G) : oEq .non .non G R := ⟨.none, .none, .non, .non, rfl, rfl, h⟩
/-! ### alike, kind by kind -/
inductive Sd : Nat → T → Prop
  | str {n : Nat} {z : Str} : Wd z → Sd n (.str z)
  | int {n : Nat} {i : Int} : Sd n (.int i)
  | non {n : Nat} : Sd n .non
  | tup {n : Nat} {ts : List T} : ts.length ≤ 1000 → (∀ t ∈ ts, Sd n t) → Sd (n + 1) (.tup ts)
theorem Sd.le {n : Nat} {t : T} (h : Sd n t) : ∀ {m : Nat}, n ≤ m → Sd m t := by
  induction h with
  | str a => intro m _; exact .str a
  | int => intro m _; exact .int
  | non => intro m _; exact .non
  | tup a _ ih => intro m l; obtain ⟨m, rfl⟩ : ∃ m', m = m' + 1 := ⟨m - 1, by omega⟩; exact .tup a fun t ht => ih t ht (by omega)
def SqB (b : Bool) (G : Gp) (s : T) (ts : List T) : Prop := if b = true then s = .tup ts else ∃ p, s = .ref p ∧ G p = some (.lst ts)
theorem SqB.ext {b : Bool} {G G' : Gp} {s : T} {ts : List T} (f : Ext G G') (h : SqB b G s ts) : SqB b G' s ts := by
  cases b with
  | true => exact h
  | false =>
    obtain ⟨p, e, h⟩ := (show ∃ p, s = .ref p ∧ G p = some (.lst ts) from h)
    exact (show ∃ p, s = .ref p ∧ G' p = some (.lst ts) from ⟨p, e, f _ _ h⟩)
theorem SqB.facts {b : Bool} {G : Gp} {s : T} {ts : List T} (h : SqB b G s ts) : srcT G s ts ∧ isSq G s ts ∧ tyN G s = some (if b = true then "tuple" else "list") ∧ Held G (heldT s ts) := by
  cases b with
  | true =>
    have h : s = .tup ts := h
    subst h
    exact ⟨.inl rfl, .inl rfl, rfl, fun q hq => by cases hq⟩
  | false =>
    obtain ⟨p, rfl, e⟩ := (show ∃ p, s = .ref p ∧ G p = some (.lst ts) from h)
    refine ⟨.inr (.inl (.inr ⟨p, rfl, e⟩)), .inr (.inr ⟨p, rfl, e⟩), ?_, fun q hq => ?_⟩
    · simp [tyN, e]
    · have : q = (p, ts) := by simpa [heldT] using hq
      subst this
      exact e
theorem x_eqBB {b : Bool} {G : Gp} {R : KT} (h : R (.bl true) G) : oEq (.bl b) (.bl b) G R := ⟨.bool b, .bool b, .bl b, .bl b, rfl, rfl, by cases b <;> exact h⟩
def SameOk (k n : Nat) : Prop := ∀ (t : T) (G : Gp) (R : KT), Sd n t → (∀ G', Ext G G' → R (.bl true) G') → SP k 9 [t, t] G R
theorem same_seq {k n : Nat} (IH : SameOk k n) {b : Bool} {s u : T} {ts : List T} {G : Gp} {R : KT} (hs : SqB b G s ts) (hu : SqB b G u ts) (hl : ts.length ≤ 1000) (ht : ∀ t ∈ ts, Sd n t) (hR : ∀ G', Ext G G' → R (.bl true) G') : SP (k + 1) 9 [s, u] G R := by
  have szl := sizeLine_eq
  show spOf 4 2 (b9 (SP k)) _ _ _
  refine ⟨rfl, ?_⟩
  unfold b9
  obtain ⟨s1, s2, s3, s4⟩ := hs.facts
  obtain ⟨u1, u2, u3, u4⟩ := hu.facts
  have k1 : knownTy "list" := by simp [knownTy]
  have k2 : knownTy "tuple" := by simp [knownTy]
  with_reducible refine x_seq ?_
  with_reducible refine x_if ?_
  refine x_tru (x_isi2 (x_var rfl ⟨_, k1, k2, u3, _, rfl, ?_⟩))
  refine x_iteT (by cases b <;> decide) ?_
  with_reducible refine x_seq ?_
  with_reducible refine x_if ?_
  refine x_orT (x_b (x_op (x_call (x_cons (x_var rfl (x_cons (x_c (x_nil (x_isi s3 k1 (x_call (x_cons (x_var rfl (x_cons (x_c (x_nil (x_isi u3 k1 (x_neB ⟨_, rfl, ?_⟩)))))))))))))))))
  refine x_iteF rfl (x_b (x_op (x_call (x_cons (x_var rfl (x_cons (x_c (x_nil (x_isi s3 k2 (x_call (x_cons (x_var rfl (x_cons (x_c (x_nil (x_isi u3 k2 (x_neB ⟨_, rfl, ?_⟩)))))))))))))))))
  refine x_iteF rfl (x_next ?_)
  dsimp only
  refine x_ret (x_andv (x_op (x_call (x_cons (x_var rfl (x_nil (x_len s2 (x_call (x_cons (x_var rfl (x_nil (x_len u2 (x_eqI ⟨_, rfl, ?_⟩)))))))))))))
  refine x_iteT (decide_eq_true rfl) (x_call (x_cons ?_))
  refine x_lc (x_izip (x_var rfl (x_var rfl ⟨ts, ts, s1, u1, fun D hD => ?_⟩)))
  refine ⟨fun i G' => G' D = some (.lst (((ts.take i).map fun _ => true).map T.bl)) ∧ Ext G G', ⟨put_same, Ext.new hD⟩, ?_, ?_, ?_⟩
  · intro i G' ⟨_, w2⟩ q hq
    rcases List.mem_append.mp hq with z | z
    · exact (hs.ext w2).facts.2.2.2 q z
    · exact (hu.ext w2).facts.2.2.2 q z
  · intro i t2 G' ht2 ⟨w1, w2⟩
    have ht2 : (List.zipWith (fun a b => T.pr [a, b]) ts ts)[i]? = some t2 := ht2
    rw [List.getElem?_zipWith] at ht2
    cases e0 : ts[i]? with
    | none => rw [e0] at ht2; cases ht2
    | some y =>
      rw [e0] at ht2
      cases ht2
      refine x_gpr rfl (x_gcons (x_gname (x_gcons (x_gname (x_gnil (x_yes (x_iteT rfl (x_call (x_cons (x_var rfl (x_cons (x_var rfl (x_nil ?_)))))))))))))
      refine IH y G' _ (ht y (List.mem_of_getElem? e0)) fun G2 f2 => ?_
      refine ⟨_, f2 _ _ w1, by rw [List.length_map, List.length_map, List.length_take]; omega, fwdG.of ⟨?_, Ext.grow hD (w2.trans f2)⟩⟩
      rw [put_same, List.take_succ, e0, List.map_append, List.map_append]
      rfl
  · intro G' ⟨w1, w2⟩
    have w1 : G' D = some (.lst (((ts.take (List.zipWith (fun a b => T.pr [a, b]) ts ts).length).map fun _ => true).map T.bl)) := w1
    refine x_nil (x_all w1 (fwdT.of ?_))
    have e : ((ts.take (List.zipWith (fun a b => T.pr [a, b]) ts ts).length).map fun _ => true).all id = true := by
      rw [List.all_eq_true]
      intro c hc
      obtain ⟨_, _, rfl⟩ := List.mem_map.mp hc
      rfl
    rw [e]
    exact hR G' w2
theorem same_all : ∀ (n k : Nat), n + 1 ≤ k → SameOk k n := by
  have flat : ∀ (k : Nat) (t : T) (G : Gp) (R : KT), ((∃ z, t = .str z ∧ Wd z) ∨ (∃ i, t = .int i)) ∨ t = .non → (∀ G', Ext G G' → R (.bl true) G') → SP (k + 1) 9 [t, t] G R := by
    intro k t G R h hR
    show spOf 4 2 (b9 (SP k)) _ _ _
    refine ⟨rfl, ?_⟩
    unfold b9
    have k1 : knownTy "list" := by simp [knownTy]
    have k2 : knownTy "tuple" := by simp [knownTy]
    have k3 : knownTy "str" := by simp [knownTy]
    have k4 : knownTy "int" := by simp [knownTy]
    have k5 : knownTy "bool" := by simp [knownTy]
    rcases h with (⟨z, rfl, hz⟩ | ⟨i, rfl⟩) | rfl
    · have ty : ∀ G : Gp, tyN G (.str z) = some "str" := fun _ => rfl
      with_reducible refine x_seq ?_
      with_reducible refine x_if ?_
      refine x_tru (x_isi2 (x_var rfl ⟨_, k1, k2, ty _, _, rfl, ?_⟩))
      refine x_iteF (by decide) (x_next ?_)
      dsimp only
      with_reducible refine x_seq ?_
      with_reducible refine x_if ?_
      refine x_orT (x_b (x_op (x_var rfl (x_c (x_isN ⟨_, rfl, x_iteF rfl (x_tru (x_call (x_cons (x_var rfl (x_cons (x_c (x_nil (x_isi (ty _) k3 ⟨_, rfl, ?_⟩))))))))⟩)))))
      refine x_iteT (by decide) ?_
      refine x_ret (x_andv (x_op (x_var rfl (x_var rfl (x_eqSS hz.sh hz.sh ⟨_, rfl, ?_⟩)))))
      refine x_iteT (decide_eq_true rfl) ?_
      refine x_op (x_call (x_cons (x_var rfl (x_cons (x_c (x_nil (x_isi (ty _) k3 (x_call (x_cons (x_var rfl (x_cons (x_c (x_nil (x_isi (ty _) k3 (x_eqBB ?_)))))))))))))))
      exact fwdT.of (hR G (Ext.refl G))
    · have ty : ∀ G : Gp, tyN G (.int i) = some "int" := fun _ => rfl
      with_reducible refine x_seq ?_
      with_reducible refine x_if ?_
      refine x_tru (x_isi2 (x_var rfl ⟨_, k1, k2, ty _, _, rfl, ?_⟩))
      refine x_iteF (by decide) (x_next ?_)
      dsimp only
      with_reducible refine x_seq ?_
      with_reducible refine x_if ?_
      refine x_orT (x_b (x_op (x_var rfl (x_c (x_isN ⟨_, rfl, x_iteF rfl (x_tru (x_call (x_cons (x_var rfl (x_cons (x_c (x_nil (x_isi (ty _) k3 ⟨_, rfl, ?_⟩))))))))⟩)))))
      refine x_iteF (by decide) (x_next ?_)
      dsimp only
      refine x_ret (x_andv (x_call (x_cons (x_var rfl (x_cons (x_c (x_nil (x_isi (ty _) k4 ⟨_, rfl, ?_⟩))))))))
      refine x_iteT (by decide) (x_andv ?_)
      refine x_op (x_call (x_cons (x_var rfl (x_cons (x_c (x_nil (x_isi (ty _) k5 (x_call (x_cons (x_var rfl (x_cons (x_c (x_nil (x_isi (ty _) k5 (x_eqBB ⟨_, rfl, ?_⟩)))))))))))))))
      refine x_iteT rfl (x_op (x_var rfl (x_var rfl (x_eqI ?_))))
      rw [decide_eq_true rfl]
      exact fwdT.of (hR G (Ext.refl G))
    · have ty : ∀ G : Gp, tyN G .non = some "NoneType" := fun _ => rfl
      with_reducible refine x_seq ?_
      with_reducible refine x_if ?_
      refine x_tru (x_isi2 (x_var rfl ⟨_, k1, k2, ty _, _, rfl, ?_⟩))
      refine x_iteF (by decide) (x_next ?_)
      dsimp only
      with_reducible refine x_seq ?_
      with_reducible refine x_if ?_
      refine x_orT (x_b (x_op (x_var rfl (x_c (x_isN ⟨_, rfl, x_iteT rfl (x_iteT rfl ?_)⟩)))))
      refine x_ret (x_andv (x_op (x_var rfl (x_var rfl (x_eqNN ⟨_, rfl, ?_⟩)))))
      refine x_iteT rfl ?_
      refine x_op (x_call (x_cons (x_var rfl (x_cons (x_c (x_nil (x_isi (ty _) k3 (x_call (x_cons (x_var rfl (x_cons (x_c (x_nil (x_isi (ty _) k3 (x_eqBB ?_)))))))))))))))
      exact fwdT.of (hR G (Ext.refl G))
  intro n
  induction n with
  | zero =>
    intro k hk t G R ht hR
    obtain ⟨k, rfl⟩ : ∃ k0, k = k0 + 1 := ⟨k - 1, by omega⟩
    cases ht with
    | str a => exact flat k _ G R (.inl (.inl ⟨_, rfl, a⟩)) hR
    | int => exact flat k _ G R (.inl (.inr ⟨_, rfl⟩)) hR
    | non => exact flat k _ G R (.inr rfl) hR
  | succ n ih =>
    intro k hk t G R ht hR
    obtain ⟨k, rfl⟩ : ∃ k0, k = k0 + 1 := ⟨k - 1, by omega⟩
    cases ht with
    | str a => exact flat k _ G R (.inl (.inl ⟨_, rfl, a⟩)) hR
    | int => exact flat k _ G R (.inl (.inr ⟨_, rfl⟩)) hR
    | non => exact flat k _ G R (.inr rfl) hR
    | tup a b => exact same_seq (ih k (by omega)) (b := true) rfl rfl a b hR
/-! ### kinds of plain words -/
mutual
def KW : Kn → Prop
  | .own m n => Wd m ∧ Wd n
  | .fn a b => KW a ∧ KW b
  | .row _ ps _ => ps.labels.length ≤ 4 ∧ KWl ps
  | _ => True
def KWl : Kl → Prop
  | .nil => True
  | .cons l k ps => Wd l ∧ KW k ∧ KWl ps
end
theorem wd_words : Wd "num" ∧ Wd "any" ∧ Wd "own" ∧ Wd "fun" ∧ Wd "rec" ∧ Wd "sum" := by
  refine ⟨?_, ?_, ?_, ?_, ?_, ?_⟩ <;> exact ⟨by decide +kernel, by decide +kernel, by decide +kernel⟩
theorem wd_rwS (r : Bool) : Wd (rwS r) := by cases r <;> simp [rwS, wd_words]
mutual
theorem KW.sd : ∀ {k : Kn} {n : Nat}, KW k → dp k ≤ n → Sd (3 * n + 1) (knT k)
  | .num, n, _, _ => by
    simp only [knT]
    exact .tup (by simp) fun t ht => by rw [List.mem_singleton.mp ht]; exact .str wd_words.1
  | .any i, n, _, _ => by
    simp only [knT]
    refine .tup (by simp) fun t ht => ?_
    simp only [List.mem_cons, List.not_mem_nil, or_false] at ht
    rcases ht with rfl | rfl
    · exact .str wd_words.2.1
    · exact .int
  | .own a b, n, h, _ => by
    simp only [knT]
    simp only [KW] at h
    refine .tup (by simp) fun t ht => ?_
    simp only [List.mem_cons, List.not_mem_nil, or_false] at ht
    rcases ht with rfl | rfl | rfl
    · exact .str wd_words.2.2.1
    · exact .str h.1
    · exact .str h.2
  | .fn a b, n, h, hd => by
    simp only [knT]
    simp only [KW] at h
    simp only [dp] at hd
    obtain ⟨m, rfl⟩ : ∃ m, n = m + 1 := ⟨n - 1, by omega⟩
    refine .tup (by simp) fun t ht => ?_
    simp only [List.mem_cons, List.not_mem_nil, or_false] at ht
    rcases ht with rfl | rfl | rfl
    · exact .str wd_words.2.2.2.1
    · exact (KW.sd (n := m) h.1 (by omega)).le (by omega)
    · exact (KW.sd (n := m) h.2 (by omega)).le (by omega)
  | .row r ps q, n, h, hd => by
    simp only [knT]
    simp only [KW] at h
    simp only [dp] at hd
    obtain ⟨m, rfl⟩ : ∃ m, n = m + 1 := ⟨n - 1, by omega⟩
    refine .tup (by simp) fun t ht => ?_
    simp only [List.mem_cons, List.not_mem_nil, or_false] at ht
    rcases ht with rfl | rfl | rfl
    · exact .str (wd_rwS r)
    · refine Sd.le (n := 3 * m + 3) (.tup (by rw [Kl.len]; omega) ?_) (by omega)
      exact KWl.sd (n := m) h.2 (by omega)
    · cases q with
      | none => exact .non
      | some i => exact .int
theorem KWl.sd : ∀ {ps : Kl} {n : Nat}, KWl ps → dpl ps ≤ n → ∀ t ∈ klT ps, Sd (3 * n + 2) t
  | .nil, n, _, _ => by intro t ht; simp only [klT] at ht; cases ht
  | .cons l k ps, n, h, hd => by
    intro t ht
    simp only [klT] at ht
    simp only [KWl] at h
    simp only [dpl] at hd
    rcases List.mem_cons.mp ht with rfl | ht
    · refine .tup (by simp) fun t ht => ?_
      simp only [List.mem_cons, List.not_mem_nil, or_false] at ht
      rcases ht with rfl | rfl
      · exact .str h.1
      · exact KW.sd h.2.1 (by omega)
    · exact KWl.sd h.2.2 (by omega) t ht
end
mutual
theorem Kg.kw {ls : List Str} (L : Lab ls) : ∀ {n : Nat} {k : Kn}, Kg ls n k → KW k
  | n, .num, _ => by simp only [KW]
  | n, .any _, _ => by simp only [KW]
  | n, .own _ _, .own a b => by simp only [KW]; exact ⟨a, b⟩
  | _, .fn a b, .fn h1 h2 => by simp only [KW]; exact ⟨Kg.kw L h1, Kg.kw L h2⟩
  | _, .row r ps q, .row h1 _ _ h2 => by
    simp only [KW]
    exact ⟨Nat.le_trans h1.length_le L.len, Kgs.kw L h2 fun l hl => L.wd l (h1.subset hl)⟩
theorem Kgs.kw {ls : List Str} (L : Lab ls) : ∀ {n : Nat} {ps : Kl}, Kgs ls n ps → (∀ l ∈ ps.labels, Wd l) → KWl ps
  | n, .nil, _, _ => by simp only [KWl]
  | n, .cons l k ps, .cons a b, h => by
    simp only [KWl]
    exact ⟨h l (by simp [Kl.labels]), Kg.kw L a, Kgs.kw L b fun x hx => h x (by simp [Kl.labels, hx])⟩
end
theorem opnl_labels (f : Ow) : ∀ ps : Kl, (opnl f ps).labels = ps.labels
  | .nil => by simp only [opnl]
  | .cons l k ps => by simp only [opnl, Kl.labels, opnl_labels f ps]
mutual
theorem opn_kw {f : Ow} (hf : ∀ m n k, f m n = some k → KW k) : ∀ {k : Kn}, KW k → KW (opn f k)
  | .num, _ => by simp only [opn, KW]
  | .any _, _ => by simp only [opn, KW]
  | .own m n, h => by
    simp only [opn]
    cases e : f m n with
    | none => exact h
    | some k => exact hf m n k e
  | .fn a b, h => by
    simp only [KW] at h
    simp only [opn, KW]
    exact ⟨opn_kw hf h.1, opn_kw hf h.2⟩
  | .row r ps q, h => by
    simp only [KW] at h
    simp only [opn, KW]
    exact ⟨by rw [opnl_labels]; exact h.1, opnl_kw hf h.2⟩
theorem opnl_kw {f : Ow} (hf : ∀ m n k, f m n = some k → KW k) : ∀ {ps : Kl}, KWl ps → KWl (opnl f ps)
  | .nil, _ => by simp only [opnl, KWl]
  | .cons l k ps, h => by
    simp only [KWl] at h
    simp only [opnl, KWl]
    exact ⟨h.1, opn_kw hf h.2.1, opnl_kw hf h.2.2⟩
end
mutual
theorem opn_dp {f : Ow} {D : Nat} (hf : ∀ m n k, f m n = some k → dp k ≤ D) : ∀ (k : Kn), dp (opn f k) ≤ dp k + D
  | .num => by simp only [opn, dp]; omega
  | .any _ => by simp only [opn, dp]; omega
  | .own m n => by
    simp only [opn]
    cases e : f m n with
    | none => simp [dp]
    | some k => have := hf m n k e; simp only [Option.getD_some, dp]; omega
  | .fn a b => by
    have := opn_dp hf a
    have := opn_dp hf b
    simp only [opn, dp]; omega
  | .row r ps q => by
    have := opnl_dp hf ps
    simp only [opn, dp]; omega
theorem opnl_dp {f : Ow} {D : Nat} (hf : ∀ m n k, f m n = some k → dp k ≤ D) : ∀ (ps : Kl), dpl (opnl f ps) ≤ dpl ps + D
  | .nil => by simp only [opnl, dpl]; omega
  | .cons l k ps => by
    have := opn_dp hf k
    have := opnl_dp hf ps
    simp only [opnl, dpl]; omega
end
end Lw

set_option Elab.async false
set_option linter.all false
set_option maxRecDepth 100000
set_option maxHeartbeats 1000000
namespace Lw
open PySem L2 Mi
variable [Tb]
local macro_rules | `(tactic| walk_at "get") => `(tactic| first | assumption | exact put_same | (refine get_new (by assumption) ?_; walk_at "get") | (refine get_ne (by assumption) ?_; walk_at "get"))
local macro_rules | `(tactic| walk_at "sq") => `(tactic| first | assumption | exact .inl rfl | exact .inr (.inl rfl) | exact .inr (.inr ⟨_, rfl, by walk_at "get"⟩))
local macro_rules | `(tactic| walk_at "size") => `(tactic| first | assumption | (simp only [List.length_cons, List.length_nil]; decide) | (have := sizeLine_eq; omega))
local macro_rules | `(tactic| walk_at "txt") => `(tactic| first | assumption | (simp only [Str.length, Str.cps_append, Array.size_append]; have := sizeLine_eq; omega))
local macro_rules | `(tactic| walk_at "go1") => `(tactic| first
  | ((with_reducible refine' x_var ?e ?_); (case e => with_unfolding_all rfl))
  | with_reducible refine x_seq ?_
  | with_reducible refine x_asg ?_
  | with_reducible refine x_if ?_
  | with_reducible refine x_ret ?_
  | with_reducible refine x_next ?_
  | with_reducible refine x_expr ?_
  | with_reducible refine x_gname ?_
  | with_reducible refine x_gcons ?_
  | with_reducible refine x_gnil ?_
  | with_reducible refine x_gsub ?_
  | with_reducible refine x_c ?_
  | with_reducible refine x_op ?_
  | with_reducible refine x_call ?_
  | with_reducible refine x_cons ?_
  | with_reducible refine x_nil ?_
  | with_reducible refine x_par ?_
  | with_reducible refine x_tup ?_
  | with_reducible refine x_lst ?_
  | with_reducible refine x_b ?_
  | with_reducible refine x_tru ?_
  | with_reducible refine x_not ?_
  | with_reducible refine x_or ?_
  | with_reducible refine x_and ?_
  | with_reducible refine x_ife ?_
  | with_reducible refine x_add ?_
  | with_reducible refine x_sub ?_
  | with_reducible refine x_gtI ?_
  | with_reducible refine x_ltI ?_
  | with_reducible refine x_geI ?_
  | with_reducible refine x_leI ?_
  | with_reducible refine x_abs ?_
  | with_reducible refine x_intb ?_
  | with_reducible refine x_for ?_
  | with_reducible refine x_irange ?_
  | with_reducible refine x_lc ?_
  | with_reducible refine x_yes ?_
  | with_reducible refine x_bm ?_
  | with_reducible refine x_bm0 ?_
  | with_reducible refine x_andv ?_
  | with_reducible refine x_orv ?_
  | with_reducible refine x_notv ?_
  | with_reducible refine x_eqI ?_
  | with_reducible refine x_tystr ?_
  | ((with_reducible refine' x_gtup ?e ?_); (case e => with_unfolding_all rfl))
  | ((with_reducible refine' x_pow ?e ?_); (case e => exact ⟨by decide, by decide, by decide⟩))
  | ((with_reducible refine' x_ix ?e ?q ?_); (case e => walk_at "get"); (case q => with_unfolding_all rfl))
  | ((with_reducible refine' x_ixt ?q ?_); (case q => with_unfolding_all rfl))
  | ((with_reducible refine' x_sto ?e ?q ?_); (case e => walk_at "get"); (case q => with_unfolding_all rfl))
  | ((with_reducible refine' x_adds ?e ?_); (case e => walk_at "txt"))
  | ((with_reducible refine' x_muls ?e ?f ?g ?_); (case e => omega); (case f => omega); (case g => walk_at "txt"))
  | ((with_reducible refine' x_divmod ?e ?_); (case e => exact ⟨by omega, by omega⟩))
  | ((with_reducible refine' x_mod ?e ?_); (case e => omega))
  | ((with_reducible refine' x_fdivC ?e ?f ?_); (case e => omega); (case f => omega))
  | ((with_reducible refine' x_mulL ?e ?f ?_); (case e => omega); (case f => omega))
  | ((with_reducible refine' x_mulR ?e ?f ?_); (case e => omega); (case f => omega))
  | ((with_reducible refine' x_len ?e ?_); (case e => walk_at "sq"))
  | ((with_reducible refine' x_range ?e ?f ?_); (case e => omega); (case f => omega))
  | ((with_reducible refine' x_tylst ?e ?_); (case e => walk_at "get"))
  | ((with_reducible refine' x_append ?e ?f ?_); (case e => walk_at "get"); (case f => walk_at "size"))
  | ((with_reducible refine' And.intro ?e ?_); (case e => (show _ ≤ sizeLine; walk_at "size")))
  | ((with_reducible refine' Exists.intro _ (And.intro ?e ?_)); (case e => with_unfolding_all rfl)))
theorem or_of {a b : Prop} [Decidable a] [Decidable b] (h : (!(decide a || decide b)) = false) : a ∨ b := by
  by_cases x : a
  · exact .inl x
  · by_cases y : b
    · exact .inr y
    · rw [decide_eq_false x, decide_eq_false y] at h; cases h
theorem KWl_at : ∀ {ps : Kl} {j : Nat} {k : Kn}, KWl ps → ps.ks[j]? = some k → KW k
  | .nil, j, k, _, h => by simp [Kl.ks] at h
  | .cons _ k0 ps, 0, k, hw, h => by
    simp only [Kl.ks, List.getElem?_cons_zero, Option.some.injEq] at h
    subst h; simp only [KWl] at hw; exact hw.2.1
  | .cons _ k0 ps, j + 1, k, hw, h => by
    simp only [Kl.ks, List.getElem?_cons_succ] at h
    simp only [KWl] at hw
    exact KWl_at hw.2.2 h
theorem opnl_at {f : Ow} : ∀ {ps : Kl} {j : Nat} {k : Kn} {l : Str}, ps.ks[j]? = some k → ps.labels[j]? = some l → (klT (opnl f ps))[j]? = some (.tup [.str l, knT (opn f k)])
  | .nil, j, k, l, h, _ => by simp [Kl.ks] at h
  | .cons l0 k0 ps, 0, k, l, h, h2 => by
    simp only [Kl.ks, List.getElem?_cons_zero, Option.some.injEq] at h
    simp only [Kl.labels, List.getElem?_cons_zero, Option.some.injEq] at h2
    subst h; subst h2
    simp only [opnl, klT, List.getElem?_cons_zero]
  | .cons l0 k0 ps, j + 1, k, l, h, h2 => by
    simp only [Kl.ks, List.getElem?_cons_succ] at h
    simp only [Kl.labels, List.getElem?_cons_succ] at h2
    simp only [opnl, klT, List.getElem?_cons_succ]
    exact opnl_at h h2
theorem opn_leaf {f : Ow} {k : Kn} (h0 : ¬ k.word = "own") (h1 : ¬ k.word = "fun") (h2 : ¬ (k.word = "rec" ∨ k.word = "sum")) : opn f k = k := by
  cases k with
  | own _ _ => exact absurd rfl h0
  | fn a b => exact absurd rfl h1
  | row r ps q => cases r <;> exact absurd (by first | exact .inl rfl | exact .inr rfl) h2
  | _ => simp only [opn]
theorem x_ninS2d {z w1 w2 : Str} {G : Gp} {R : KT} (h : R (.bl (!(decide (z = w1) || decide (z = w2)))) G) : oInA true (.str z) (.tup [.str w1, .str w2]) G R := by
  refine .inl ⟨_, .inl rfl, rfl, rfl, ?_⟩
  have e : ([T.str w1, .str w2].any fun y => y.eqf (.str z)) = (decide (z = w1) || decide (z = w2)) := by
    simp only [List.any_cons, List.any_nil, Bool.or_false, T.eqf]
    rw [show (w1 == z) = decide (z = w1) by rw [beq_dec]; exact decide_eq_decide.mpr eq_comm, show (w2 == z) = decide (z = w2) by rw [beq_dec]; exact decide_eq_decide.mpr eq_comm]
  rw [if_pos rfl, e]
  exact h
/-! ### kinds are data -/
def Cv : Nat → Nat
  | 0 => 300
  | n + 1 => 4 * Cv n + 1100
theorem Cv_pos : ∀ n, 300 ≤ Cv n
  | 0 => Nat.le_refl _
  | n + 1 => by have := Cv_pos n; show 300 ≤ 4 * Cv n + 1100; omega
theorem Da.up {S : Addr → Prop} {G : Gp} {L n : Nat} {t : T} {d : PyData} (h : Da S G L n t d) {m : Nat} (l : n ≤ m) : Da S G L m t d := h.le l (Nat.le_refl _)
mutual
theorem kn_da {S : Addr → Prop} {G : Gp} {ls : List Str} (L : Lab ls) : ∀ {m : Nat} {kd : Kn}, Kg ls m kd → ∃ d, Da S G 0 (3 * m + 1) (knT kd) d ∧ wtD d ≤ Cv m
  | m, _, .num => by
    have w := word_da (S := S) (G := G) (L := 0) (n := 3 * m) (x := "num") (by decide +kernel)
    obtain ⟨z, h1, h2⟩ := w.1.mk1
    exact ⟨z, by simp only [knT]; exact h1, by have := Cv_pos m; omega⟩
  | m, _, .any (i := i) a => by
    have w := word_da (S := S) (G := G) (L := 0) (n := 3 * m) (x := "any") (by decide +kernel)
    obtain ⟨z, h1, h2⟩ := w.1.mk2 (.int (i := i) (by omega))
    exact ⟨z, by simp only [knT]; exact h1, by have := Cv_pos m; rw [wt_int] at h2; omega⟩
  | m, _, .own (a := x) (b := y) a b => by
    have w := word_da (S := S) (G := G) (L := 0) (n := 3 * m) (x := "own") (by decide +kernel)
    have v := Wd.da (S := S) (G := G) (L := 0) (n := 3 * m) a
    have u := Wd.da (S := S) (G := G) (L := 0) (n := 3 * m) b
    obtain ⟨z, h1, h2⟩ := w.1.mk3 v.1 u.1
    exact ⟨z, by simp only [knT]; exact h1, by have := Cv_pos m; omega⟩
  | m + 1, _, .fn a b => by
    obtain ⟨d, hd, hw⟩ := kn_da (S := S) (G := G) L a
    obtain ⟨e, he, hw2⟩ := kn_da (S := S) (G := G) L b
    have w := word_da (S := S) (G := G) (L := 0) (n := 3 * m + 3) (x := "fun") (by decide +kernel)
    obtain ⟨z, h1, h2⟩ := w.1.mk3 (hd.up (m := 3 * m + 3) (by omega)) (he.up (m := 3 * m + 3) (by omega))
    exact ⟨z, by simp only [knT]; exact h1, by show _ ≤ 4 * Cv m + 1100; omega⟩
  | m + 1, _, .row (r := r) (ps := ps) (q := q) a _ c b => by
    have rw2 : ∀ r, (decide ((rwS r).length ≤ 5) && (rwS r).cps.toList.all fun c => decide (c < 128)) = true := by decide +kernel
    have wd := word_da (S := S) (G := G) (L := 0) (n := 3 * m + 3) (rw2 r)
    have sub : ∀ l ∈ ps.labels, l ∈ ls := a.subset
    obtain ⟨ds, hds, hws⟩ := kns_da (S := S) (G := G) L b sub
    have l4 : ps.labels.length ≤ 4 := Nat.le_trans a.length_le L.len
    have hr := hds.tup (by rw [Kl.len]; omega)
    obtain ⟨dq, hq, hq2⟩ : ∃ dq, Da S G 0 (3 * m + 3) (oT q) dq ∧ wtD dq ≤ 12 := by
      cases q with
      | none => exact ⟨_, .non, by rw [wt_non]; omega⟩
      | some i => exact ⟨_, .int (by have := c i rfl; omega), by rw [wt_int]; omega⟩
    obtain ⟨z, h1, h2⟩ := wd.1.mk3 (hr.up (m := 3 * m + 3) (by omega)) hq
    refine ⟨z, by simp only [knT]; exact h1, ?_⟩
    rw [wt_tup] at h2
    have l5 : ps.labels.length * (Cv m + 93) ≤ 4 * (Cv m + 93) := Nat.mul_le_mul_right _ l4
    have := wd.2
    show _ ≤ 4 * Cv m + 1100
    omega
theorem kns_da {S : Addr → Prop} {G : Gp} {ls : List Str} (L : Lab ls) : ∀ {m : Nat} {ps : Kl}, Kgs ls m ps → (∀ l ∈ ps.labels, l ∈ ls) → ∃ ds, DaL S G 0 (3 * m + 2) (klT ps) ds ∧ wtA ds ≤ ps.labels.length * (Cv m + 93)
  | m, _, .nil, _ => ⟨[], by simp only [klT]; exact .nil, by rw [wtA_nil]; omega⟩
  | m, _, .cons (l := l) (ps := ps) a b, h => by
    obtain ⟨d, hd, hw⟩ := kn_da (S := S) (G := G) L a
    obtain ⟨ds, hds, hws⟩ := kns_da (S := S) (G := G) L b fun x hx => h x (by simp [Kl.labels, hx])
    have v := Wd.da (S := S) (G := G) (L := 0) (n := 3 * m + 1) (L.wd l (h l (by simp [Kl.labels])))
    obtain ⟨z, h1, h2⟩ := v.1.mk2 hd
    refine ⟨z :: ds, by simp only [klT]; exact .cons h1 hds, ?_⟩
    rw [wtA_cons]
    simp only [Kl.labels, List.length_cons]
    rw [Nat.add_mul]
    have := v.2
    omega
end

mutual
theorem Kg.le {ls : List Str} : ∀ {n m : Nat} {k : Kn}, Kg ls n k → n ≤ m → Kg ls m k
  | n, m, .num, _, _ => .num
  | n, m, .any _, .any h, _ => .any h
  | n, m, .own _ _, .own a b, _ => .own a b
  | _, m, .fn a b, .fn h1 h2, l => by
    obtain ⟨m, rfl⟩ : ∃ m', m = m' + 1 := ⟨m - 1, by omega⟩
    exact .fn (Kg.le h1 (by omega)) (Kg.le h2 (by omega))
  | _, m, .row r ps q, .row h1 h2 h3 h4, l => by
    obtain ⟨m, rfl⟩ : ∃ m', m = m' + 1 := ⟨m - 1, by omega⟩
    exact .row h1 h2 h3 (Kgs.le h4 (by omega))
theorem Kgs.le {ls : List Str} : ∀ {n m : Nat} {ps : Kl}, Kgs ls n ps → n ≤ m → Kgs ls m ps
  | n, m, .nil, _, _ => .nil
  | n, m, .cons _ _ _, .cons a b, l => .cons (Kg.le a l) (Kgs.le b l)
end
/-! ### what the law opens -/
theorem x_eqP2 {a b m n : Str} {G : Gp} {R : KT} (h1 : Wd a) (h2 : Wd b) (h3 : Wd m) (h4 : Wd n) (h : R (.bl (decide (a = m) && decide (b = n))) G) : oEq (.tup [.str a, .str b]) (.tup [.str m, .str n]) G R := by
  refine ⟨.tuple [.str a, .str b], .tuple [.str m, .str n], .tup (.cons (.str _) (.cons (.str _) .nil)), .tup (.cons (.str _) (.cons (.str _) .nil)), ?_, ?_, ?_⟩
  · exact ((DaL.tup (S := fun _ => False) (G := G) (L := 0) (n := 0) (.cons h1.da.1 (.cons h2.da.1 .nil)) (by show 2 ≤ _; omega)).nd (by decide)).shaped (by decide)
  · exact ((DaL.tup (S := fun _ => False) (G := G) (L := 0) (n := 0) (.cons h3.da.1 (.cons h4.da.1 .nil)) (by show 2 ≤ _; omega)).nd (by decide)).shaped (by decide)
  · have e : PyData.eqv (.tuple [.str a, .str b]) (.tuple [.str m, .str n]) = (decide (a = m) && decide (b = n)) := by
      simp only [PyData.eqv, PyData.eqvAll, Bool.and_true, beq_dec]
    rw [e]; exact h
theorem x_neNilK {ls : List Str} {p r : Addr} {ks : List Kn} {G : Gp} {R : KT} (L : Lab ls) (e : G p = some (.lst (ks.map knT))) (e2 : G r = some (.lst [])) (hk : ∀ k ∈ ks, Kg ls 3 k) (hl : ks.length ≤ 40) (h : R (.bl (!ks.isEmpty)) G) : oNe (.ref p) (.ref r) G R := by
  obtain ⟨ds, hds, _⟩ := DaL.rows (S := fun _ => False) (G := G) (L := 0) (n := 10) (f := knT) (c := Cv 3 + 2) (ps := ks) fun k hk' => by
    obtain ⟨d, h1, h2⟩ := kn_da (S := fun _ => False) (G := G) L (hk k hk')
    exact ⟨d, h1, by omega⟩
  have hd := hds.lst (p := p) (by rw [List.length_map]; omega) (fun z => z) e
  have nd := hd.nd (by decide)
  have he : Da (fun _ => False) G 0 1 (.ref r) (.list []) := DaL.lst (n := 0) .nil (by decide) (fun z => z) e2
  refine ⟨_, _, nd.dt, (he.nd (by decide)).dt, nd.shaped (by decide), (he.nd (by decide)).shaped (by decide), ?_⟩
  have ln := hds.len
  rw [List.length_map] at ln
  have : PyData.eqv (.list ds) (.list []) = ks.isEmpty := by
    cases ds with
    | nil =>
      cases ks with
      | nil => rfl
      | cons _ _ => simp at ln
    | cons _ _ =>
      cases ks with
      | nil => simp at ln
      | cons _ _ => rfl
  rw [this]; exact h
def opK (m n : Str) (z : Op) : Bool := decide (z.1 = m) && decide (z.2.1 = n)
theorem look_filter (m n : Str) (os : List Op) : look os m n = ((os.filter (opK m n)).map (·.2.2)).head? := by
  unfold look
  rw [List.head?_map, List.head?_filter]
  rfl
theorem lopened_ok {ls : List Str} (L : Lab ls) {os : List Op} {p : Addr} (hos : ∀ z ∈ os, Kg ls 3 z.2.2 ∧ Wd z.1 ∧ Wd z.2.1) (ho : os.length ≤ 40) : ∀ (n : Nat) {k : Nat} {kn : Kn} {G : Gp} {R : KT}, dp kn ≤ n → KW kn → G p = some (.lst (os.map opT)) →
    (∀ G' : Gp, Ext G G' → R (knT (opn (look os) kn)) G') → SP (k + n + 1) 19 [knT kn, .ref p] G R := by
  have szl := sizeLine_eq
  intro n
  induction n with
  | zero =>
    intro k kn G R hd hw ep hR
    show spOf 7 2 (b19 (SP (k + 0))) _ _ _
    refine ⟨rfl, ?_⟩
    unfold b19
    with_reducible refine x_seq ?_
    with_reducible refine x_if ?_
    refine x_b (x_op (x_op (x_var rfl (x_c (x_head (x_c (x_eqD (kn_shaped kn) (by decide +kernel) ⟨_, rfl, ?_⟩)))))))
    refine x_ite (fun c => ?_) (fun c0 => ?_)
    · obtain ⟨m, n, rfl⟩ := kn_own (of_decide_eq_true c)
      simp only [KW] at hw
      with_reducible refine x_seq ?_
      refine x_asg (x_lc (x_iseq (x_var rfl ⟨os.map opT, .inr (.inl (.inr ⟨p, rfl, ep⟩)), fun D hD => ?_⟩)))
      refine ⟨fun j G' => G' D = some (.lst ((((os.take j).filter (opK m n)).map (·.2.2)).map knT)) ∧ Ext G G', ⟨put_same, Ext.new hD⟩, fun i G' ⟨_, f⟩ p' hp' => ?_, ?_, ?_⟩
      · have : p' = (p, os.map opT) := by simpa [heldT] using hp'
        rw [this]; exact f _ _ ep
      · intro j t G' ht ⟨e, f⟩
        obtain ⟨z, hz1, rfl⟩ : ∃ z, os[j]? = some z ∧ t = opT z := by
          have ht : (os.map opT)[j]? = some t := ht
          rw [List.getElem?_map] at ht
          cases e : os[j]? with
          | none => rw [e] at ht; cases ht
          | some z => rw [e] at ht; cases ht; exact ⟨z, rfl, rfl⟩
        have hzm := hos z (List.mem_of_getElem? hz1)
        have tk : os.take (j + 1) = os.take j ++ [z] := by rw [List.take_add_one, hz1]; rfl
        refine x_gtup rfl (x_gcons (x_gname (x_gcons (x_gname (x_gcons (x_gname (x_gnil ?_)))))))
        refine x_b (x_op (x_tup (x_cons (x_var rfl (x_cons (x_var rfl (x_nil ⟨by show 2 ≤ sizeLine; omega, ?_⟩)))))))
        refine x_sl (x_var rfl (x_slS (x_c ⟨1, rfl, x_slN ?_⟩)))
        have ec : knT (.own m n) = .tup [.str "own", .str m, .str n] := by simp only [knT]
        rw [ec]
        refine x_slT ?_
        have ec2 : cutT [T.str "own", .str m, .str n] (some 1) none = [.str m, .str n] := rfl
        rw [ec2]
        refine x_eqP2 hzm.2.1 hzm.2.2 hw.1 hw.2 ⟨_, rfl, ?_⟩
        refine x_ite (fun c => ?_) (fun c => ?_)
        · refine x_var rfl ⟨_, e, ?_, fwdG.of ⟨?_, Ext.grow hD f⟩⟩
          · rw [List.length_map, List.length_map]
            have := List.length_filter_le (opK m n) (os.take j)
            rw [List.length_take] at this
            omega
          · rw [put_same, tk, List.filter_append, List.filter_cons_of_pos (by exact c)]
            simp
        · refine fwdG.of ⟨?_, f⟩
          rw [tk, List.filter_append, List.filter_cons_of_neg (by show ¬ opK m n z = true; rw [show opK m n z = false from c]; exact Bool.false_ne_true)]
          simpa using e
      · intro G1 ⟨e, f1⟩
        have e : G1 D = some (.lst (((os.filter (opK m n)).map (·.2.2)).map knT)) := by
          have e : G1 D = some (.lst ((((os.take (os.map opT).length).filter (opK m n)).map (·.2.2)).map knT)) := e
          rw [List.length_map, List.take_length] at e
          exact e
        have hl := look_filter m n os
        have hks : ∀ k ∈ (os.filter (opK m n)).map (·.2.2), Kg ls 3 k := fun k hk => by
          obtain ⟨z, hz, rfl⟩ := List.mem_map.mp hk
          exact (hos z (List.mem_filter.mp hz).1).1
        have hkl : ((os.filter (opK m n)).map (·.2.2)).length ≤ 40 := by
          rw [List.length_map]
          exact Nat.le_trans (List.length_filter_le _ _) ho
        generalize (os.filter (opK m n)).map (·.2.2) = ks at e hl hks hkl
        refine x_gname ?_
        dsimp only
        refine x_ret (x_ife (x_b (x_op (x_var rfl (x_lst (x_nil ⟨by show 0 ≤ sizeLine; omega, fun q hq => ?_⟩))))))
        refine x_neNilK L (get_new hq e) put_same hks hkl ⟨_, rfl, ?_⟩
        have f2 : Ext G (Mi.put G1 q (.lst [])) := Ext.trans f1 (Ext.new hq)
        cases ks with
        | nil =>
          refine x_iteF rfl (x_var rfl (fwdT.of ?_))
          have := hR _ f2
          have e2 : opn (look os) (.own m n) = .own m n := by
            simp only [opn, hl, List.head?_nil, Option.getD_none]
          rw [e2] at this
          exact this
        | cons k0 kr =>
          refine x_iteT rfl (x_op (x_var rfl (x_c (x_ix (get_new hq e) (u := knT k0) (atI0 _ _) (fwdT.of ?_)))))
          have := hR _ f2
          have e2 : opn (look os) (.own m n) = k0 := by
            simp only [opn, hl, List.head?_cons, Option.getD_some]
          rw [e2] at this
          exact this
    have c0 := of_decide_eq_false c0
    refine x_next ?_
    dsimp only
    with_reducible refine x_seq ?_
    with_reducible refine x_if ?_
    refine x_b (x_op (x_op (x_var rfl (x_c (x_head (x_c (x_eqD (kn_shaped kn) (by decide +kernel) ⟨_, rfl, ?_⟩)))))))
    refine x_ite (fun c => ?_) (fun c1 => ?_)
    · obtain ⟨a, b, rfl⟩ := kn_fun (of_decide_eq_true c)
      simp only [dp] at hd; omega
    have c1 := of_decide_eq_false c1
    refine x_next ?_
    dsimp only
    with_reducible refine x_seq ?_
    with_reducible refine x_if ?_
    refine x_b (x_op (x_op (x_var rfl (x_c (x_head (x_tup (x_cons (x_c (x_cons (x_c (x_nil ⟨by show 2 ≤ sizeLine; omega, x_ninS2d ⟨_, rfl, ?_⟩⟩)))))))))))
    refine x_ite (fun c => ?_) (fun c2 => ?_)
    · refine x_ret (x_var rfl (fwdT.of ?_))
      have := hR G (Ext.refl _)
      rw [opn_leaf c0 c1 (by simpa using c)] at this
      exact this
    · obtain ⟨r, ps, q, rfl⟩ := kn_row (or_of c2)
      simp only [dp] at hd; omega
  | succ n ih =>
    intro k kn G R hd hw ep hR
    show spOf 7 2 (b19 (SP (k + n + 1))) _ _ _
    refine ⟨rfl, ?_⟩
    unfold b19
    with_reducible refine x_seq ?_
    with_reducible refine x_if ?_
    refine x_b (x_op (x_op (x_var rfl (x_c (x_head (x_c (x_eqD (kn_shaped kn) (by decide +kernel) ⟨_, rfl, ?_⟩)))))))
    refine x_ite (fun c => ?_) (fun c0 => ?_)
    · obtain ⟨m, n, rfl⟩ := kn_own (of_decide_eq_true c)
      simp only [KW] at hw
      with_reducible refine x_seq ?_
      refine x_asg (x_lc (x_iseq (x_var rfl ⟨os.map opT, .inr (.inl (.inr ⟨p, rfl, ep⟩)), fun D hD => ?_⟩)))
      refine ⟨fun j G' => G' D = some (.lst ((((os.take j).filter (opK m n)).map (·.2.2)).map knT)) ∧ Ext G G', ⟨put_same, Ext.new hD⟩, fun i G' ⟨_, f⟩ p' hp' => ?_, ?_, ?_⟩
      · have : p' = (p, os.map opT) := by simpa [heldT] using hp'
        rw [this]; exact f _ _ ep
      · intro j t G' ht ⟨e, f⟩
        obtain ⟨z, hz1, rfl⟩ : ∃ z, os[j]? = some z ∧ t = opT z := by
          have ht : (os.map opT)[j]? = some t := ht
          rw [List.getElem?_map] at ht
          cases e : os[j]? with
          | none => rw [e] at ht; cases ht
          | some z => rw [e] at ht; cases ht; exact ⟨z, rfl, rfl⟩
        have hzm := hos z (List.mem_of_getElem? hz1)
        have tk : os.take (j + 1) = os.take j ++ [z] := by rw [List.take_add_one, hz1]; rfl
        refine x_gtup rfl (x_gcons (x_gname (x_gcons (x_gname (x_gcons (x_gname (x_gnil ?_)))))))
        refine x_b (x_op (x_tup (x_cons (x_var rfl (x_cons (x_var rfl (x_nil ⟨by show 2 ≤ sizeLine; omega, ?_⟩)))))))
        refine x_sl (x_var rfl (x_slS (x_c ⟨1, rfl, x_slN ?_⟩)))
        have ec : knT (.own m n) = .tup [.str "own", .str m, .str n] := by simp only [knT]
        rw [ec]
        refine x_slT ?_
        have ec2 : cutT [T.str "own", .str m, .str n] (some 1) none = [.str m, .str n] := rfl
        rw [ec2]
        refine x_eqP2 hzm.2.1 hzm.2.2 hw.1 hw.2 ⟨_, rfl, ?_⟩
        refine x_ite (fun c => ?_) (fun c => ?_)
        · refine x_var rfl ⟨_, e, ?_, fwdG.of ⟨?_, Ext.grow hD f⟩⟩
          · rw [List.length_map, List.length_map]
            have := List.length_filter_le (opK m n) (os.take j)
            rw [List.length_take] at this
            omega
          · rw [put_same, tk, List.filter_append, List.filter_cons_of_pos (by exact c)]
            simp
        · refine fwdG.of ⟨?_, f⟩
          rw [tk, List.filter_append, List.filter_cons_of_neg (by show ¬ opK m n z = true; rw [show opK m n z = false from c]; exact Bool.false_ne_true)]
          simpa using e
      · intro G1 ⟨e, f1⟩
        have e : G1 D = some (.lst (((os.filter (opK m n)).map (·.2.2)).map knT)) := by
          have e : G1 D = some (.lst ((((os.take (os.map opT).length).filter (opK m n)).map (·.2.2)).map knT)) := e
          rw [List.length_map, List.take_length] at e
          exact e
        have hl := look_filter m n os
        have hks : ∀ k ∈ (os.filter (opK m n)).map (·.2.2), Kg ls 3 k := fun k hk => by
          obtain ⟨z, hz, rfl⟩ := List.mem_map.mp hk
          exact (hos z (List.mem_filter.mp hz).1).1
        have hkl : ((os.filter (opK m n)).map (·.2.2)).length ≤ 40 := by
          rw [List.length_map]
          exact Nat.le_trans (List.length_filter_le _ _) ho
        generalize (os.filter (opK m n)).map (·.2.2) = ks at e hl hks hkl
        refine x_gname ?_
        dsimp only
        refine x_ret (x_ife (x_b (x_op (x_var rfl (x_lst (x_nil ⟨by show 0 ≤ sizeLine; omega, fun q hq => ?_⟩))))))
        refine x_neNilK L (get_new hq e) put_same hks hkl ⟨_, rfl, ?_⟩
        have f2 : Ext G (Mi.put G1 q (.lst [])) := Ext.trans f1 (Ext.new hq)
        cases ks with
        | nil =>
          refine x_iteF rfl (x_var rfl (fwdT.of ?_))
          have := hR _ f2
          have e2 : opn (look os) (.own m n) = .own m n := by
            simp only [opn, hl, List.head?_nil, Option.getD_none]
          rw [e2] at this
          exact this
        | cons k0 kr =>
          refine x_iteT rfl (x_op (x_var rfl (x_c (x_ix (get_new hq e) (u := knT k0) (atI0 _ _) (fwdT.of ?_)))))
          have := hR _ f2
          have e2 : opn (look os) (.own m n) = k0 := by
            simp only [opn, hl, List.head?_cons, Option.getD_some]
          rw [e2] at this
          exact this
    have c0 := of_decide_eq_false c0
    refine x_next ?_
    dsimp only
    with_reducible refine x_seq ?_
    with_reducible refine x_if ?_
    refine x_b (x_op (x_op (x_var rfl (x_c (x_head (x_c (x_eqD (kn_shaped kn) (by decide +kernel) ⟨_, rfl, ?_⟩)))))))
    refine x_ite (fun c => ?_) (fun c1 => ?_)
    · obtain ⟨a, b, rfl⟩ := kn_fun (of_decide_eq_true c)
      simp only [dp] at hd
      simp only [KW] at hw
      refine x_ret (x_tup (x_cons (x_c (x_cons (x_call (x_cons (x_op (x_var rfl (x_c (x_fn1 (x_cons (x_var rfl (x_nil (ih (by omega) hw.1 ep fun G1 f1 => ?_))))))))))))))
      refine x_cons (x_call (x_cons (x_op (x_var rfl (x_c (x_fn2 (x_cons (x_var rfl (x_nil (ih (by omega) hw.2 (f1 _ _ ep) fun G2 f2 => ?_))))))))))
      refine x_nil ⟨by show 3 ≤ sizeLine; omega, fwdT.of ?_⟩
      have := hR G2 (f1.trans f2)
      simp only [opn, knT] at this
      exact this
    have c1 := of_decide_eq_false c1
    refine x_next ?_
    dsimp only
    with_reducible refine x_seq ?_
    with_reducible refine x_if ?_
    refine x_b (x_op (x_op (x_var rfl (x_c (x_head (x_tup (x_cons (x_c (x_cons (x_c (x_nil ⟨by show 2 ≤ sizeLine; omega, x_ninS2d ⟨_, rfl, ?_⟩⟩)))))))))))
    refine x_ite (fun c => ?_) (fun c2 => ?_)
    · refine x_ret (x_var rfl (fwdT.of ?_))
      have := hR G (Ext.refl _)
      rw [opn_leaf c0 c1 (by simpa using c)] at this
      exact this
    · obtain ⟨r, ps, q, rfl⟩ := kn_row (or_of c2)
      simp only [dp] at hd
      simp only [KW] at hw
      have hlen := ps.len
      refine x_next ?_
      dsimp only
      refine x_ret (x_tup (x_cons (x_op (x_var rfl (x_c (x_head (x_cons (x_call (x_cons (x_lc (x_iseq (x_op (x_var rfl (x_c (x_row1 ⟨klT ps, .inl rfl, fun D hD => ?_⟩)))))))))))))))
      refine ⟨fun j G' => G' D = some (.lst ((klT (opnl (look os) ps)).take j)) ∧ Ext G G', ⟨put_same, Ext.new hD⟩, fun i G' _ p hp => by simp [heldT] at hp, ?_, ?_⟩
      · intro j t G' ht ⟨e, f⟩
        obtain ⟨l, kc, rfl, ek, el⟩ := klT_at ht
        have h1 := dpl_at ek
        have hwc := KWl_at hw.2 ek
        refine x_gtup rfl (x_gcons (x_gname (x_gcons (x_gname (x_gnil ?_)))))
        unfold mtYes; dsimp only
        rw [if_pos rfl]
        refine x_tup (x_cons (x_var rfl (x_cons (x_call (x_cons (x_var rfl (x_cons (x_var rfl (x_nil ?_)))))))))
        refine ih (kn := kc) (by omega) hwc (f _ _ ep) fun G2 f2 => x_nil ⟨by show 2 ≤ sizeLine; omega, _, f2 _ _ e, ?_, fwdG.of ⟨?_, Ext.grow hD (f.trans f2)⟩⟩
        · rw [List.length_take, Kl.len, opnl_labels]; omega
        · rw [put_same, List.take_add_one, opnl_at ek el]; rfl
      · intro G' ⟨e, f⟩
        have e : G' D = some (.lst (klT (opnl (look os) ps))) := by
          have e : G' D = some (.lst ((klT (opnl (look os) ps)).take (klT ps).length)) := e
          rw [Kl.len, ← opnl_labels (look os) ps, ← Kl.len, List.take_length] at e
          exact e
        refine x_nil (x_tuple (.inr (.inr ⟨D, rfl, e⟩)) (by rw [Kl.len, opnl_labels]; omega) ?_)
        refine x_cons (x_op (x_var rfl (x_c (x_row2 (x_nil ⟨by show 3 ≤ sizeLine; omega, fwdT.of ?_⟩)))))
        have := hR G' f
        simp only [opn, knT] at this
        exact this
end Lw

set_option Elab.async false
set_option linter.all false
set_option maxRecDepth 100000
set_option maxHeartbeats 1000000
namespace Lw
open PySem L2 Mi
variable [Tb]
local macro_rules | `(tactic| walk_at "get") => `(tactic| first | assumption | exact put_same | (refine get_new (by assumption) ?_; walk_at "get") | (refine get_ne (by assumption) ?_; walk_at "get"))
local macro_rules | `(tactic| walk_at "sq") => `(tactic| first | assumption | exact .inl rfl | exact .inr (.inl rfl) | exact .inr (.inr ⟨_, rfl, by walk_at "get"⟩))
local macro_rules | `(tactic| walk_at "size") => `(tactic| first | assumption | (simp only [List.length_cons, List.length_nil]; decide) | (have := sizeLine_eq; omega))
local macro_rules | `(tactic| walk_at "txt") => `(tactic| first | assumption | (simp only [Str.length, Str.cps_append, Array.size_append]; have := sizeLine_eq; omega))
local macro_rules | `(tactic| walk_at "go1") => `(tactic| first
  | ((with_reducible refine' x_var ?e ?_); (case e => with_unfolding_all rfl))
  | with_reducible refine x_seq ?_
  | with_reducible refine x_asg ?_
  | with_reducible refine x_if ?_
  | with_reducible refine x_ret ?_
  | with_reducible refine x_next ?_
  | with_reducible refine x_expr ?_
  | with_reducible refine x_gname ?_
  | with_reducible refine x_gcons ?_
  | with_reducible refine x_gnil ?_
  | with_reducible refine x_gsub ?_
  | with_reducible refine x_c ?_
  | with_reducible refine x_op ?_
  | with_reducible refine x_call ?_
  | with_reducible refine x_cons ?_
  | with_reducible refine x_nil ?_
  | with_reducible refine x_par ?_
  | with_reducible refine x_tup ?_
  | with_reducible refine x_lst ?_
  | with_reducible refine x_b ?_
  | with_reducible refine x_tru ?_
  | with_reducible refine x_not ?_
  | with_reducible refine x_or ?_
  | with_reducible refine x_and ?_
  | with_reducible refine x_ife ?_
  | with_reducible refine x_add ?_
  | with_reducible refine x_sub ?_
  | with_reducible refine x_gtI ?_
  | with_reducible refine x_ltI ?_
  | with_reducible refine x_geI ?_
  | with_reducible refine x_leI ?_
  | with_reducible refine x_abs ?_
  | with_reducible refine x_intb ?_
  | with_reducible refine x_for ?_
  | with_reducible refine x_irange ?_
  | with_reducible refine x_lc ?_
  | with_reducible refine x_yes ?_
  | with_reducible refine x_bm ?_
  | with_reducible refine x_bm0 ?_
  | with_reducible refine x_andv ?_
  | with_reducible refine x_orv ?_
  | with_reducible refine x_notv ?_
  | with_reducible refine x_eqI ?_
  | with_reducible refine x_tystr ?_
  | ((with_reducible refine' x_gtup ?e ?_); (case e => with_unfolding_all rfl))
  | ((with_reducible refine' x_pow ?e ?_); (case e => exact ⟨by decide, by decide, by decide⟩))
  | ((with_reducible refine' x_ix ?e ?q ?_); (case e => walk_at "get"); (case q => with_unfolding_all rfl))
  | ((with_reducible refine' x_ixt ?q ?_); (case q => with_unfolding_all rfl))
  | ((with_reducible refine' x_sto ?e ?q ?_); (case e => walk_at "get"); (case q => with_unfolding_all rfl))
  | ((with_reducible refine' x_adds ?e ?_); (case e => walk_at "txt"))
  | ((with_reducible refine' x_muls ?e ?f ?g ?_); (case e => omega); (case f => omega); (case g => walk_at "txt"))
  | ((with_reducible refine' x_divmod ?e ?_); (case e => exact ⟨by omega, by omega⟩))
  | ((with_reducible refine' x_mod ?e ?_); (case e => omega))
  | ((with_reducible refine' x_fdivC ?e ?f ?_); (case e => omega); (case f => omega))
  | ((with_reducible refine' x_mulL ?e ?f ?_); (case e => omega); (case f => omega))
  | ((with_reducible refine' x_mulR ?e ?f ?_); (case e => omega); (case f => omega))
  | ((with_reducible refine' x_len ?e ?_); (case e => walk_at "sq"))
  | ((with_reducible refine' x_range ?e ?f ?_); (case e => omega); (case f => omega))
  | ((with_reducible refine' x_tylst ?e ?_); (case e => walk_at "get"))
  | ((with_reducible refine' x_append ?e ?f ?_); (case e => walk_at "get"); (case f => walk_at "size"))
  | ((with_reducible refine' And.intro ?e ?_); (case e => (show _ ≤ sizeLine; walk_at "size")))
  | ((with_reducible refine' Exists.intro _ (And.intro ?e ?_)); (case e => with_unfolding_all rfl)))
section
variable {a w q pl po pa : Addr} {ls : List Str} {os : List (Str × Str)} {an : List Int}
theorem Cn_le : ∀ d : Nat, d ≤ 5 → Cn d ≤ 1706 := fun d hd => by
  match d, hd with
  | 0, _ => decide
  | 1, _ => decide
  | 2, _ => decide
  | 3, _ => decide
  | 4, _ => decide
  | 5, _ => decide
/-! ### a small kind -/
theorem small_ok {k d : Nat} {G : Gp} {N : Int} {R : KT} (L : Lab ls) (hd : d ≤ 5) (h : Wrl a w q pl po pa ls os an G N) (hN : N + Ck d ≤ 800000)
    (hR : ∀ (kd : Kn) (G' : Gp), Kg ls (max d 1) kd → nK kd ≤ 30 → FrS (S3 a w q) G G' → Wrl a w q pl po pa ls os an G' (N + Ck d) → R (knT kd) G') : SP (k + 31) 18 [.ref a, .ref w, .int ((d + 1 : Nat) : Int)] G R := by
  have szl := sizeLine_eq
  show spOf 4 3 (b18 (SP (k + 30))) _ _ _
  refine ⟨rfl, ?_⟩
  unfold b18
  with_reducible refine x_seq ?_
  refine x_asg (x_call (x_cons (x_var rfl (x_cons (x_var rfl (x_cons (x_var rfl (x_nil ?_))))))))
  refine kind_ok L d (k + 30) (by omega) G _ _ h hN fun kd G1 hk f1 W1 => x_gname ?_
  dsimp only
  have hs := Kg.size L.len hk
  have hc := Cn_le d hd
  obtain ⟨k0, hk0⟩ : ∃ k0, k + 30 = k0 + d + 1 := ⟨k + 29 - d, by omega⟩
  refine x_ret (x_ife (x_b (x_op (x_call (x_cons (x_var rfl (x_nil ?_)))))))
  rw [hk0]
  refine size_ok d hs.2 (by omega) fun G2 f2 => x_c (x_ltI ⟨_, rfl, ?_⟩)
  have W2 := W1.take f2.fr (by obtain ⟨b0, b1, b2, z, zz⟩ := W1.bx; exact ⟨b0, b1, b2, f2 _ _ z, zz⟩) (Int.le_refl _)
  have F2 := f1.trans (f2.fr.toS (S := S3 a w q) (a := a) (.inl rfl))
  refine x_ite (fun c => ?_) (fun c => ?_)
  · have c := of_decide_eq_true c
    exact x_var rfl (fwdT.of (hR kd G2 (hk.le (by omega)) (by omega) F2 W2))
  · refine x_tup (x_cons (x_c (x_cons (x_tup (x_cons (x_c (x_nil ⟨by show 1 ≤ sizeLine; omega, ?_⟩)))))))
    refine x_cons (x_tup (x_cons (x_c (x_nil ⟨by show 1 ≤ sizeLine; omega, x_nil ⟨by show 3 ≤ sizeLine; omega, fwdT.of ?_⟩⟩))))
    obtain ⟨m, hm⟩ : ∃ m, max d 1 = m + 1 := ⟨max d 1 - 1, by omega⟩
    have := hR (.fn .num .num) G2 (by rw [hm]; exact .fn .num .num) (by simp [nK]) F2 W2
    simp only [knT] at this
    exact this
/-! ### a kind without numbers -/
theorem merge2 {kvs : List (Key × T)} {k1 k2 : Key} {t1 t2 : T} : mergeT kvs [(k1, t1), (k2, t2)] = putT (putT kvs k1 t1) k2 t2 := rfl
theorem wk_bare {x y : Addr} {n : Int} : mergeT (wk pl po pa q n) (mergeT [] [(.inr "anys", .ref x), (.inr "rests", .ref y)]) = wk pl po x y n := by
  have ne : ∀ {x y : Str}, ¬ x = y → ¬ (Sum.inr x : Key) = Sum.inr y := fun h z => h (Sum.inr.inj z)
  have e : mergeT [] [((.inr "anys" : Key), T.ref x), (.inr "rests", .ref y)] = [(.inr "anys", .ref x), (.inr "rests", .ref y)] := by
    rw [merge2]
    simp only [putT, List.any_nil, Bool.false_eq_true, if_false, List.nil_append, List.any_cons, Bool.or_false]
    rw [if_neg (by simpa using ne wk_ne.2.2.2.2.2.2.2.1)]
    rfl
  rw [e, merge2]
  have e2 : putT (wk pl po pa q n) (.inr "anys") (.ref x) = wk pl po x q n := by
    unfold putT wk
    rw [if_pos (by simp), List.map_cons, if_neg (ne wk_ne.2.1), List.map_cons, if_neg (ne wk_ne.2.2.2.2.1), List.map_cons, if_pos rfl, List.map_cons, if_neg (ne fun z => wk_ne.2.2.2.2.2.2.2.1 z.symm), List.map_cons, if_neg (ne fun z => wk_ne.2.2.2.2.2.2.2.2.1 z.symm), List.map_nil]
  rw [e2]
  unfold putT wk
  rw [if_pos (by simp), List.map_cons, if_neg (ne wk_ne.2.2.1), List.map_cons, if_neg (ne wk_ne.2.2.2.2.2.1), List.map_cons, if_neg (ne wk_ne.2.2.2.2.2.2.2.1), List.map_cons, if_pos rfl, List.map_cons, if_neg (ne fun z => wk_ne.2.2.2.2.2.2.2.2.2 z.symm), List.map_nil]
theorem bare_ok {k : Nat} {G : Gp} {N : Int} {R : KT} (L : Lab ls) (h : Wrl a w q pl po pa ls os an G N) (ho : os ≠ []) (hN : N + 361 ≤ 800000)
    (hR : ∀ (kd : Kn) (G' : Gp), Kg ls 3 kd → Fr a G G' → Wrl a w q pl po pa ls os an G' (N + 361) → R (knT kd) G') : SP (k + 32) 20 [.ref a, .ref w] G R := by
  have szl := sizeLine_eq
  show spOf 4 2 (b20 (SP (k + 31))) _ _ _
  refine ⟨rfl, ?_⟩
  unfold b20
  obtain ⟨n, kvs, s1, s2, s3, s4, s5, s6⟩ := h.st
  have hN0 : 0 ≤ N := by obtain ⟨_, _, _, _, _, _, _, z1, z2⟩ := h.bx; omega
  with_reducible refine x_seq ?_
  refine x_asg (x_call (x_cons (x_var rfl (x_nil ⟨w, _, rfl, s1, fun p hp => x_gname ?_⟩))))
  dsimp only
  have pof := h.off hp
  have W1 := h.new (c := .dK (wk pl po pa q n)) hp
  have F1 : Fr a G (Mi.put G p (.dK (wk pl po pa q n))) := Fr.new hp
  have ep1 : Mi.put G p (.dK (wk pl po pa q n)) p = some (.dK (wk pl po pa q n)) := put_same
  generalize Mi.put G p (.dK (wk pl po pa q n)) = G1 at W1 F1 ep1
  with_reducible refine x_seq ?_
  refine x_expr (x_bm (x_var rfl (x_tydct ep1 (x_cons (x_disp fun b hb => ?_)))))
  have W2 := W1.new (c := .dK []) hb
  have F2 : Fr a G (Mi.put G1 b (.dK [])) := F1.trans (Fr.new hb)
  have ep2 : Mi.put G1 b (.dK []) p = some (.dK (wk pl po pa q n)) := get_new hb ep1
  have eb2 : Mi.put G1 b (.dK []) b = some (.dK []) := put_same
  generalize Mi.put G1 b (.dK []) = G2 at W2 F2 ep2 eb2
  refine x_pcons (x_lst (x_nil ⟨by show 0 ≤ sizeLine; omega, fun pa2 hpa2 => ?_⟩))
  have W3 := W2.new (c := .lst []) hpa2
  have oa := W2.off hpa2
  have F3 : Fr a G (Mi.put G2 pa2 (.lst [])) := F2.trans (Fr.new hpa2)
  have ep3 : Mi.put G2 pa2 (.lst []) p = some (.dK (wk pl po pa q n)) := get_new hpa2 ep2
  have eb3 : Mi.put G2 pa2 (.lst []) b = some (.dK []) := get_new hpa2 eb2
  have ea3 : Mi.put G2 pa2 (.lst []) pa2 = some (.lst []) := put_same
  generalize Mi.put G2 pa2 (.lst []) = G3 at W3 F3 ep3 eb3 ea3
  refine x_pcons fun q2 hq2 => ?_
  have W4 := W3.new (c := .dK []) hq2
  have oq := W3.off hq2
  have F4 : Fr a G (Mi.put G3 q2 (.dK [])) := F3.trans (Fr.new hq2)
  have ep4 : Mi.put G3 q2 (.dK []) p = some (.dK (wk pl po pa q n)) := get_new hq2 ep3
  have eb4 : Mi.put G3 q2 (.dK []) b = some (.dK []) := get_new hq2 eb3
  have ea4 : Mi.put G3 q2 (.dK []) pa2 = some (.lst []) := get_new hq2 ea3
  have eq4 : Mi.put G3 q2 (.dK []) q2 = some (.dK []) := put_same
  have q2G : G q2 = none := F3.none oq.1 hq2
  generalize Mi.put G3 q2 (.dK []) = G4 at W4 F4 ep4 eb4 ea4 eq4
  refine ⟨eb4, by show 2 ≤ 15; decide, ?_⟩
  have bp : b ≠ p := fun z => by rw [z, ep1] at hb; cases hb
  have bq2 : b ≠ q2 := fun z => by rw [← z, eb3] at hq2; cases hq2
  have pq2 : p ≠ q2 := fun z => by rw [← z, ep3] at hq2; cases hq2
  have bof := W1.off hb
  have W5 := W4.put (c := .dK (mergeT [] [(.inr "anys", .ref pa2), (.inr "rests", .ref q2)])) bof
  have bG : G b = none := F1.none bof.1 hb
  have F5 : Fr a G (Mi.put G4 b (.dK (mergeT [] [(.inr "anys", .ref pa2), (.inr "rests", .ref q2)]))) := Fr.grow bG F4
  have ep5 : Mi.put G4 b (.dK (mergeT [] [(.inr "anys", .ref pa2), (.inr "rests", .ref q2)])) p = some (.dK (wk pl po pa q n)) := by rw [put_ne (Ne.symm bp)]; exact ep4
  have ba2 : b ≠ pa2 := fun z => by rw [← z, eb2] at hpa2; cases hpa2
  have ea5 : Mi.put G4 b (.dK (mergeT [] [(.inr "anys", .ref pa2), (.inr "rests", .ref q2)])) pa2 = some (.lst []) := by rw [put_ne (Ne.symm ba2)]; exact ea4
  have eq5 : Mi.put G4 b (.dK (mergeT [] [(.inr "anys", .ref pa2), (.inr "rests", .ref q2)])) q2 = some (.dK []) := by rw [put_ne (Ne.symm bq2)]; exact eq4
  have eb5 : Mi.put G4 b (.dK (mergeT [] [(.inr "anys", .ref pa2), (.inr "rests", .ref q2)])) b = some (.dK (mergeT [] [(.inr "anys", .ref pa2), (.inr "rests", .ref q2)])) := put_same
  generalize Mi.put G4 b (.dK (mergeT [] [(.inr "anys", .ref pa2), (.inr "rests", .ref q2)])) = G5 at W5 F5 ep5 ea5 eq5 eb5
  refine x_nil ⟨p, b, _, _, rfl, rfl, Ne.symm bp, ep5, eb5, ?_, ?_⟩
  · have : (mergeT [] [((.inr "anys" : Key), T.ref pa2), (.inr "rests", .ref q2)]).length ≤ 2 := by
      rw [merge2]
      exact Nat.le_trans (put_lenT _ _ _) (by have := put_lenT [] (.inr "anys" : Key) (T.ref pa2); simpa using this)
    show 5 + _ ≤ _
    omega
  rw [wk_bare]
  have F6 : Fr a G (Mi.put G5 p (.dK (wk pl po pa2 q2 n))) := Fr.grow hp F5
  have ap : a ≠ p := Ne.symm pof.1
  have B6 : Bx (Mi.put G5 p (.dK (wk pl po pa2 q2 n))) a N := W5.bx.put pof.1
  have g : ∀ {x : Addr} {c : C}, x ≠ p → G5 x = some c → Mi.put G5 p (.dK (wk pl po pa2 q2 n)) x = some c := fun h e => by rw [put_ne h]; exact e
  have pap : pa2 ≠ p := fun z => by rw [z, ep2] at hpa2; cases hpa2
  have W6 : Wrl a p q2 pl po pa2 ls os [] (Mi.put G5 p (.dK (wk pl po pa2 q2 n))) N :=
    ⟨B6, pof.1, oq.1, h.la, h.oa, oa.1, pq2, g (Ne.symm pof.2.2.2.1) W5.lab, g (Ne.symm pof.2.2.2.2.1) W5.own, h.owd, g pap ea5, (fun i hi => by cases hi), by decide, h.ol, n, [], put_same, g (Ne.symm pq2) eq5, (fun p hp => by cases hp), by show (0 : Int) ≤ n; omega, s5, s6⟩
  generalize Mi.put G5 p (.dK (wk pl po pa2 q2 n)) = G6 at F6 W6
  dsimp only
  with_reducible refine x_seq ?_
  refine x_asg (x_call (x_cons (x_var rfl (x_cons (x_var rfl (x_cons (x_op (x_c (x_call (x_cons (x_var rfl (x_cons (x_c (x_nil ?_))))))))))))))
  refine take_ok W6.bx (by omega) (by omega) (by omega) fun v G7 v0 v3 f7 B7 => x_add (x_nil ?_)
  have W7 := W6.take f7 B7 (by omega)
  obtain ⟨d, hd⟩ : ∃ d : Nat, v = d := ⟨v.toNat, by omega⟩
  have ed : (1 : Int) + v = ((d + 1 : Nat) : Int) := by omega
  rw [ed]
  have ckl : ∀ d : Nat, d ≤ 2 → Ck d ≤ 360 := fun d hd => by
    match d, hd with
    | 0, _ => decide
    | 1, _ => decide
    | 2, _ => decide
  have ck := ckl d (by omega)
  refine small_ok (k := k) L (by omega) W7 (by omega) fun kd G8 hk _ f8 W8 => x_gname ?_
  dsimp only
  have S8 : FrS (S3 a p q2) G6 G8 := (f7.toS (.inl rfl)).trans f8
  have F8 : Fr a G G8 := fun x c n e => by
    have e6 := F6 x c n e
    refine S8 x c (fun z => ?_) e6
    rcases z with z | z | z
    · exact n z
    · rw [z, hp] at e; cases e
    · rw [z, q2G] at e; cases e
  have W9 : ∀ {G9 : Gp}, Fr a G8 G9 → Bx G9 a (N + 361) → Wrl a w q pl po pa ls os an G9 (N + 361) := fun f b => h.take (F8.trans f) b (by omega)
  obtain ⟨m, kv8, t1, t2, _⟩ := W8.st
  refine x_ret (x_ife (x_b (x_op (x_dget (x_var rfl (x_c ⟨p, _, rfl, W8.gr, fun y hy => ?_⟩))))))
  have F9 : Fr a G8 (Mi.put G8 y (.dK [])) := Fr.new hy
  have B9 : Bx (Mi.put G8 y (.dK [])) a (N + 361) := (W8.bx.new hy).le (by omega)
  refine x_eqE (get_new hy t2) put_same ⟨_, rfl, ?_⟩
  refine x_ite (fun c => ?_) (fun c => ?_)
  · exact x_var rfl (fwdT.of (hR kd _ (hk.le (by omega)) (F8.trans F9) (W9 F9 B9)))
  · have W10 := W9 F9 B9
    obtain ⟨⟨o1, o2⟩, orr, eo⟩ : ∃ o orr, os = o :: orr := by
      cases os with
      | nil => exact absurd rfl ho
      | cons o r => exact ⟨o, r, rfl⟩
    have eow := W10.own
    have wds := W10.owd (o1, o2) (by rw [eo]; exact List.mem_cons_self)
    rw [eo] at eow
    refine x_op (x_tup (x_cons (x_c (x_nil ⟨by show 1 ≤ sizeLine; omega, x_op (x_dget (x_var rfl (x_c ⟨w, _, rfl, W10.go, x_c (x_ix eow (u := prT (o1, o2)) (atI0 _ _) (x_catT (by show 3 ≤ sizeLine; omega) (fwdT.of ?_)))⟩)))⟩))))
    have := hR (.own o1 o2) _ (.own wds.1 wds.2) (F8.trans F9) W10
    simp only [knT] at this
    exact this
end
end Lw

set_option Elab.async false
set_option linter.all false
set_option maxRecDepth 100000
set_option maxHeartbeats 1000000
namespace Lw
open PySem L2 Mi
variable [Tb]
local macro_rules | `(tactic| walk_at "get") => `(tactic| first | assumption | exact put_same | (refine get_new (by assumption) ?_; walk_at "get") | (refine get_ne (by assumption) ?_; walk_at "get"))
local macro_rules | `(tactic| walk_at "sq") => `(tactic| first | assumption | exact .inl rfl | exact .inr (.inl rfl) | exact .inr (.inr ⟨_, rfl, by walk_at "get"⟩))
local macro_rules | `(tactic| walk_at "size") => `(tactic| first | assumption | (simp only [List.length_cons, List.length_nil]; decide) | (have := sizeLine_eq; omega))
local macro_rules | `(tactic| walk_at "txt") => `(tactic| first | assumption | (simp only [Str.length, Str.cps_append, Array.size_append]; have := sizeLine_eq; omega))
local macro_rules | `(tactic| walk_at "go1") => `(tactic| first
  | ((with_reducible refine' x_var ?e ?_); (case e => with_unfolding_all rfl))
  | with_reducible refine x_seq ?_
  | with_reducible refine x_asg ?_
  | with_reducible refine x_if ?_
  | with_reducible refine x_ret ?_
  | with_reducible refine x_next ?_
  | with_reducible refine x_expr ?_
  | with_reducible refine x_gname ?_
  | with_reducible refine x_gcons ?_
  | with_reducible refine x_gnil ?_
  | with_reducible refine x_gsub ?_
  | with_reducible refine x_c ?_
  | with_reducible refine x_op ?_
  | with_reducible refine x_call ?_
  | with_reducible refine x_cons ?_
  | with_reducible refine x_nil ?_
  | with_reducible refine x_par ?_
  | with_reducible refine x_tup ?_
  | with_reducible refine x_lst ?_
  | with_reducible refine x_b ?_
  | with_reducible refine x_tru ?_
  | with_reducible refine x_not ?_
  | with_reducible refine x_or ?_
  | with_reducible refine x_and ?_
  | with_reducible refine x_ife ?_
  | with_reducible refine x_add ?_
  | with_reducible refine x_sub ?_
  | with_reducible refine x_gtI ?_
  | with_reducible refine x_ltI ?_
  | with_reducible refine x_geI ?_
  | with_reducible refine x_leI ?_
  | with_reducible refine x_abs ?_
  | with_reducible refine x_intb ?_
  | with_reducible refine x_for ?_
  | with_reducible refine x_irange ?_
  | with_reducible refine x_lc ?_
  | with_reducible refine x_yes ?_
  | with_reducible refine x_bm ?_
  | with_reducible refine x_bm0 ?_
  | with_reducible refine x_andv ?_
  | with_reducible refine x_orv ?_
  | with_reducible refine x_notv ?_
  | with_reducible refine x_eqI ?_
  | with_reducible refine x_tystr ?_
  | ((with_reducible refine' x_gtup ?e ?_); (case e => with_unfolding_all rfl))
  | ((with_reducible refine' x_pow ?e ?_); (case e => exact ⟨by decide, by decide, by decide⟩))
  | ((with_reducible refine' x_ix ?e ?q ?_); (case e => walk_at "get"); (case q => with_unfolding_all rfl))
  | ((with_reducible refine' x_ixt ?q ?_); (case q => with_unfolding_all rfl))
  | ((with_reducible refine' x_sto ?e ?q ?_); (case e => walk_at "get"); (case q => with_unfolding_all rfl))
  | ((with_reducible refine' x_adds ?e ?_); (case e => walk_at "txt"))
  | ((with_reducible refine' x_muls ?e ?f ?g ?_); (case e => omega); (case f => omega); (case g => walk_at "txt"))
  | ((with_reducible refine' x_divmod ?e ?_); (case e => exact ⟨by omega, by omega⟩))
  | ((with_reducible refine' x_mod ?e ?_); (case e => omega))
  | ((with_reducible refine' x_fdivC ?e ?f ?_); (case e => omega); (case f => omega))
  | ((with_reducible refine' x_mulL ?e ?f ?_); (case e => omega); (case f => omega))
  | ((with_reducible refine' x_mulR ?e ?f ?_); (case e => omega); (case f => omega))
  | ((with_reducible refine' x_len ?e ?_); (case e => walk_at "sq"))
  | ((with_reducible refine' x_range ?e ?f ?_); (case e => omega); (case f => omega))
  | ((with_reducible refine' x_tylst ?e ?_); (case e => walk_at "get"))
  | ((with_reducible refine' x_append ?e ?f ?_); (case e => walk_at "get"); (case f => walk_at "size"))
  | ((with_reducible refine' And.intro ?e ?_); (case e => (show _ ≤ sizeLine; walk_at "size")))
  | ((with_reducible refine' Exists.intro _ (And.intro ?e ?_)); (case e => with_unfolding_all rfl)))
theorem merge_nodup : ∀ (more kvs : List (Key × T)), (kvs ++ more).Pairwise (fun a b => a.1 ≠ b.1) → mergeT kvs more = kvs ++ more
  | [], kvs, _ => by rw [List.append_nil]; rfl
  | p :: more, kvs, h => by
    have e : putT kvs p.1 p.2 = kvs ++ [p] := by
      unfold putT
      rw [if_neg]
      intro z
      obtain ⟨q, hq, eq⟩ := List.any_eq_true.mp z
      exact (List.pairwise_append.mp h).2.2 q hq p List.mem_cons_self (of_decide_eq_true eq)
    show mergeT (putT kvs p.1 p.2) more = _
    rw [e, merge_nodup more (kvs ++ [p]) (by simpa using h)]
    simp
theorem x_sortS {p : Addr} {xs : List Str} {G : Gp} {R : KT} (e : G p = some (.lst (xs.map T.str))) (l : xs.length < 64) (h : ∀ (ys : List Str) q, ys.Perm xs → PyProof.Rows.sortedS ys = true → G q = none → R (.ref q) (put G q (.lst (ys.map T.str)))) : omSortS [.ref p] G R := ⟨_, xs, rfl, .inr ⟨p, rfl, e⟩, l, h⟩
theorem merge_of {kvs : List (Key × T)} {ls : List Str} (e : kvs.map (·.1) = ls.map Sum.inr) (h : ls.Nodup) : mergeT [] kvs = kvs := by
  refine (merge_nodup kvs [] ?_).trans (List.nil_append _)
  have h2 : (kvs.map (·.1)).Nodup := by
    rw [e]
    exact List.Pairwise.map _ (fun a b n z => n (Sum.inr.inj z)) h
  rw [List.nil_append]
  exact List.pairwise_map.mp h2
theorem x_dput {mo mi mv : ME} {M : MEnds} {r : Mi.Env} {G : Gp} (h : mv r G fun u G1 => mo r G1 fun s G2 => mi r G2 fun t G3 => ∃ a G4, s = .ref a ∧ ptT G3 a t u G4 ∧ M.nx r G4) : msDPut mo mi mv M r G := h
theorem sorted_lab {zs ls : List Str} (nd : zs.Nodup) (hl : zs.length = 3) (hw : ∀ z ∈ zs, Wd z) (pm : ls.Perm zs) (hs : PyProof.Rows.sortedS ls = true) : Lab ls := by
  refine ⟨by rw [pm.length_eq]; omega, fun z => ?_, fun z hz => hw z (pm.mem_iff.mp hz), ?_⟩
  · have := pm.length_eq
    rw [z, hl] at this; cases this
  have nd2 : ls.Nodup := pm.nodup_iff.mpr nd
  refine pw_up _ (((sorted_pw ls hs).and nd2).imp fun {x y} h => ?_)
  cases hxy : ltS x y with
  | true => rfl
  | false => exact absurd (ltS_con hxy h.1) h.2
section
variable {a : Addr}
/-! ### a world -/
theorem world_ok {k : Nat} {G : Gp} {N : Int} {R : KT} (h : Bx G a N) (h0 : 0 ≤ N) (hN : N ≤ 700000)
    (hR : ∀ (w q pl po pa : Addr) (ls : List Str) (G' : Gp), G w = none → G q = none → Lab ls → Wrl a w q pl po pa ls [] [0, 1, 2] G' (N + 20) → G' q = some (.dK []) → Fr a G G' → R (.ref w) G') : SP (k + 3) 12 [.ref a, .int 3] G R := by
  have szl := sizeLine_eq
  show spOf 3 2 (b12 (SP (k + 2))) _ _ _
  refine ⟨rfl, ?_⟩
  unfold b12
  with_reducible refine x_seq ?_
  refine x_asg (x_disp fun w hw => x_pcons (x_call (x_cons (x_call (x_cons (x_var rfl (x_cons (x_var rfl (x_nil ?_)))))))))
  have wa := h.ne hw
  refine names2_ok (k := k) (h.new hw) (by omega) (by decide) (by decide) fun p0 zs G0 p0a p0n e0 zl zw znd f0 B0 => ?_
  have F0 : Fr a G G0 := (Fr.new hw).trans f0
  have ew0 : G0 w = some (.dK []) := f0 _ _ wa put_same
  refine x_nil (x_sortS e0 (by omega) fun ls pl hperm hs hpl => ?_)
  have L : Lab ls := sorted_lab znd (by omega) zw hperm hs
  have la := B0.ne hpl
  have B1 := B0.new (c := .lst (ls.map T.str)) hpl
  have F1 : Fr a G (Mi.put G0 pl (.lst (ls.map T.str))) := F0.trans (Fr.new hpl)
  have ew1 : Mi.put G0 pl (.lst (ls.map T.str)) w = some (.dK []) := get_new hpl ew0
  have el1 : Mi.put G0 pl (.lst (ls.map T.str)) pl = some (.lst (ls.map T.str)) := put_same
  generalize Mi.put G0 pl (.lst (ls.map T.str)) = G1 at B1 F1 ew1 el1
  refine x_pcons (x_lst (x_nil ⟨by show 0 ≤ sizeLine; omega, fun po hpo => ?_⟩))
  have oa := B1.ne hpo
  have B2 := B1.new (c := .lst []) hpo
  have F2 : Fr a G (Mi.put G1 po (.lst [])) := F1.trans (Fr.new hpo)
  have ew2 : Mi.put G1 po (.lst []) w = some (.dK []) := get_new hpo ew1
  have el2 : Mi.put G1 po (.lst []) pl = some (.lst (ls.map T.str)) := get_new hpo el1
  have eo2 : Mi.put G1 po (.lst []) po = some (.lst []) := put_same
  generalize Mi.put G1 po (.lst []) = G2 at B2 F2 ew2 el2 eo2
  refine x_pcons (x_lst (x_cons (x_c (x_cons (x_c (x_cons (x_c (x_nil ⟨by show 3 ≤ sizeLine; omega, fun pa hpa => ?_⟩))))))))
  have aa := B2.ne hpa
  have B3 := B2.new (c := .lst [.int 0, .int 1, .int 2]) hpa
  have F3 : Fr a G (Mi.put G2 pa (.lst [.int 0, .int 1, .int 2])) := F2.trans (Fr.new hpa)
  have ew3 : Mi.put G2 pa (.lst [.int 0, .int 1, .int 2]) w = some (.dK []) := get_new hpa ew2
  have el3 : Mi.put G2 pa (.lst [.int 0, .int 1, .int 2]) pl = some (.lst (ls.map T.str)) := get_new hpa el2
  have eo3 : Mi.put G2 pa (.lst [.int 0, .int 1, .int 2]) po = some (.lst []) := get_new hpa eo2
  have ea3 : Mi.put G2 pa (.lst [.int 0, .int 1, .int 2]) pa = some (.lst [.int 0, .int 1, .int 2]) := put_same
  generalize Mi.put G2 pa (.lst [.int 0, .int 1, .int 2]) = G3 at B3 F3 ew3 el3 eo3 ea3
  refine x_pcons fun q hq => ?_
  have qa := B3.ne hq
  have B4 := B3.new (c := .dK []) hq
  have q0 : G q = none := F3.none qa hq
  have wq : w ≠ q := fun z => by rw [z, hq] at ew3; cases ew3
  have F4 : Fr a G (Mi.put G3 q (.dK [])) := F3.trans (Fr.new hq)
  have ew4 : Mi.put G3 q (.dK []) w = some (.dK []) := get_new hq ew3
  have el4 : Mi.put G3 q (.dK []) pl = some (.lst (ls.map T.str)) := get_new hq el3
  have eo4 : Mi.put G3 q (.dK []) po = some (.lst []) := get_new hq eo3
  have ea4 : Mi.put G3 q (.dK []) pa = some (.lst [.int 0, .int 1, .int 2]) := get_new hq ea3
  have eq4 : Mi.put G3 q (.dK []) q = some (.dK []) := put_same
  generalize Mi.put G3 q (.dK []) = G4 at B4 F4 ew4 el4 eo4 ea4 eq4
  refine x_pcons (x_c ⟨ew4, by show 5 ≤ 15; decide, ?_⟩)
  have em : mergeT [] [(Sum.inr "labels", T.ref pl), (.inr "owns", .ref po), (.inr "anys", .ref pa), (.inr "rests", .ref q), (.inr "next", .int 3)] = wk pl po pa q 3 :=
    merge_of (kvs := wk pl po pa q 3) (ls := ["labels", "owns", "anys", "rests", "next"]) rfl (by decide +kernel)
  rw [em]
  refine x_gname ?_
  dsimp only
  have g : ∀ {p : Addr} {ts : List T}, G4 p = some (.lst ts) → Mi.put G4 w (.dK (wk pl po pa q 3)) p = some (.lst ts) := fun {p ts} z => by
    rw [put_ne (fun y => by rw [y, ew4] at z; cases z)]; exact z
  refine x_ret (x_var rfl (fwdT.of (hR w q pl po pa ls _ hw q0 L ?_ (by rw [put_ne (Ne.symm wq)]; exact eq4) (Fr.grow hw F4))))
  exact ⟨(B4.put wa), wa, qa, la, oa, aa, wq, g el4, g eo4, (fun z hz => by cases hz), g ea4, (fun i hi => by
    simp only [List.mem_cons, List.not_mem_nil, or_false] at hi
    rcases hi with rfl | rfl | rfl <;> decide), by decide, by decide, 3, [], put_same, by rw [put_ne (Ne.symm wq)]; exact eq4, (fun p hp => by cases hp), by decide, by decide, by omega⟩
theorem wk_putO {pl po po' pa q : Addr} {n : Int} : putT (wk pl po pa q n) (.inr "owns") (.ref po') = wk pl po' pa q n := by
  have ne : ∀ {x y : Str}, ¬ x = y → ¬ (Sum.inr x : Key) = Sum.inr y := fun h z => h (Sum.inr.inj z)
  unfold putT wk
  rw [if_pos (by simp), List.map_cons, if_neg (ne wk_ne.1), List.map_cons, if_pos rfl, List.map_cons, if_neg (ne fun z => wk_ne.2.2.2.2.1 z.symm), List.map_cons, if_neg (ne fun z => wk_ne.2.2.2.2.2.1 z.symm), List.map_cons, if_neg (ne fun z => wk_ne.2.2.2.2.2.2.1 z.symm), List.map_nil]
theorem wk_putA {pl po pa' pa q : Addr} {n : Int} : putT (wk pl po pa q n) (.inr "anys") (.ref pa') = wk pl po pa' q n := by
  have ne : ∀ {x y : Str}, ¬ x = y → ¬ (Sum.inr x : Key) = Sum.inr y := fun h z => h (Sum.inr.inj z)
  unfold putT wk
  rw [if_pos (by simp), List.map_cons, if_neg (ne wk_ne.2.1), List.map_cons, if_neg (ne wk_ne.2.2.2.2.1), List.map_cons, if_pos rfl, List.map_cons, if_neg (ne fun z => wk_ne.2.2.2.2.2.2.2.1 z.symm), List.map_cons, if_neg (ne fun z => wk_ne.2.2.2.2.2.2.2.2.1 z.symm), List.map_nil]
/-- other owns, written into the world -/
theorem Wrl.setO {w q pl po pa po' : Addr} {ls : List Str} {os os' : List (Str × Str)} {an : List Int} {G : Gp} {N : Int} (h : Wrl a w q pl po pa ls os an G N) (e : G po' = some (.lst (os'.map prT))) (hw : ∀ z ∈ os', Wd z.1 ∧ Wd z.2) (hl : os'.length ≤ 7) :
    ∃ G' , ptT G w (.str "owns") (.ref po') G' ∧ Wrl a w q pl po' pa ls os' an G' N ∧ ∀ x, x ≠ w → G' x = G x := by
  obtain ⟨n, kvs, s1, s2, s3, s4, s5, s6⟩ := h.st
  have oa : po' ≠ a := fun z => by obtain ⟨b0, b1, b2, z2, _⟩ := h.bx; rw [z, z2] at e; injection e with e; injection e with e; cases os' with
    | nil => simp at e
    | cons x r => simp [prT] at e
  have g : ∀ {p : Addr} {ts : List T} {n' : Int} {po2 : Addr}, G p = some (.lst ts) → Mi.put G w (.dK (wk pl po2 pa q n')) p = some (.lst ts) := fun {p ts n' po2} z => by
    rw [put_ne (fun y => by rw [y, s1] at z; cases z)]; exact z
  refine ⟨_, .inl ⟨_, .inr "owns", s1, rfl, by show 5 < sizeLine; decide, rfl⟩, ?_, fun x hx => put_ne hx⟩
  rw [wk_putO]
  exact ⟨h.bx.put h.wa, h.wa, h.qa, h.la, oa, h.aa, h.wq, g h.lab, g e, hw, g h.any, h.abd, h.al, hl, n, kvs, put_same, by rw [put_ne (Ne.symm h.wq)]; exact s2, s3, s4, s5, s6⟩
/-! ### a world with sealed kinds -/
theorem oworld_ok {k : Nat} {G : Gp} {N : Int} {R : KT} (h : Bx G a N) (h0 : 0 ≤ N) (hN : N ≤ 700000)
    (hR : ∀ (w q pl po pa : Addr) (ls : List Str) (os : List (Str × Str)) (an : List Int) (G' : Gp), G w = none → G q = none → Lab ls → os.length ≤ 3 → Wrl a w q pl po pa ls os an G' (N + 60) → Fr a G G' → R (.ref w) G') : SP (k + 4) 16 [.ref a, .int 3] G R := by
  have szl := sizeLine_eq
  show spOf 6 2 (b16 (SP (k + 3))) _ _ _
  refine ⟨rfl, ?_⟩
  unfold b16
  with_reducible refine x_seq ?_
  refine x_asg (x_call (x_cons (x_var rfl (x_cons (x_var rfl (x_nil ?_))))))
  refine world_ok (k := k) h h0 hN fun w q pl po pa ls G1 w0 q0 L W1 eq1 F1 => x_gname ?_
  dsimp only
  with_reducible refine x_seq ?_
  refine x_asg (x_call (x_cons (x_var rfl (x_cons (x_c (x_nil ?_))))))
  refine names2_ok (k := k + 1) W1.bx (by omega) (by decide) (by decide) fun pn zs G2 pna pnn en zl zw znd f2 B2 => x_gname ?_
  dsimp only
  have W2 := W1.take f2 B2 (by omega)
  have F2 := F1.trans f2
  have zl4 : zs.length = 4 := by omega
  have pick : ∀ (G3 : Gp) (M : Int) (r : Mi.Env) (K : KT), r[0]? = some (some (.ref a)) → r[3]? = some (some (.ref pn)) → G3 pn = some (.lst (zs.map T.str)) → Bx G3 a M → M ≤ 800000 → (∀ z G4, z ∈ zs → Fr a G3 G4 → Bx G4 a (M + 1) → K (.str z) G4) →
      mOp oIx (mVar 3) (mCall (SP (k + 3) 7) (maCons (mVar 0) (maCons (mC (.int 4)) maNil))) r G3 K := by
    intro G3 M r K r0 r3 e3 B3 hM kk
    refine x_op (x_var r3 (x_call (x_cons (x_var r0 (x_cons (x_c (x_nil ?_)))))))
    refine take_ok B3 (by omega) (by omega) (by omega) fun v G4 v0 v1 f4 B4 => ?_
    obtain ⟨u, eu, mu⟩ := atI_nat (xs := zs.map T.str) v0 (by rw [List.length_map, zl4]; exact v1)
    obtain ⟨z, hz, rfl⟩ := List.mem_map.mp mu
    exact x_ix (f4 _ _ pna e3) eu (kk z G4 hz f4 B4)
  with_reducible refine x_seq ?_
  refine x_dput (x_lc (x_irange (x_call (x_cons (x_var rfl (x_cons (x_c (x_nil ?_))))))))
  refine take_ok W2.bx (by omega) (by omega) (by omega) fun v G3 v0 v4 f3 B3 => ?_
  have F3 := F2.trans f3
  have W3 := W2.take f3 B3 (by omega)
  refine ⟨v, rfl, by omega, by omega, fun D hD => ?_⟩
  have oD := W3.off hD
  refine ⟨fun i G' => ∃ os : List (Str × Str), os.length = i ∧ (∀ z ∈ os, Wd z.1 ∧ Wd z.2) ∧ G' D = some (.lst (os.map prT)) ∧ Fr a G3 G' ∧ Bx G' a (N + 41 + 2 * (i : Nat)), ⟨[], rfl, (fun z hz => by cases hz), put_same, Fr.new hD, (B3.new hD).le (by omega)⟩, fun i G' _ p hp => (by cases hp), ?_, ?_⟩
  · intro i t G' hi ⟨os, o1, o2, o3, o4, o5⟩
    obtain ⟨rfl, hi2⟩ := range_at hi
    have hi4 : (i : Int) < 4 := by omega
    refine x_gname (x_yes ?_)
    rw [if_pos rfl]
    refine x_tup (x_cons ?_)
    refine pick G' _ _ _ rfl rfl (o4 _ _ pna (f3 _ _ pna en)) o5 (by omega) fun z1 G4 hz1 f4 B4 => x_cons ?_
    refine pick G4 _ _ _ rfl rfl (f4 _ _ pna (o4 _ _ pna (f3 _ _ pna en))) B4 (by omega) fun z2 G5 hz2 f5 B5 => x_nil ⟨by show 2 ≤ sizeLine; omega, ?_⟩
    have f45 := f4.trans f5
    refine ⟨_, f45 _ _ oD.1 o3, by rw [List.length_map]; omega, fwdG.of ⟨os ++ [(z1, z2)], by rw [List.length_append, o1]; rfl, fun z hz => ?_, by rw [put_same, List.map_append]; rfl, Fr.grow hD (o4.trans f45), (B5.put oD.1).le (by omega)⟩⟩
    rcases List.mem_append.mp hz with y | y
    · exact o2 z y
    · rw [List.mem_singleton.mp y]; exact ⟨zw _ hz1, zw _ hz2⟩
  intro G4 ⟨os, o1, o2, o3, o4, o5⟩
  have ol : os.length ≤ 3 := by
    rw [o1]
    simp only [rangeT, List.length_map, List.length_range]
    omega
  have B4 : Bx G4 a (N + 47) := o5.le (by rw [← o1]; omega)
  have W4 := W3.take o4 B4 (by omega)
  have F4 := F3.trans o4
  have eq4 : G4 q = some (.dK []) := o4 _ _ W1.qa (f3 _ _ W1.qa (f2 _ _ W1.qa eq1))
  obtain ⟨G5, pt5, W5, g5⟩ := W4.setO o3 o2 (by omega)
  have eq5 : G5 q = some (.dK []) := by rw [g5 q (Ne.symm W1.wq)]; exact eq4
  refine x_var rfl (x_c ⟨w, G5, rfl, pt5, ?_⟩)
  dsimp only
  have F5 : Fr a G G5 := fun x c n e => by rw [g5 x (fun z => by rw [z, w0] at e; cases e)]; exact F4 x c n e
  have en5 : G5 pn = some (.lst (zs.map T.str)) := by
    obtain ⟨n, kvs, s1, _⟩ := W4.st
    have e4 := o4 _ _ pna (f3 _ _ pna en)
    rw [g5 pn (fun z => by rw [z, s1] at e4; cases e4)]; exact e4
  with_reducible refine x_seq ?_
  refine x_asg (x_op (x_lst (x_cons (x_c (x_cons (x_call (x_cons (x_var rfl (x_cons (x_c (x_nil ?_)))))))))))
  refine take_ok W5.bx (by omega) (by omega) (by omega) fun u1 G6 u1a u1b f6 B6 => ?_
  have W6 := W5.take f6 B6 (by omega)
  have F6 := F5.trans f6
  refine x_cons (x_op (x_c (x_c (x_pow ⟨by decide, by decide, by decide⟩ (x_nil ⟨by show 3 ≤ sizeLine; omega, fun e he => ?_⟩)))))
  have W7 := W6.new (c := .lst [.int 0, .int u1, .int (10 ^ (6 : Int).toNat)]) he
  have F7 : Fr a G (Mi.put G6 e (.lst [.int 0, .int u1, .int (10 ^ (6 : Int).toNat)])) := F6.trans (Fr.new he)
  have ee : Mi.put G6 e (.lst [.int 0, .int u1, .int (10 ^ (6 : Int).toNat)]) e = some (.lst [.int 0, .int u1, .int (10 ^ (6 : Int).toNat)]) := put_same
  have ea := W6.bx.ne he
  have eq7 : Mi.put G6 e (.lst [.int 0, .int u1, .int (10 ^ (6 : Int).toNat)]) q = some (.dK []) := get_new he (f6 _ _ W1.qa eq5)
  generalize Mi.put G6 e (.lst [.int 0, .int u1, .int (10 ^ (6 : Int).toNat)]) = G7 at W7 F7 ee eq7
  refine x_call (x_cons (x_var rfl (x_cons (x_c (x_nil ?_)))))
  refine take_ok W7.bx (by omega) (by omega) (by omega) fun u2 G8 u2a u2b f8 B8 => ?_
  have W8 := W7.take f8 B8 (by omega)
  have F8 := F7.trans f8
  obtain ⟨y, ey, my⟩ := atI_nat (xs := [T.int 0, .int u1, .int (10 ^ (6 : Int).toNat)]) u2a u2b
  obtain ⟨first, rfl, fb⟩ : ∃ first : Int, y = .int first ∧ 0 ≤ first ∧ first ≤ 1000000 := by
    simp only [List.mem_cons, List.not_mem_nil, or_false] at my
    rcases my with rfl | rfl | rfl
    · exact ⟨0, rfl, by decide, by decide⟩
    · exact ⟨u1, rfl, by omega, by omega⟩
    · exact ⟨_, rfl, by decide, by decide⟩
  refine x_ix (f8 _ _ ea ee) ey (x_gname ?_)
  dsimp only
  with_reducible refine x_seq ?_
  refine x_asg (x_tup (x_cons (x_sl (x_lst (x_cons (x_var rfl (x_cons (x_op (x_var rfl (x_c (x_add (x_cons (x_op (x_var rfl (x_c (x_add (x_nil ⟨by show 3 ≤ sizeLine; omega, fun e2 he2 => ?_⟩)))))))))))))))))
  have W9 := W8.new (c := .lst [.int first, .int (first + 1), .int (first + 7)]) he2
  have F9 : Fr a G (Mi.put G8 e2 (.lst [.int first, .int (first + 1), .int (first + 7)])) := F8.trans (Fr.new he2)
  have ee2 : Mi.put G8 e2 (.lst [.int first, .int (first + 1), .int (first + 7)]) e2 = some (.lst [.int first, .int (first + 1), .int (first + 7)]) := put_same
  have ea2 := W8.bx.ne he2
  have eq9 : Mi.put G8 e2 (.lst [.int first, .int (first + 1), .int (first + 7)]) q = some (.dK []) := get_new he2 (f8 _ _ W1.qa eq7)
  generalize Mi.put G8 e2 (.lst [.int first, .int (first + 1), .int (first + 7)]) = G9 at W9 F9 ee2 eq9
  refine x_slN (x_slS (x_call (x_cons (x_var rfl (x_cons (x_c (x_nil ?_)))))))
  refine take_ok W9.bx (by omega) (by omega) (by omega) fun u3 G10 u3a u3b f10 B10 => ⟨u3, rfl, ?_⟩
  have W10 := W9.take f10 B10 (by omega)
  have F10 := F9.trans f10
  refine x_slA (f10 _ _ ea2 ee2) fun pa2 hpa2 => ?_
  have ec : cutT [T.int first, .int (first + 1), .int (first + 7)] none (some u3) = ([first, first + 1, first + 7].take u3.toNat).map T.int := by
    rw [cut_hi _ u3a, List.map_take]; rfl
  rw [ec]
  have W11 := W10.new (c := .lst (([first, first + 1, first + 7].take u3.toNat).map T.int)) hpa2
  have F11 : Fr a G (Mi.put G10 pa2 (.lst (([first, first + 1, first + 7].take u3.toNat).map T.int))) := F10.trans (Fr.new hpa2)
  have e11 : Mi.put G10 pa2 (.lst (([first, first + 1, first + 7].take u3.toNat).map T.int)) pa2 = some (.lst (([first, first + 1, first + 7].take u3.toNat).map T.int)) := put_same
  have pa2a := W10.bx.ne hpa2
  have eq11 : Mi.put G10 pa2 (.lst (([first, first + 1, first + 7].take u3.toNat).map T.int)) q = some (.dK []) := get_new hpa2 (f10 _ _ W1.qa eq9)
  have anb : ∀ i ∈ [first, first + 1, first + 7].take u3.toNat, i.natAbs ≤ 2000000 := fun i hi => by
    have := List.mem_of_mem_take hi
    simp only [List.mem_cons, List.not_mem_nil, or_false] at this
    rcases this with rfl | rfl | rfl <;> omega
  have anl : ([first, first + 1, first + 7].take u3.toNat).length ≤ 3 := by rw [List.length_take]; show min _ 3 ≤ 3; omega
  generalize ([first, first + 1, first + 7].take u3.toNat) = an at W11 F11 e11 eq11 anb anl
  generalize Mi.put G10 pa2 (.lst (an.map T.int)) = G11 at W11 F11 e11 eq11
  refine x_cons (x_op (x_var rfl (x_c (x_add (x_nil ⟨by show 2 ≤ sizeLine; omega, x_gtup rfl (x_gcons (x_gsub (x_var rfl (x_c ?_))))⟩)))))
  obtain ⟨n, kvs, s1, s2, s3, s4, s5, s6⟩ := W11.st
  have eq12 : Mi.put (Mi.put G11 w (.dK (wk pl D pa2 q n))) w (.dK (wk pl D pa2 q (first + 8))) q = some (.dK []) := by rw [put_put, put_ne (Ne.symm W11.wq)]; exact eq11
  refine ⟨w, _, rfl, .inl ⟨_, .inr "anys", s1, rfl, by show 5 < sizeLine; decide, rfl⟩, ?_⟩
  rw [wk_putA]
  refine x_gcons (x_gsub (x_var rfl (x_c ⟨w, _, rfl, .inl ⟨_, .inr "next", put_same, rfl, by show 5 < sizeLine; decide, rfl⟩, x_gnil ?_⟩)))
  rw [wk_put]
  have g : ∀ {x : Addr} {ts : List T}, G11 x = some (.lst ts) → Mi.put (Mi.put G11 w (.dK (wk pl D pa2 q n))) w (.dK (wk pl D pa2 q (first + 8))) x = some (.lst ts) := fun {x ts} z => by
    rw [put_put, put_ne (fun y => by rw [y, s1] at z; cases z)]; exact z
  refine x_ret (x_var rfl (fwdT.of (hR w q pl D pa2 ls os an _ w0 q0 L ol ?_ (by rw [put_put]; exact Fr.grow w0 F11))))
  exact ⟨by rw [put_put]; exact (W11.bx.put W11.wa).le (by omega), W11.wa, W11.qa, W11.la, W11.oa, pa2a, W11.wq, g W11.lab, g W11.own, W11.owd, g e11, anb, anl, W11.ol, first + 8, [], put_same, eq12, (fun p hp => by cases hp), by show (0 : Int) ≤ first + 8; omega, by omega, by omega⟩
end
end Lw

set_option Elab.async false
set_option linter.all false
set_option maxRecDepth 100000
set_option maxHeartbeats 1000000
namespace Lw
open PySem L2 Mi
variable [Tb]
local macro_rules | `(tactic| walk_at "get") => `(tactic| first | assumption | exact put_same | (refine get_new (by assumption) ?_; walk_at "get") | (refine get_ne (by assumption) ?_; walk_at "get"))
local macro_rules | `(tactic| walk_at "sq") => `(tactic| first | assumption | exact .inl rfl | exact .inr (.inl rfl) | exact .inr (.inr ⟨_, rfl, by walk_at "get"⟩))
local macro_rules | `(tactic| walk_at "size") => `(tactic| first | assumption | (simp only [List.length_cons, List.length_nil]; decide) | (have := sizeLine_eq; omega))
local macro_rules | `(tactic| walk_at "txt") => `(tactic| first | assumption | (simp only [Str.length, Str.cps_append, Array.size_append]; have := sizeLine_eq; omega))
local macro_rules | `(tactic| walk_at "go1") => `(tactic| first
  | ((with_reducible refine' x_var ?e ?_); (case e => with_unfolding_all rfl))
  | with_reducible refine x_seq ?_
  | with_reducible refine x_asg ?_
  | with_reducible refine x_if ?_
  | with_reducible refine x_ret ?_
  | with_reducible refine x_next ?_
  | with_reducible refine x_expr ?_
  | with_reducible refine x_gname ?_
  | with_reducible refine x_gcons ?_
  | with_reducible refine x_gnil ?_
  | with_reducible refine x_gsub ?_
  | with_reducible refine x_c ?_
  | with_reducible refine x_op ?_
  | with_reducible refine x_call ?_
  | with_reducible refine x_cons ?_
  | with_reducible refine x_nil ?_
  | with_reducible refine x_par ?_
  | with_reducible refine x_tup ?_
  | with_reducible refine x_lst ?_
  | with_reducible refine x_b ?_
  | with_reducible refine x_tru ?_
  | with_reducible refine x_not ?_
  | with_reducible refine x_or ?_
  | with_reducible refine x_and ?_
  | with_reducible refine x_ife ?_
  | with_reducible refine x_add ?_
  | with_reducible refine x_sub ?_
  | with_reducible refine x_gtI ?_
  | with_reducible refine x_ltI ?_
  | with_reducible refine x_geI ?_
  | with_reducible refine x_leI ?_
  | with_reducible refine x_abs ?_
  | with_reducible refine x_intb ?_
  | with_reducible refine x_for ?_
  | with_reducible refine x_irange ?_
  | with_reducible refine x_lc ?_
  | with_reducible refine x_yes ?_
  | with_reducible refine x_bm ?_
  | with_reducible refine x_bm0 ?_
  | with_reducible refine x_andv ?_
  | with_reducible refine x_orv ?_
  | with_reducible refine x_notv ?_
  | with_reducible refine x_eqI ?_
  | with_reducible refine x_tystr ?_
  | ((with_reducible refine' x_gtup ?e ?_); (case e => with_unfolding_all rfl))
  | ((with_reducible refine' x_pow ?e ?_); (case e => exact ⟨by decide, by decide, by decide⟩))
  | ((with_reducible refine' x_ix ?e ?q ?_); (case e => walk_at "get"); (case q => with_unfolding_all rfl))
  | ((with_reducible refine' x_ixt ?q ?_); (case q => with_unfolding_all rfl))
  | ((with_reducible refine' x_sto ?e ?q ?_); (case e => walk_at "get"); (case q => with_unfolding_all rfl))
  | ((with_reducible refine' x_adds ?e ?_); (case e => walk_at "txt"))
  | ((with_reducible refine' x_muls ?e ?f ?g ?_); (case e => omega); (case f => omega); (case g => walk_at "txt"))
  | ((with_reducible refine' x_divmod ?e ?_); (case e => exact ⟨by omega, by omega⟩))
  | ((with_reducible refine' x_mod ?e ?_); (case e => omega))
  | ((with_reducible refine' x_fdivC ?e ?f ?_); (case e => omega); (case f => omega))
  | ((with_reducible refine' x_mulL ?e ?f ?_); (case e => omega); (case f => omega))
  | ((with_reducible refine' x_mulR ?e ?f ?_); (case e => omega); (case f => omega))
  | ((with_reducible refine' x_len ?e ?_); (case e => walk_at "sq"))
  | ((with_reducible refine' x_range ?e ?f ?_); (case e => omega); (case f => omega))
  | ((with_reducible refine' x_tylst ?e ?_); (case e => walk_at "get"))
  | ((with_reducible refine' x_append ?e ?f ?_); (case e => walk_at "get"); (case f => walk_at "size"))
  | ((with_reducible refine' And.intro ?e ?_); (case e => (show _ ≤ sizeLine; walk_at "size")))
  | ((with_reducible refine' Exists.intro _ (And.intro ?e ?_)); (case e => with_unfolding_all rfl)))
theorem x_neNilP {p q : Addr} {G : Gp} {zs : List (Str × Str)} {R : KT} (e : G p = some (.lst (zs.map prT))) (e2 : G q = some (.lst [])) (ok : ∀ z ∈ zs, Wd z.1 ∧ Wd z.2) (h : R (.bl (!zs.isEmpty)) G) : oNe (.ref p) (.ref q) G R := by
  refine ⟨.list (zs.map prD), .list [], .lst (.inr ⟨p, rfl, e⟩) (dt_prs zs), .lst (.inr ⟨q, rfl, e2⟩) .nil, ?_, rfl, ?_⟩
  · unfold SeqAt.shaped
    have e4 := depth_prs zs
    have e3 := lay_prs zs fun z hz => ⟨(ok z hz).1.ok, (ok z hz).2.ok⟩
    exact Bool.and_eq_true_iff.mpr ⟨e3, decide_eq_true (by show PyData.depthAll _ + 1 ≤ 64; omega)⟩
  · cases zs <;> exact h
theorem x_ninP {p : Addr} {z : Str × Str} {zs : List (Str × Str)} {G : Gp} {R : KT} (e : G p = some (.lst (zs.map prT))) (hz : Wd z.1 ∧ Wd z.2) (ok : ∀ z ∈ zs, Wd z.1 ∧ Wd z.2) (h : R (.bl (!decide (z ∈ zs))) G) : oInA true (prT z) (.ref p) G R := by
  refine .inr (.inl ⟨prD z, zs.map prD, .tup (.cons (.str _) (.cons (.str _) .nil)), .lst (.inr ⟨p, rfl, e⟩) (dt_prs zs), ?_, ?_, ?_⟩)
  · exact Bool.and_eq_true_iff.mpr ⟨by simp only [prD, PyData.canLayAll0, PyData.canLay0, hz.1.ok, hz.2.ok, Bool.and_self, Bool.true_and], decide_eq_true (by show PyData.depthAll [.str z.1, .str z.2] + 1 ≤ 64; simp [PyData.depthAll, PyData.depth])⟩
  · unfold SeqAt.shaped
    have e4 := depth_prs zs
    have e3 := lay_prs zs fun z hz => ⟨(ok z hz).1.ok, (ok z hz).2.ok⟩
    exact Bool.and_eq_true_iff.mpr ⟨e3, decide_eq_true (by show PyData.depthAll _ + 1 ≤ 64; omega)⟩
  · have eq1 : ∀ y : Str × Str, PyData.eqv (prD y) (prD z) = decide (y = z) := fun y => by
      simp only [prD, PyData.eqv, PyData.eqvAll, Bool.and_true, beq_dec]
      by_cases h1 : y = z
      · subst h1; simp
      · rw [decide_eq_false h1]
        by_cases a : y.1 = z.1
        · by_cases b : y.2 = z.2
          · exact absurd (Prod.ext a b) h1
          · rw [decide_eq_false b, Bool.and_false]
        · rw [decide_eq_false a, Bool.false_and]
    have e2 : ((zs.map prD).any fun y => PyData.eqv y (prD z)) = decide (z ∈ zs) := by
      rw [List.any_map]
      by_cases hx : z ∈ zs
      · rw [decide_eq_true hx]
        exact List.any_eq_true.mpr ⟨z, hx, by show PyData.eqv (prD z) (prD z) = true; rw [eq1]; exact decide_eq_true rfl⟩
      · rw [decide_eq_false hx]
        refine List.any_eq_false.mpr fun y hy w => hx ?_
        have w : PyData.eqv (prD y) (prD z) = true := w
        rw [eq1] at w
        rw [← of_decide_eq_true w]; exact hy
    rw [if_pos rfl, e2]
    exact h
def keyO (z : Op) : Str × Str := (z.1, z.2.1)
theorem look_rev (m n : Str) : ∀ os : List Op, (os.map keyO).Nodup → look os.reverse m n = look os m n
  | [], _ => rfl
  | z :: os, h => by
    rw [List.map_cons, List.nodup_cons] at h
    have ih := look_rev m n os h.2
    unfold look at ih ⊢
    rw [List.reverse_cons, List.find?_append]
    by_cases c : (decide (z.1 = m) && decide (z.2.1 = n)) = true
    · rw [List.find?_cons_of_pos (by exact c)]
      have no : (os.reverse.find? fun z => decide (z.1 = m) && decide (z.2.1 = n)) = none := by
        rw [List.find?_eq_none]
        intro y hy w
        rw [Bool.and_eq_true, decide_eq_true_eq, decide_eq_true_eq] at c
        have w : (decide (y.1 = m) && decide (y.2.1 = n)) = true := w
        rw [Bool.and_eq_true, decide_eq_true_eq, decide_eq_true_eq] at w
        exact h.1 (List.mem_map.mpr ⟨y, List.mem_reverse.mp hy, by unfold keyO; rw [w.1, w.2, c.1, c.2]⟩)
      rw [no, Option.none_or, List.find?_cons_of_pos (by exact c)]
    · rw [List.find?_cons_of_neg (by exact c), List.find?_cons_of_neg (by exact c), List.find?_nil, Option.or_none]
      exact ih
theorem opn_rev {os : List Op} (h : (os.map keyO).Nodup) (kn : Kn) : opn (look os.reverse) kn = opn (look os) kn := by
  have : look os.reverse = look os := by funext m n; exact look_rev m n os h
  rw [this]
theorem look_mem {os : List Op} {m n : Str} {k : Kn} (h : look os m n = some k) : ∃ z ∈ os, z.2.2 = k := by
  unfold look at h
  obtain ⟨z, hz, rfl⟩ := Option.map_eq_some_iff.mp h
  exact ⟨z, List.mem_of_find?_eq_some hz, rfl⟩
/-! ### which ones are opened -/
structure Opn (ls : List Str) (i : Nat) (oz : List Op) : Prop where
  len : oz.length ≤ i
  nd : (oz.map keyO).Nodup
  ok : ∀ z ∈ oz, Kg ls 3 z.2.2 ∧ Wd z.1 ∧ Wd z.2.1
theorem Opn.more {ls : List Str} {i : Nat} {oz : List Op} (h : Opn ls i oz) {m n : Str} {kd : Kn} (hm : Wd m) (hn : Wd n) (hk : Kg ls 3 kd) : Opn ls (i + 1) (oz ++ (List.replicate (if (!decide ((m, n) ∈ oz.map keyO)) = true then (1 : Int) else 0).toNat [(m, n, kd)]).flatten) := by
  by_cases c : (m, n) ∈ oz.map keyO
  · rw [decide_eq_true c]
    have e : oz ++ (List.replicate (if (!true) = true then (1 : Int) else 0).toNat [(m, n, kd)]).flatten = oz := by simp
    rw [e]
    exact ⟨by have := h.len; omega, h.nd, h.ok⟩
  · rw [decide_eq_false c]
    have e : oz ++ (List.replicate (if (!false) = true then (1 : Int) else 0).toNat [(m, n, kd)]).flatten = oz ++ [(m, n, kd)] := by simp
    rw [e]
    refine ⟨by have := h.len; rw [List.length_append, List.length_singleton]; omega, ?_, fun z hz => ?_⟩
    · rw [List.map_append, List.nodup_append]
      refine ⟨h.nd, by simp, fun a ha b hb => ?_⟩
      rw [List.map_cons, List.map_nil, List.mem_singleton] at hb
      rintro rfl
      exact c (by rw [hb] at ha; exact ha)
    · rcases List.mem_append.mp hz with y | y
      · exact h.ok z y
      · rw [List.mem_singleton.mp y]; exact ⟨hk, hm, hn⟩
theorem map_erase {α : Type} (f : α → T) : ∀ (xs : List α) (j : Nat), (xs.map f).eraseIdx j = (xs.eraseIdx j).map f
  | [], _ => rfl
  | x :: xs, 0 => rfl
  | x :: xs, j + 1 => by simp only [List.map_cons, List.eraseIdx_cons_succ, map_erase f xs j]
theorem rep_map {α : Type} (f : α → T) (n : Nat) (x : α) : (List.replicate n [f x]).flatten = ((List.replicate n [x]).flatten).map f := by
  rw [List.map_flatten, List.map_replicate]; rfl
section
variable {a w q pl po pa : Addr} {ls : List Str} {os : List (Str × Str)} {an : List Int}
theorem turn_ok {k : Nat} {G : Gp} {N : Int} {pn lp op : Addr} {zs : List Str} {ys : List (Str × Str)} {oz : List Op} {i : Nat} {t3 t6 t7 t8 t9 t10 t11 : Option T} {M : MEnds} (L : Lab ls) (W : Wrl a w q pl po pa ls os an G N) (ho : os ≠ []) (hN : N + 362 ≤ 800000)
    (en : G pn = some (.lst (zs.map T.str))) (pna : pn ≠ a) (zl : zs.length = 5) (zw : ∀ z ∈ zs, Wd z)
    (el : G lp = some (.lst (ys.map prT))) (yw : ∀ z ∈ ys, Wd z.1 ∧ Wd z.2) (yl : ys.length ≤ 8) (lpw : lp ≠ w) (lpq : lp ≠ q) (lpo : lp ≠ op) (lpn : lp ≠ pn) (lppl : lp ≠ pl) (lppo : lp ≠ po) (lppa : lp ≠ pa)
    (eo : G op = some (.lst (oz.map opT))) (O : Opn ls i oz) (hi : i ≤ 30)
    (main : ∀ (x7 x11 : Option T) (ys' : List (Str × Str)) (oz' : List Op) (op' : Addr) (G' : Gp), G' lp = some (.lst (ys'.map prT)) → (∀ z ∈ ys', Wd z.1 ∧ Wd z.2) → ys'.length ≤ 8 → G' op' = some (.lst (oz'.map opT)) → lp ≠ op' → Opn ls (i + 1) oz' → Wrl a w q pl po pa ls os an G' (N + 362) →
      (∀ x c, x ≠ a → x ≠ lp → G x = some c → G' x = some c) → M.nx [some (.ref a), some (.ref w), some (.ref pn), t3, some (.ref lp), some (.ref op'), t6, x7, t8, t9, t10, x11] G') :
    (msSeq (msAsg (mIf (mB (mOp oNe (mVar 4) (mLst maNil))) (mBm "list" omPopAt (mVar 4) (maCons (mCall (SP (k + 100) 7) (maCons (mVar 0) (maCons (mCall omLen (maCons (mVar 4) maNil)) maNil))) maNil)) (mTup (maCons (mOp oIx (mVar 2) (mC (.int 3))) (maCons (mOp oIx (mVar 2) (mC (.int 3))) maNil)))) (mgName 7)) (msAsg (mOp oAdd (mVar 5) (mOp oMulU (mLst (maCons (mOp oAdd (mVar 7) (mTup (maCons (mCall (SP (k + 100) 20) (maCons (mVar 0) (maCons (mVar 1) maNil))) maNil))) maNil)) (mCall omInt (maCons (mOp (oInA true) (mVar 7) (mLc (miSeq (mVar 5)) (mgName 11) mtYes (mSl (mVar 11) moN (moS (mC (.int 2)))) [11])) maNil)))) (mgName 5)))
      M [some (.ref a), some (.ref w), some (.ref pn), t3, some (.ref lp), some (.ref op), t6, t7, t8, t9, t10, t11] G := by
  have szl := sizeLine_eq
  have hN0 : 0 ≤ N := by obtain ⟨_, _, _, _, _, _, _, z1, z2⟩ := W.bx; omega
  have lpa : lp ≠ a := fun z => by
    obtain ⟨b0, b1, b2, z2, _⟩ := W.bx
    rw [z, z2] at el
    injection el with el; injection el with el
    cases ys with
    | nil => simp at el
    | cons x r => simp [prT] at el
  -- behind the draw
  have tail : ∀ (m n : Str) (ys' : List (Str × Str)) (G1 : Gp), Wd m → Wd n → G1 lp = some (.lst (ys'.map prT)) → (∀ z ∈ ys', Wd z.1 ∧ Wd z.2) → ys'.length ≤ 8 → G1 op = some (.lst (oz.map opT)) → Wrl a w q pl po pa ls os an G1 (N + 1) → (∀ x c, x ≠ a → x ≠ lp → G x = some c → G1 x = some c) →
      (msAsg (mOp oAdd (mVar 5) (mOp oMulU (mLst (maCons (mOp oAdd (mVar 7) (mTup (maCons (mCall (SP (k + 100) 20) (maCons (mVar 0) (maCons (mVar 1) maNil))) maNil))) maNil)) (mCall omInt (maCons (mOp (oInA true) (mVar 7) (mLc (miSeq (mVar 5)) (mgName 11) mtYes (mSl (mVar 11) moN (moS (mC (.int 2)))) [11])) maNil)))) (mgName 5))
      M [some (.ref a), some (.ref w), some (.ref pn), t3, some (.ref lp), some (.ref op), t6, some (prT (m, n)), t8, t9, t10, t11] G1 := by
    intro m n ys' G1 hm hn el1 yw1 yl1 eo1 W1 fr1
    refine x_asg (x_op (x_var rfl (x_op (x_lst (x_cons (x_op (x_var rfl (x_tup (x_cons (x_call (x_cons (x_var rfl (x_cons (x_var rfl (x_nil ?_)))))))))))))))
    refine bare_ok (k := k + 68) L W1 ho (by omega) fun kd G2 hk f2 W2 => x_nil ⟨by show 1 ≤ sizeLine; omega, x_catT (by show 3 ≤ sizeLine; omega) (x_nil ⟨by show 1 ≤ sizeLine; omega, fun e he => ?_⟩)⟩
    have oa : op ≠ a := fun z => by
      obtain ⟨b0, b1, b2, z2, _⟩ := W1.bx
      rw [z, z2] at eo1
      injection eo1 with eo1; injection eo1 with eo1
      cases oz with
      | nil => simp at eo1
      | cons x r => simp [opT] at eo1
    have eo2 := f2 _ _ oa eo1
    have el2 := f2 _ _ lpa el1
    have W3 := W2.new (c := .lst [opT (m, n, kd)]) he
    have eo3 : Mi.put G2 e (.lst [opT (m, n, kd)]) op = some (.lst (oz.map opT)) := get_new he eo2
    have el3 : Mi.put G2 e (.lst [opT (m, n, kd)]) lp = some (.lst (ys'.map prT)) := get_new he el2
    have ee3 : Mi.put G2 e (.lst [opT (m, n, kd)]) e = some (.lst [opT (m, n, kd)]) := put_same
    have fr3 : ∀ x c, x ≠ a → x ≠ lp → G x = some c → Mi.put G2 e (.lst [opT (m, n, kd)]) x = some c := fun x c h1 h2 h3 => get_new he (f2 _ _ h1 (fr1 x c h1 h2 h3))
    have eT : ([T.str m, .str n] ++ [knT kd] : List T) = [.str m, .str n, knT kd] := rfl
    show mCall omInt _ _ (Mi.put G2 e (.lst [opT (m, n, kd)])) _
    generalize Mi.put G2 e (.lst [opT (m, n, kd)]) = G3 at W3 eo3 el3 ee3 fr3
    refine x_call (x_cons (x_op (x_var rfl (x_lc (x_iseq (x_var rfl ⟨oz.map opT, .inr (.inl (.inr ⟨op, rfl, eo3⟩)), fun D hD => ?_⟩))))))
    have oD := W3.off hD
    refine ⟨fun j G' => G' D = some (.lst (((oz.take j).map keyO).map prT)) ∧ Ext G3 G', ⟨put_same, Ext.new hD⟩, fun j G' ⟨_, f⟩ p' hp' => ?_, ?_, ?_⟩
    · have : p' = (op, oz.map opT) := by simpa [heldT] using hp'
      rw [this]; exact f _ _ eo3
    · intro j t G' ht ⟨e1, f⟩
      obtain ⟨z, hz1, rfl⟩ : ∃ z, oz[j]? = some z ∧ t = opT z := by
        have ht : (oz.map opT)[j]? = some t := ht
        rw [List.getElem?_map] at ht
        cases e : oz[j]? with
        | none => rw [e] at ht; cases ht
        | some z => rw [e] at ht; cases ht; exact ⟨z, rfl, rfl⟩
      have tk : oz.take (j + 1) = oz.take j ++ [z] := by rw [List.take_add_one, hz1]; rfl
      refine x_gname (x_yes ?_)
      rw [if_pos rfl]
      refine x_sl (x_var rfl (x_slN (x_slS (x_c ⟨2, rfl, x_slT ?_⟩))))
      have ec : cutT [T.str z.1, .str z.2.1, knT z.2.2] none (some 2) = [.str z.1, .str z.2.1] := rfl
      rw [ec]
      refine ⟨_, e1, ?_, fwdG.of ⟨?_, Ext.grow hD f⟩⟩
      · have := O.len
        rw [List.length_map, List.length_map, List.length_take]; omega
      · rw [put_same, tk, List.map_append, List.map_append]; rfl
    intro G4 ⟨eD, f4⟩
    have eD : G4 D = some (.lst ((oz.map keyO).map prT)) := by
      have eD : G4 D = some (.lst (((oz.take (oz.map opT).length).map keyO).map prT)) := eD
      rw [List.length_map, List.take_length] at eD
      exact eD
    refine x_ninP (z := (m, n)) eD ⟨hm, hn⟩ (fun z hz => ?_) (x_nil (x_intb ?_))
    · obtain ⟨y, hy, rfl⟩ := List.mem_map.mp hz
      exact (O.ok y hy).2
    refine x_mulLs (f4 _ _ ee3) (by split <;> decide) (by split <;> decide) (by show 1 * _ ≤ _; split <;> (rw [szl]; decide)) fun e2 he2 => ?_
    have eo4 := f4 _ _ eo3
    have er : (List.replicate (if (!decide ((m, n) ∈ oz.map keyO)) = true then (1 : Int) else 0).toNat [opT (m, n, kd)]).flatten = ((List.replicate (if (!decide ((m, n) ∈ oz.map keyO)) = true then (1 : Int) else 0).toNat [(m, n, kd)]).flatten).map opT := rep_map opT _ _
    rw [er]
    have O2 := O.more hm hn hk
    have ol2 := O2.len
    rw [List.length_append] at ol2
    have ol1 := O.len
    refine x_catL (get_new he2 eo4) put_same (by rw [List.length_map, List.length_map]; omega) fun op' hop' => x_gname ?_
    rw [← List.map_append]
    have el4 := f4 _ _ el3
    have el5 := get_new (d := .lst (((List.replicate (if (!decide ((m, n) ∈ oz.map keyO)) = true then (1 : Int) else 0).toNat [(m, n, kd)]).flatten).map opT)) he2 el4
    have ne : lp ≠ op' := fun z => by rw [← z, el5] at hop'; cases hop'
    have W4 := W3.take f4.fr (by obtain ⟨b0, b1, b2, z, zz⟩ := W3.bx; exact ⟨b0, b1, b2, f4 _ _ z, zz⟩) (Int.le_refl _)
    have fr4 : ∀ x c, x ≠ a → x ≠ lp → G x = some c → G4 x = some c := fun x c h1 h2 h3 => f4 _ _ (fr3 x c h1 h2 h3)
    exact main _ _ ys' _ op' _ (get_new hop' el5) yw1 yl1 put_same ne O2 (((W4.new he2).new hop').le (by omega)) (fun x c h1 h2 h3 => get_new hop' (get_new he2 (fr4 x c h1 h2 h3)))
  with_reducible refine x_seq ?_
  refine x_asg (x_ife (x_b (x_op (x_var rfl (x_lst (x_nil ⟨by show 0 ≤ sizeLine; omega, fun e he => ?_⟩))))))
  refine x_neNilP (get_new he el) put_same yw ⟨_, rfl, ?_⟩
  have W1 := W.new (c := .lst []) he
  have en1 : Mi.put G e (.lst []) pn = some (.lst (zs.map T.str)) := get_new he en
  have el1 : Mi.put G e (.lst []) lp = some (.lst (ys.map prT)) := get_new he el
  have eo1 : Mi.put G e (.lst []) op = some (.lst (oz.map opT)) := get_new he eo
  have f1 : Ext G (Mi.put G e (.lst [])) := Ext.new he
  generalize Mi.put G e (.lst []) = G1 at W1 en1 el1 eo1 f1
  have opa : op ≠ a := fun z => by
    obtain ⟨b0, b1, b2, z2, _⟩ := W.bx
    rw [z, z2] at eo
    injection eo with eo; injection eo with eo
    cases oz with
    | nil => simp at eo
    | cons x r => simp [opT] at eo
  refine x_ite (fun c => ?_) (fun c => ?_)
  · have yp : 0 < ys.length := by
      cases ys with
      | nil => cases c
      | cons _ _ => exact Nat.succ_pos _
    refine x_bm (x_var rfl (x_tylst el1 (x_cons (x_call (x_cons (x_var rfl (x_cons (x_call (x_cons (x_var rfl (x_nil (x_len (.inr (.inr ⟨lp, rfl, el1⟩)) (x_nil ?_)))))))))))))
    rw [List.length_map]
    refine take_ok W1.bx (by omega) (by omega) (by omega) fun v G2 v0 v1 f2 B2 => x_nil ?_
    have W2 := W1.take f2 B2 (by omega)
    have el2 := f2 _ _ lpa el1
    obtain ⟨j, hj⟩ : ∃ j : Nat, v = j := ⟨v.toNat, by omega⟩
    subst hj
    have hj2 : j < ys.length := by omega
    obtain ⟨⟨m, n⟩, hmn⟩ : ∃ z, ys[j]? = some z := ⟨_, List.getElem?_eq_getElem hj2⟩
    have hmw := yw _ (List.mem_of_getElem? hmn)
    refine ⟨lp, _, (j : Int), j, prT (m, n), rfl, rfl, el2, by omega, by omega, ?_, by rw [List.getElem?_map, hmn]; rfl, x_gname ?_⟩
    · rw [List.length_map]
      unfold seqIndex?
      simp only [show ¬ ((j : Int) < 0) by omega, if_false]
      simp [hj2]
    have er : (ys.map prT).eraseIdx j = (ys.eraseIdx j).map prT := map_erase prT ys j
    rw [er]
    have oW : Off a w q pl po pa lp := ⟨lpa, lpw, lpq, lppl, lppo, lppa⟩
    refine tail m n (ys.eraseIdx j) _ hmw.1 hmw.2 put_same (fun z hz => yw z (List.mem_of_mem_eraseIdx hz)) (by have := List.length_eraseIdx_le ys j; omega) (by rw [put_ne (Ne.symm lpo)]; exact f2 _ _ opa eo1) (W2.put oW) fun x c h1 h2 h3 => ?_
    rw [put_ne h2]; exact f2 _ _ h1 (f1 _ _ h3)
  · obtain ⟨u, eu, mu⟩ := atI_nat (xs := zs.map T.str) (i := 3) (by decide) (by rw [List.length_map, zl]; decide)
    obtain ⟨z, hz, rfl⟩ := List.mem_map.mp mu
    refine x_tup (x_cons (x_op (x_var rfl (x_c (x_ix en1 eu (x_cons (x_op (x_var rfl (x_c (x_ix en1 eu (x_nil ⟨by show 2 ≤ sizeLine; omega, x_gname ?_⟩)))))))))))
    exact tail z z ys G1 (zw z hz) (zw z hz) el1 yw yl eo1 (W1.le (by omega)) fun x c _ _ h => f1 _ _ h
end
end Lw

set_option Elab.async false
set_option linter.all false
set_option maxRecDepth 100000
set_option maxHeartbeats 1000000
namespace Lw
open PySem L2 Mi
variable [Tb]
local macro_rules | `(tactic| walk_at "get") => `(tactic| first | assumption | exact put_same | (refine get_new (by assumption) ?_; walk_at "get") | (refine get_ne (by assumption) ?_; walk_at "get"))
local macro_rules | `(tactic| walk_at "sq") => `(tactic| first | assumption | exact .inl rfl | exact .inr (.inl rfl) | exact .inr (.inr ⟨_, rfl, by walk_at "get"⟩))
local macro_rules | `(tactic| walk_at "size") => `(tactic| first | assumption | (simp only [List.length_cons, List.length_nil]; decide) | (have := sizeLine_eq; omega))
local macro_rules | `(tactic| walk_at "txt") => `(tactic| first | assumption | (simp only [Str.length, Str.cps_append, Array.size_append]; have := sizeLine_eq; omega))
local macro_rules | `(tactic| walk_at "go1") => `(tactic| first
  | ((with_reducible refine' x_var ?e ?_); (case e => with_unfolding_all rfl))
  | with_reducible refine x_seq ?_
  | with_reducible refine x_asg ?_
  | with_reducible refine x_if ?_
  | with_reducible refine x_ret ?_
  | with_reducible refine x_next ?_
  | with_reducible refine x_expr ?_
  | with_reducible refine x_gname ?_
  | with_reducible refine x_gcons ?_
  | with_reducible refine x_gnil ?_
  | with_reducible refine x_gsub ?_
  | with_reducible refine x_c ?_
  | with_reducible refine x_op ?_
  | with_reducible refine x_call ?_
  | with_reducible refine x_cons ?_
  | with_reducible refine x_nil ?_
  | with_reducible refine x_par ?_
  | with_reducible refine x_tup ?_
  | with_reducible refine x_lst ?_
  | with_reducible refine x_b ?_
  | with_reducible refine x_tru ?_
  | with_reducible refine x_not ?_
  | with_reducible refine x_or ?_
  | with_reducible refine x_and ?_
  | with_reducible refine x_ife ?_
  | with_reducible refine x_add ?_
  | with_reducible refine x_sub ?_
  | with_reducible refine x_gtI ?_
  | with_reducible refine x_ltI ?_
  | with_reducible refine x_geI ?_
  | with_reducible refine x_leI ?_
  | with_reducible refine x_abs ?_
  | with_reducible refine x_intb ?_
  | with_reducible refine x_for ?_
  | with_reducible refine x_irange ?_
  | with_reducible refine x_lc ?_
  | with_reducible refine x_yes ?_
  | with_reducible refine x_bm ?_
  | with_reducible refine x_bm0 ?_
  | with_reducible refine x_andv ?_
  | with_reducible refine x_orv ?_
  | with_reducible refine x_notv ?_
  | with_reducible refine x_eqI ?_
  | with_reducible refine x_tystr ?_
  | ((with_reducible refine' x_gtup ?e ?_); (case e => with_unfolding_all rfl))
  | ((with_reducible refine' x_pow ?e ?_); (case e => exact ⟨by decide, by decide, by decide⟩))
  | ((with_reducible refine' x_ix ?e ?q ?_); (case e => walk_at "get"); (case q => with_unfolding_all rfl))
  | ((with_reducible refine' x_ixt ?q ?_); (case q => with_unfolding_all rfl))
  | ((with_reducible refine' x_sto ?e ?q ?_); (case e => walk_at "get"); (case q => with_unfolding_all rfl))
  | ((with_reducible refine' x_adds ?e ?_); (case e => walk_at "txt"))
  | ((with_reducible refine' x_muls ?e ?f ?g ?_); (case e => omega); (case f => omega); (case g => walk_at "txt"))
  | ((with_reducible refine' x_divmod ?e ?_); (case e => exact ⟨by omega, by omega⟩))
  | ((with_reducible refine' x_mod ?e ?_); (case e => omega))
  | ((with_reducible refine' x_fdivC ?e ?f ?_); (case e => omega); (case f => omega))
  | ((with_reducible refine' x_mulL ?e ?f ?_); (case e => omega); (case f => omega))
  | ((with_reducible refine' x_mulR ?e ?f ?_); (case e => omega); (case f => omega))
  | ((with_reducible refine' x_len ?e ?_); (case e => walk_at "sq"))
  | ((with_reducible refine' x_range ?e ?f ?_); (case e => omega); (case f => omega))
  | ((with_reducible refine' x_tylst ?e ?_); (case e => walk_at "get"))
  | ((with_reducible refine' x_append ?e ?f ?_); (case e => walk_at "get"); (case f => walk_at "size"))
  | ((with_reducible refine' And.intro ?e ?_); (case e => (show _ ≤ sizeLine; walk_at "size")))
  | ((with_reducible refine' Exists.intro _ (And.intro ?e ?_)); (case e => with_unfolding_all rfl)))
def TabG (G : Gp) : Prop := G (Tb.at_ 3) = some (.tab lam3.qual)
/-- all but the box and functions stays -/
def FrA (a : Addr) (G G' : Gp) : Prop := ∀ x c, x ≠ a → G x = some c → (∀ L w, c ≠ .fnc L w) → G' x = some c
theorem x_eqSelf {G : Gp} {n : Nat} {t : T} {d : PyData} {R : KT} (h : Nd G n t d) (hn : n ≤ 60) (k : R (.bl true) G) : oEq t t G R :=
  ⟨d, d, h.dt, h.dt, h.shaped (by omega), h.shaped (by omega), by rw [PySem.SeqAt.eqv_refl d h.lay]; exact k⟩
theorem x_neZ2 {z : Str} {G : Gp} {R : KT} (c : PyData.strOk z = true) (h : R (.bl true) G) : oEq (.str z) (.str z) G R :=
  x_eqSS (Bool.and_eq_true_iff.mpr ⟨c, rfl⟩) (Bool.and_eq_true_iff.mpr ⟨c, rfl⟩) (by rw [decide_eq_true rfl]; exact h)
theorem frN_da {G G' : Gp} (f : FrN G G') {L n : Nat} {t : T} {d : PyData} (h : Da (fun _ => False) G L n t d) : Da (fun _ => False) G' L n t d := by
  induction h with
  | non => exact .non
  | bl => exact .bl
  | int b => exact .int b
  | str b c => exact .str b c
  | tup b c _ i => exact .tup b c i
  | lst ne e b c _ i => exact .lst ne (f _ _ e (fun L w z => by cases z)) b c i
theorem nodup_rev {α : Type} {xs : List α} (h : xs.Nodup) : xs.reverse.Nodup := List.pairwise_reverse.mpr (h.imp fun n e => n e.symm)
theorem Ck_le : ∀ d : Nat, d ≤ 5 → Ck d ≤ 23880 := fun d hd => by
  match d, hd with
  | 0, _ => decide
  | 1, _ => decide
  | 2, _ => decide
  | 3, _ => decide
  | 4, _ => decide
  | 5, _ => decide
theorem Cv_le5 : ∀ d : Nat, d ≤ 5 → Cv d ≤ 682300 := fun d hd => by
  match d, hd with
  | 0, _ => decide
  | 1, _ => decide
  | 2, _ => decide
  | 3, _ => decide
  | 4, _ => decide
  | 5, _ => decide
/-- what the law asks at last: kind, the world's and names' lists stand in r -/
theorem ask_ok {k d : Nat} {G : Gp} {op : Addr} {ls : List Str} {oz : List Op} {kn : Kn} {x0 x1 x2 x4 x6 x7 x10 x11 y8 y9 : Option T} {R : KT} {i : Nat} (L : Lab ls) (hd : d ≤ 5) (hk : Kg ls d kn) (hz : nK kn ≤ 30) (O : Opn ls i oz) (hi : i ≤ 30) (eo : G op = some (.lst (oz.map opT))) (hT : TabG G)
    (hR : ∀ G', FrN G G' → R (.bl true) G') :
    (msSeq (msPar 8 9 (maCons (mCall omRepr (maCons (mLst (maCons (mVar 3) (maCons (mVar 5) maNil))) maNil)) (maCons (mCall (SP (k + 100) 19) (maCons (mVar 3) (maCons (mVar 5) maNil))) maNil))) (msSeq (msIf (tmNot (mTru (mCall (SP (k + 100) 9) (maCons (mLst (maCons (mCall (SP (k + 100) 3) (maCons (mVar 3) (maCons (mVar 5) maNil))) (maCons (mCall (SP (k + 100) 3) (maCons (mVar 3) (maCons (mCall omTuple (maCons (mVar 5) maNil)) maNil))) (maCons (mCall (SP (k + 100) 3) (maCons (mVar 3) (maCons (mRev (mVar 5)) maNil))) maNil)))) (maCons (mOp oMulU (mLst (maCons (mVar 9) maNil)) (mC (.int 3))) maNil))))) (msRet (mC (.bl false))) msNext) (msRet (mAndV (mCall (SP (k + 100) 9) (maCons (mCall (SP (k + 100) 3) (maCons (mVar 3) (maCons (mLst maNil) maNil))) (maCons (mVar 3) maNil))) (mAndV (mOp oEq (mCall (SP (k + 100) 3) (maCons (mVar 3) (maCons (mTup maNil) maNil))) (mVar 3)) (mOp oEq (mCall omRepr (maCons (mLst (maCons (mVar 3) (maCons (mVar 5) maNil))) maNil)) (mVar 8)))))))
      { nx := fun _ G' => fwdT R T.non G', rt := fwdT R } [x0, x1, x2, some (knT kn), x4, some (.ref op), x6, x7, y8, y9, x10, x11] G := by
  have szl := sizeLine_eq
  have ol := O.len
  have hkw := hk.kw L
  have hs := hk.size L.len
  -- what is handed in is data
  obtain ⟨dk, hdk, wdk⟩ := kn_da (S := fun _ => False) (G := G) L hk
  have cv := Cv_le5 d hd
  have cv3 : Cv 3 = 41900 ∨ Cv 3 ≤ 50000 := by right; decide
  obtain ⟨dso, hdo, wdo⟩ := DaL.rows (S := fun _ => False) (G := G) (L := 0) (n := 11) (f := opT) (c := 60000) (ps := oz) fun z hz' => by
    obtain ⟨h1, h2, h3⟩ := O.ok z hz'
    obtain ⟨dz, hdz, wdz⟩ := kn_da (S := fun _ => False) (G := G) L h1
    have u := Wd.da (S := fun _ => False) (G := G) (L := 0) (n := 10) h2
    have v := Wd.da (S := fun _ => False) (G := G) (L := 0) (n := 10) h3
    obtain ⟨y, a1, a2⟩ := u.1.mk3 v.1 (hdz.le (m := 10) (by omega) (Nat.le_refl _))
    exact ⟨y, a1, by omega⟩
  have hlo := hdo.lst (p := op) (by rw [List.length_map]; omega) (fun z => z) eo
  have hl2 : ∀ (G1 : Gp) (p : Addr), FrN G G1 → G1 p = some (.lst [knT kn, .ref op]) → Da (fun _ => False) G1 0 18 (.ref p) (.list [dk, .list dso]) := fun G1 p f e => by
    have hk1 : Da (fun _ => False) G1 0 (3 * d + 1) (knT kn) dk := frN_da f hdk
    have ho1 : Da (fun _ => False) G1 0 (11 + 1) (.ref op) (.list dso) := frN_da f hlo
    exact (DaL.cons (hk1.le (m := 17) (by omega) (Nat.le_refl _)) (.cons (ho1.le (m := 17) (by omega) (Nat.le_refl _)) .nil)).lst (by show 2 ≤ 40; decide) (fun z => z) e
  have wl : wtD (.list [dk, .list dso]) ≤ 10000000 := by
    have : oz.length * 60000 ≤ 30 * 60000 := Nat.mul_le_mul_right _ (by omega)
    rw [wt_lst, wtA_cons, wtA_cons, wtA_nil, wt_lst]; omega
  have repr : ∀ (G1 : Gp) (p : Addr) (K : KT), FrN G G1 → G1 p = some (.lst [knT kn, .ref op]) → K (.str (PyData.list [dk, .list dso]).shown) G1 → omRepr [.ref p] G1 K := fun G1 p K f e kk => by
    have h := hl2 G1 p f e
    have nd := h.nd (by decide)
    have tx := h.text (by decide)
    have dep := nd.depth
    exact x_repr nd.dt nd.shows nd.nodict (by omega) (by omega) kk
  with_reducible refine x_seq ?_
  with_reducible refine x_par ?_
  refine x_cons (x_call (x_cons (x_lst (x_cons (x_var rfl (x_cons (x_var rfl (x_nil ⟨by show 2 ≤ sizeLine; decide, fun p hp => x_nil ?_⟩))))))))
  refine repr _ p _ (FrN.ext (Ext.new hp)) put_same ?_
  have asc := (hl2 _ p (FrN.ext (Ext.new hp)) (put_same (G := G) (a := p) (c := .lst [knT kn, .ref op]))).asc
  have f1 : Ext G (Mi.put G p (.lst [knT kn, .ref op])) := Ext.new hp
  generalize Mi.put G p (.lst [knT kn, .ref op]) = G1 at f1
  generalize (PyData.list [dk, .list dso]).shown = tx at asc repr
  refine x_cons (x_call (x_cons (x_var rfl (x_cons (x_var rfl (x_nil ?_))))))
  obtain ⟨k0, hk0⟩ : ∃ k0, k + 100 = k0 + d + 1 := ⟨k + 99 - d, by omega⟩
  have lop : ∀ (K : KT), (∀ G' : Gp, Ext G1 G' → K (knT (opn (look oz) kn)) G') → SP (k + 100) 19 [knT kn, .ref op] G1 K := fun K kk => by
    rw [hk0]
    exact lopened_ok L O.ok (by omega) d hs.2 hkw (f1 _ _ eo) kk
  refine lop _ fun G2 f2 => x_nil ⟨_, _, rfl, ?_⟩
  have f2 : FrN G G2 := FrN.ext (f1.trans f2)
  dsimp only
  have e2 := f2 _ _ eo (fun L w z => by cases z)
  have t2 : TabG G2 := f2 _ _ hT (fun L w z => by cases z)
  have nd0 : (oz.map fun z => (z.1, z.2.1)).Nodup := O.nd
  with_reducible refine x_seq ?_
  with_reducible refine x_if ?_
  refine x_not (x_tru (x_call (x_cons (x_lst (x_cons (x_call (x_cons (x_var rfl (x_cons (x_var rfl (x_nil ?_)))))))))))
  refine opened_ok (k := k + 93) (by omega) (by omega) nd0 (.inr ⟨op, rfl, e2⟩) t2 fun G3 f3 => ?_
  have e3 := f3 _ _ e2 (fun L w z => by cases z)
  have t3 : TabG G3 := f3 _ _ t2 (fun L w z => by cases z)
  refine x_cons (x_call (x_cons (x_var rfl (x_cons (x_call (x_cons (x_var rfl (x_nil (x_tuple (.inr (.inr ⟨op, rfl, e3⟩)) (by rw [List.length_map]; omega) (x_nil ?_))))))))))
  refine opened_ok (k := k + 93) (os := oz) (by omega) (by omega) nd0 (.inl rfl) t3 fun G4 f4 => ?_
  have e4 := f4 _ _ e3 (fun L w z => by cases z)
  have t4 : TabG G4 := f4 _ _ t3 (fun L w z => by cases z)
  refine x_cons (x_call (x_cons (x_var rfl (x_cons (x_rev (x_var rfl ⟨_, .inr ⟨op, rfl, e4⟩, fun pr hpr => x_nil ?_⟩))))))
  rw [← List.map_reverse]
  have t5 : TabG (Mi.put G4 pr (.lst (oz.reverse.map opT))) := get_new hpr t4
  refine opened_ok (k := k + 93) (os := oz.reverse) (by omega) (by rw [List.length_reverse]; omega) (by rw [List.map_reverse]; exact nodup_rev nd0) (.inr ⟨pr, rfl, put_same⟩) t5 fun G5 f5 => x_nil ⟨by show 3 ≤ sizeLine; decide, fun p3 hp3 => ?_⟩
  rw [opn_rev O.nd]
  have f35 : FrN G2 G5 := f3.trans (f4.trans ((FrN.ext (Ext.new hpr)).trans f5))
  have dsd : Sd 25 (knT (opn (look oz) kn)) := by
    have hf : ∀ m n k, look oz m n = some k → KW k ∧ dp k ≤ 3 := fun m n k h => by
      obtain ⟨z, hz', rfl⟩ := look_mem h
      have h1 := (O.ok z hz').1
      exact ⟨h1.kw L, (h1.size L.len).2⟩
    have h1 := opn_kw (f := look oz) (fun m n k h => (hf m n k h).1) hkw
    have h2 := opn_dp (f := look oz) (D := 3) (fun m n k h => (hf m n k h).2) kn
    exact KW.sd (n := 8) h1 (by omega)
  generalize knT (opn (look oz) kn) = due at dsd
  refine x_cons (x_op (x_lst (x_cons (x_var rfl (x_nil ⟨by show 1 ≤ sizeLine; decide, fun p4 hp4 => x_c ?_⟩)))))
  refine x_mulLs put_same (by decide) (by decide) (by show 1 * 3 ≤ _; rw [szl]; decide) fun p5 hp5 => x_nil ?_
  have f6 : FrN G5 (Mi.put (Mi.put (Mi.put G5 p3 (.lst [due, due, due])) p4 (.lst [due])) p5 (.lst (List.replicate (Int.toNat 3) [due]).flatten)) := FrN.ext ((Ext.new hp3).trans ((Ext.new hp4).trans (Ext.new hp5)))
  refine same_seq (k := k + 99) (n := 25) (same_all 25 (k + 99) (by omega)) (b := false) (ts := [due, due, due]) ⟨p3, rfl, get_new hp5 (get_new hp4 put_same)⟩ ⟨p5, rfl, put_same⟩ (by show 3 ≤ 1000; decide) (fun t ht => by
    simp only [List.mem_cons, List.not_mem_nil, or_false] at ht
    rcases ht with rfl | rfl | rfl <;> exact dsd) fun G7 f7 => ⟨_, rfl, ?_⟩
  refine x_iteF rfl (x_next ?_)
  dsimp only
  have f27 : FrN G2 G7 := f35.trans (f6.trans (FrN.ext f7))
  have f07 : FrN G G7 := f2.trans f27
  have t7 : TabG G7 := f07 _ _ hT (fun L w z => by cases z)
  have ksd : Sd 16 (knT kn) := KW.sd (n := 5) hkw (by omega)
  refine x_ret (x_andv (x_call (x_cons (x_call (x_cons (x_var rfl (x_cons (x_lst (x_nil ⟨by show 0 ≤ sizeLine; decide, fun p8 hp8 => x_nil ?_⟩)))))))))
  refine opened_ok (k := k + 93) (os := []) (by omega) (by decide) (by simp) (.inr ⟨p8, rfl, put_same⟩) (get_new hp8 t7) fun G8 f8 => ?_
  have f78 : FrN G7 G8 := (FrN.ext (Ext.new hp8)).trans f8
  have en : opn (look []) kn = kn := by rw [look_nil, opn_none]
  rw [en]
  refine x_cons (x_var rfl (x_nil ?_))
  refine same_all 16 (k + 100) (by omega) _ G8 _ ksd fun G9 f9 => ⟨true, rfl, x_iteT rfl ?_⟩
  have f09 : FrN G G9 := f07.trans (f78.trans (FrN.ext f9))
  have t9 : TabG G9 := f09 _ _ hT (fun L w z => by cases z)
  refine x_andv (x_op (x_call (x_cons (x_var rfl (x_cons (x_tup (x_nil ⟨by show 0 ≤ sizeLine; decide, x_nil ?_⟩)))))))
  refine opened_ok (k := k + 93) (os := []) (by omega) (by decide) (by simp) (.inl rfl) t9 fun G10 f10 => ?_
  rw [en]
  have f010 : FrN G G10 := f09.trans f10
  have hk10 : Da (fun _ => False) G10 0 (3 * d + 1) (knT kn) dk := frN_da f010 hdk
  refine x_var rfl (x_eqSelf (hk10.nd (by decide)) (by omega) ⟨true, rfl, x_iteT rfl ?_⟩)
  refine x_op (x_call (x_cons (x_lst (x_cons (x_var rfl (x_cons (x_var rfl (x_nil ⟨by show 2 ≤ sizeLine; decide, fun p11 hp11 => x_nil ?_⟩))))))))
  have f011 : FrN G (Mi.put G10 p11 (.lst [knT kn, .ref op])) := f010.trans (FrN.ext (Ext.new hp11))
  refine repr _ p11 _ f011 put_same ?_
  exact x_var rfl (x_neZ2 asc.ok (fwdT.of (hR _ f011)))
end Lw

set_option Elab.async false
set_option linter.all false
set_option maxRecDepth 100000
set_option maxHeartbeats 1000000
namespace Lw
open PySem L2 Mi
variable [Tb]
local macro_rules | `(tactic| walk_at "get") => `(tactic| first | assumption | exact put_same | (refine get_new (by assumption) ?_; walk_at "get") | (refine get_ne (by assumption) ?_; walk_at "get"))
local macro_rules | `(tactic| walk_at "sq") => `(tactic| first | assumption | exact .inl rfl | exact .inr (.inl rfl) | exact .inr (.inr ⟨_, rfl, by walk_at "get"⟩))
local macro_rules | `(tactic| walk_at "size") => `(tactic| first | assumption | (simp only [List.length_cons, List.length_nil]; decide) | (have := sizeLine_eq; omega))
local macro_rules | `(tactic| walk_at "txt") => `(tactic| first | assumption | (simp only [Str.length, Str.cps_append, Array.size_append]; have := sizeLine_eq; omega))
local macro_rules | `(tactic| walk_at "go1") => `(tactic| first
  | ((with_reducible refine' x_var ?e ?_); (case e => with_unfolding_all rfl))
  | with_reducible refine x_seq ?_
  | with_reducible refine x_asg ?_
  | with_reducible refine x_if ?_
  | with_reducible refine x_ret ?_
  | with_reducible refine x_next ?_
  | with_reducible refine x_expr ?_
  | with_reducible refine x_gname ?_
  | with_reducible refine x_gcons ?_
  | with_reducible refine x_gnil ?_
  | with_reducible refine x_gsub ?_
  | with_reducible refine x_c ?_
  | with_reducible refine x_op ?_
  | with_reducible refine x_call ?_
  | with_reducible refine x_cons ?_
  | with_reducible refine x_nil ?_
  | with_reducible refine x_par ?_
  | with_reducible refine x_tup ?_
  | with_reducible refine x_lst ?_
  | with_reducible refine x_b ?_
  | with_reducible refine x_tru ?_
  | with_reducible refine x_not ?_
  | with_reducible refine x_or ?_
  | with_reducible refine x_and ?_
  | with_reducible refine x_ife ?_
  | with_reducible refine x_add ?_
  | with_reducible refine x_sub ?_
  | with_reducible refine x_gtI ?_
  | with_reducible refine x_ltI ?_
  | with_reducible refine x_geI ?_
  | with_reducible refine x_leI ?_
  | with_reducible refine x_abs ?_
  | with_reducible refine x_intb ?_
  | with_reducible refine x_for ?_
  | with_reducible refine x_irange ?_
  | with_reducible refine x_lc ?_
  | with_reducible refine x_yes ?_
  | with_reducible refine x_bm ?_
  | with_reducible refine x_bm0 ?_
  | with_reducible refine x_andv ?_
  | with_reducible refine x_orv ?_
  | with_reducible refine x_notv ?_
  | with_reducible refine x_eqI ?_
  | with_reducible refine x_tystr ?_
  | ((with_reducible refine' x_gtup ?e ?_); (case e => with_unfolding_all rfl))
  | ((with_reducible refine' x_pow ?e ?_); (case e => exact ⟨by decide, by decide, by decide⟩))
  | ((with_reducible refine' x_ix ?e ?q ?_); (case e => walk_at "get"); (case q => with_unfolding_all rfl))
  | ((with_reducible refine' x_ixt ?q ?_); (case q => with_unfolding_all rfl))
  | ((with_reducible refine' x_sto ?e ?q ?_); (case e => walk_at "get"); (case q => with_unfolding_all rfl))
  | ((with_reducible refine' x_adds ?e ?_); (case e => walk_at "txt"))
  | ((with_reducible refine' x_muls ?e ?f ?g ?_); (case e => omega); (case f => omega); (case g => walk_at "txt"))
  | ((with_reducible refine' x_divmod ?e ?_); (case e => exact ⟨by omega, by omega⟩))
  | ((with_reducible refine' x_mod ?e ?_); (case e => omega))
  | ((with_reducible refine' x_fdivC ?e ?f ?_); (case e => omega); (case f => omega))
  | ((with_reducible refine' x_mulL ?e ?f ?_); (case e => omega); (case f => omega))
  | ((with_reducible refine' x_mulR ?e ?f ?_); (case e => omega); (case f => omega))
  | ((with_reducible refine' x_len ?e ?_); (case e => walk_at "sq"))
  | ((with_reducible refine' x_range ?e ?f ?_); (case e => omega); (case f => omega))
  | ((with_reducible refine' x_tylst ?e ?_); (case e => walk_at "get"))
  | ((with_reducible refine' x_append ?e ?f ?_); (case e => walk_at "get"); (case f => walk_at "size"))
  | ((with_reducible refine' And.intro ?e ?_); (case e => (show _ ≤ sizeLine; walk_at "size")))
  | ((with_reducible refine' Exists.intro _ (And.intro ?e ?_)); (case e => with_unfolding_all rfl)))
/-! ### what the law asks of one draw -/
theorem right_ok {k : Nat} {a : Addr} {G : Gp} {N : Int} {R : KT} (h : Bx G a N) (h0 : 0 ≤ N) (hT : TabG G) (hN : N ≤ 300000) (hR : ∀ G', FrA a G G' → Bx G' a (N + 26000) → R (.bl true) G') : SP (k + 101) 21 [.ref a] G R := by
  show spOf 12 1 (b21 (SP (k + 100))) _ _ _
  refine ⟨rfl, ?_⟩
  unfold b21
  have szl := sizeLine_eq
  with_reducible refine x_seq ?_
  with_reducible refine x_par ?_
  refine x_cons (x_call (x_cons (x_var rfl (x_cons (x_c (x_nil ?_))))))
  refine oworld_ok (k := k + 96) h h0 (by omega) fun w q pl po pa ls os an G1 w0 q0 L ol W1 F1 => ?_
  refine x_cons (x_call (x_cons (x_var rfl (x_cons (x_c (x_nil ?_))))))
  refine names2_ok (k := k + 98) W1.bx (by omega) (by decide) (by decide) fun pn zs G2 pna pnn en zl zw znd f2 B2 => x_nil ⟨_, _, rfl, ?_⟩
  dsimp only
  have W2 := W1.take f2 B2 (by omega)
  have F2 := F1.trans f2
  have zl5 : zs.length = 5 := by omega
  -- three more
  have nm : ∀ i : Nat, i < 5 → ∃ z, atI (zs.map T.str) (i : Int) = some (.str z) ∧ Wd z := fun i hi => by
    obtain ⟨u, eu, mu⟩ := atI_nat (xs := zs.map T.str) (i := (i : Int)) (by omega) (by rw [List.length_map, zl5]; omega)
    obtain ⟨z, hz, rfl⟩ := List.mem_map.mp mu
    exact ⟨z, eu, zw z hz⟩
  obtain ⟨z0, ez0, wz0⟩ := nm 0 (by decide)
  obtain ⟨z1, ez1, wz1⟩ := nm 1 (by decide)
  obtain ⟨z2, ez2, wz2⟩ := nm 2 (by decide)
  obtain ⟨z4, ez4, wz4⟩ := nm 4 (by decide)
  with_reducible refine x_seq ?_
  refine x_dput (x_op (x_dget (x_var rfl (x_c ⟨w, _, rfl, W2.go, x_lst (x_cons (x_tup (x_cons (x_op (x_var rfl (x_c (x_ix en ez0 (x_cons (x_op (x_var rfl (x_c (x_ix en ez1 (x_nil ⟨by show 2 ≤ sizeLine; decide, ?_⟩)))))))))))))⟩))))
  refine x_cons (x_tup (x_cons (x_op (x_var rfl (x_c (x_ix en ez1 (x_cons (x_op (x_var rfl (x_c (x_ix en ez0 (x_nil ⟨by show 2 ≤ sizeLine; decide, ?_⟩))))))))))))
  refine x_cons (x_tup (x_cons (x_op (x_var rfl (x_c (x_ix en ez0 (x_cons (x_op (x_var rfl (x_c (x_ix en ez2 (x_nil ⟨by show 2 ≤ sizeLine; decide, ?_⟩))))))))))))
  refine x_nil ⟨by show 3 ≤ sizeLine; decide, fun e he => ?_⟩
  have W3 := W2.new (c := .lst ([(z0, z1), (z1, z0), (z0, z2)].map prT)) he
  have F3 : Fr a G (Mi.put G2 e (.lst ([(z0, z1), (z1, z0), (z0, z2)].map prT))) := F2.trans (Fr.new he)
  have en3 : Mi.put G2 e (.lst ([(z0, z1), (z1, z0), (z0, z2)].map prT)) pn = some (.lst (zs.map T.str)) := get_new he en
  have ee3 : Mi.put G2 e (.lst ([(z0, z1), (z1, z0), (z0, z2)].map prT)) e = some (.lst ([(z0, z1), (z1, z0), (z0, z2)].map prT)) := put_same
  have show3 : Mi.put G2 e (.lst [.tup [.str z0, .str z1], .tup [.str z1, .str z0], .tup [.str z0, .str z2]]) = Mi.put G2 e (.lst ([(z0, z1), (z1, z0), (z0, z2)].map prT)) := rfl
  rw [show3]
  generalize Mi.put G2 e (.lst ([(z0, z1), (z1, z0), (z0, z2)].map prT)) = G3 at W3 F3 en3 ee3
  refine x_catL W3.own ee3 (by rw [List.length_map]; show _ + 3 ≤ _; omega) fun po2 hpo2 => ?_
  rw [← List.map_append]
  have W4 := W3.new (c := .lst ((os ++ [(z0, z1), (z1, z0), (z0, z2)]).map prT)) hpo2
  have F4 : Fr a G (Mi.put G3 po2 (.lst ((os ++ [(z0, z1), (z1, z0), (z0, z2)]).map prT))) := F3.trans (Fr.new hpo2)
  have en4 : Mi.put G3 po2 (.lst ((os ++ [(z0, z1), (z1, z0), (z0, z2)]).map prT)) pn = some (.lst (zs.map T.str)) := get_new hpo2 en3
  have eo4 : Mi.put G3 po2 (.lst ((os ++ [(z0, z1), (z1, z0), (z0, z2)]).map prT)) po2 = some (.lst ((os ++ [(z0, z1), (z1, z0), (z0, z2)]).map prT)) := put_same
  have osw : ∀ z ∈ os ++ [(z0, z1), (z1, z0), (z0, z2)], Wd z.1 ∧ Wd z.2 := fun z hz => by
    rcases List.mem_append.mp hz with y | y
    · exact W3.owd z y
    · simp only [List.mem_cons, List.not_mem_nil, or_false] at y
      rcases y with rfl | rfl | rfl
      · exact ⟨wz0, wz1⟩
      · exact ⟨wz1, wz0⟩
      · exact ⟨wz0, wz2⟩
  have osl : (os ++ [(z0, z1), (z1, z0), (z0, z2)]).length ≤ 6 := by rw [List.length_append]; show _ + 3 ≤ 6; omega
  have osn : os ++ [(z0, z1), (z1, z0), (z0, z2)] ≠ [] := by simp
  generalize os ++ [(z0, z1), (z1, z0), (z0, z2)] = os2 at W4 F4 en4 eo4 osw osl osn
  generalize Mi.put G3 po2 (.lst (os2.map prT)) = G4 at W4 F4 en4 eo4
  obtain ⟨G5, pt5, W5, g5⟩ := W4.setO eo4 osw (by omega)
  have wn4 : ∀ {x : Addr} {ts : List T}, G4 x = some (.lst ts) → x ≠ w := fun {x ts} e z => by
    obtain ⟨n, kvs, s1, _⟩ := W4.st
    rw [z, s1] at e; cases e
  have F5 : Fr a G G5 := fun x c n e => by rw [g5 x (fun z => by rw [z, w0] at e; cases e)]; exact F4 x c n e
  have en5 : G5 pn = some (.lst (zs.map T.str)) := by rw [g5 pn (wn4 en4)]; exact en4
  refine x_var rfl (x_c ⟨w, G5, rfl, pt5, ?_⟩)
  dsimp only
  -- a kind, and which ones may be opened
  with_reducible refine x_seq ?_
  refine x_asg (x_tup (x_cons (x_call (x_cons (x_var rfl (x_cons (x_var rfl (x_cons (x_op (x_c (x_call (x_cons (x_var rfl (x_cons (x_c (x_nil ?_))))))))))))))))
  refine take_ok W5.bx (by omega) (by omega) (by omega) fun v G6 v0 v6 f6 B6 => x_add (x_nil ?_)
  have W6 := W5.take f6 B6 (by omega)
  have F6 := F5.trans f6
  obtain ⟨d, hd⟩ : ∃ d : Nat, v = d := ⟨v.toNat, by omega⟩
  have ed : (1 : Int) + v = ((d + 1 : Nat) : Int) := by omega
  rw [ed]
  have ck := Ck_le d (by omega)
  have ckp := Ck_pos d
  refine small_ok (k := k + 69) L (by omega) W6 (by omega) fun kn G7 hk hz f7 W7 => ?_
  have F7 : Fr a G G7 := fun x c n e => by
    have e6 := F6 x c n e
    refine f7 x c (fun z => ?_) e6
    rcases z with z | z | z
    · exact n z
    · rw [z, w0] at e; cases e
    · rw [z, q0] at e; cases e
  have en7 : G7 pn = some (.lst (zs.map T.str)) := f7 _ _ (fun z => by
    have e6 := f6 _ _ pna en5
    obtain ⟨n, kvs, s1, s2, _⟩ := W6.st
    rcases z with z | z | z
    · exact pna z
    · rw [z, s1] at e6; cases e6
    · rw [z, s2] at e6; cases e6) (f6 _ _ pna en5)
  refine x_cons (x_call (x_cons (x_dget (x_var rfl (x_c ⟨w, _, rfl, W7.go, x_nil (x_list (.inr (.inr ⟨po2, rfl, W7.own⟩)) fun l1 hl1 => ?_)⟩)))))
  have W8 := W7.new (c := .lst (os2.map prT)) hl1
  have F8 : Fr a G (Mi.put G7 l1 (.lst (os2.map prT))) := F7.trans (Fr.new hl1)
  have en8 : Mi.put G7 l1 (.lst (os2.map prT)) pn = some (.lst (zs.map T.str)) := get_new hl1 en7
  have el8 : Mi.put G7 l1 (.lst (os2.map prT)) l1 = some (.lst (os2.map prT)) := put_same
  generalize Mi.put G7 l1 (.lst (os2.map prT)) = G8 at W8 F8 en8 el8
  refine x_cons (x_lst (x_nil ⟨by show 0 ≤ sizeLine; decide, fun op hop => ?_⟩))
  have W9 := W8.new (c := .lst []) hop
  have F9 : Fr a G (Mi.put G8 op (.lst [])) := F8.trans (Fr.new hop)
  have en9 : Mi.put G8 op (.lst []) pn = some (.lst (zs.map T.str)) := get_new hop en8
  have el9 : Mi.put G8 op (.lst []) l1 = some (.lst (os2.map prT)) := get_new hop el8
  have eo9 : Mi.put G8 op (.lst []) op = some (.lst []) := put_same
  generalize Mi.put G8 op (.lst []) = G9 at W9 F9 en9 el9 eo9
  refine x_nil ⟨by show 3 ≤ sizeLine; decide, x_gtup rfl (x_gcons (x_gname (x_gcons (x_gname (x_gcons (x_gname (x_gnil ?_)))))))⟩
  dsimp only
  with_reducible refine x_seq ?_
  refine x_asg (x_op (x_lc (x_ienum (x_var rfl ⟨os2.map prT, .inr (.inl (.inr ⟨l1, rfl, el9⟩)), fun D hD => ?_⟩))))
  refine ⟨fun j G' => ∃ ys : List (Str × Str), (∀ z ∈ ys, z ∈ os2) ∧ ys.length ≤ j ∧ G' D = some (.lst (ys.map prT)) ∧ Ext G9 G', ⟨[], (fun z hz => by cases hz), Nat.le_refl 0, put_same, Ext.new hD⟩, fun j G' ⟨_, _, _, _, f⟩ p' hp' => ?_, ?_, ?_⟩
  · have : p' = (l1, os2.map prT) := by simpa [heldT] using hp'
    rw [this]; exact f _ _ el9
  · intro j t G' ht ⟨ys, y1, y2, y3, f⟩
    obtain ⟨u, hu, rfl⟩ := enum_at ht
    rw [List.getElem?_map] at hu
    cases e0 : os2[j]? with
    | none => rw [e0] at hu; cases hu
    | some z =>
      rw [e0] at hu
      cases hu
      have hj := (List.getElem?_eq_some_iff.mp e0).1
      refine x_gpr rfl (x_gcons (x_gname (x_gcons (x_gname (x_gnil ?_)))))
      refine x_b (x_op (x_var rfl (x_sl (x_var rfl (x_slN (x_slS (x_var rfl ⟨_, rfl, x_slA (f _ _ el9) fun s hs => ?_⟩)))))))
      have ec : cutT (os2.map prT) none (some ((j : Nat) : Int)) = (os2.take j).map prT := by
        rw [cut_hi _ (by omega), List.map_take]; rfl
      rw [ec]
      refine x_ninP (z := z) put_same (osw z (List.mem_of_getElem? e0)) (fun y hy => osw y (List.mem_of_mem_take hy)) ⟨_, rfl, ?_⟩
      have fs : Ext G9 (Mi.put G' s (.lst ((os2.take j).map prT))) := f.trans (Ext.new hs)
      have ys3 := get_new (d := .lst ((os2.take j).map prT)) hs y3
      refine x_ite (fun c => ?_) (fun c => ?_)
      · refine x_var rfl ⟨_, ys3, by rw [List.length_map]; omega, fwdG.of ⟨ys ++ [z], fun y hy => ?_, by rw [List.length_append, List.length_singleton]; omega, by rw [put_same, List.map_append]; rfl, Ext.grow hD fs⟩⟩
        rcases List.mem_append.mp hy with x | x
        · exact y1 y x
        · rw [List.mem_singleton.mp x]; exact List.mem_of_getElem? e0
      · exact fwdG.of ⟨ys, y1, by omega, ys3, fs⟩
  intro G10 ⟨ys, y1, y2, y3, f10⟩
  have y2 : ys.length ≤ 6 := by
    have y2 : ys.length ≤ (enumT 0 (os2.map prT)).length := y2
    unfold enumT at y2
    rw [List.length_mapIdx, List.length_map] at y2
    omega
  have ext_bx : ∀ {A B : Gp} {M : Int}, Bx A a M → Ext A B → Bx B a M := fun b f => by obtain ⟨b0, b1, b2, z, zz⟩ := b; exact ⟨b0, b1, b2, f _ _ z, zz⟩
  have en10 := f10 _ _ en9
  refine x_lst (x_cons (x_tup (x_cons (x_op (x_var rfl (x_c (x_ix en10 ez4 (x_cons (x_op (x_var rfl (x_c (x_ix en10 ez0 (x_nil ⟨by show 2 ≤ sizeLine; decide, x_nil ⟨by show 1 ≤ sizeLine; decide, fun e2 he2 => ?_⟩⟩)))))))))))))
  refine x_catL (get_new he2 y3) (ys := [prT (z4, z0)]) put_same (by rw [List.length_map]; show _ + 1 ≤ _; omega) fun lp hlp => x_gname ?_
  have emap : ys.map prT ++ [prT (z4, z0)] = (ys ++ [(z4, z0)]).map prT := by rw [List.map_append]; rfl
  rw [emap]
  have f11 : Ext G9 (Mi.put (Mi.put G10 e2 (.lst [.tup [.str z4, .str z0]])) lp (.lst ((ys ++ [(z4, z0)]).map prT))) := (f10.trans (Ext.new he2)).trans (Ext.new hlp)
  have el11 : Mi.put (Mi.put G10 e2 (.lst [.tup [.str z4, .str z0]])) lp (.lst ((ys ++ [(z4, z0)]).map prT)) lp = some (.lst ((ys ++ [(z4, z0)]).map prT)) := put_same
  have yw : ∀ z ∈ ys ++ [(z4, z0)], Wd z.1 ∧ Wd z.2 := fun z hz => by
    rcases List.mem_append.mp hz with y | y
    · exact osw z (y1 z y)
    · rw [List.mem_singleton.mp y]; exact ⟨wz4, wz0⟩
  have yl : (ys ++ [(z4, z0)]).length ≤ 8 := by rw [List.length_append, List.length_singleton]; omega
  have l9 : G9 lp = none := by
    have h1 : Mi.put G10 e2 (.lst [.tup [.str z4, .str z0]]) lp = none := hlp
    exact (f10.trans (Ext.new he2)).none h1
  generalize ys ++ [(z4, z0)] = yy at f11 el11 yw yl
  generalize Mi.put (Mi.put G10 e2 (.lst [.tup [.str z4, .str z0]])) lp (.lst (yy.map prT)) = G11 at f11 el11
  dsimp only
  have W11 := W9.take f11.fr (ext_bx W9.bx f11) (Int.le_refl _)
  have F11 : Fr a G G11 := F9.trans f11.fr
  have lG : G lp = none := F9.none (W9.bx.ne l9) l9
  obtain ⟨olp1, olp2, olp3, olp4, olp5, olp6⟩ := W9.off l9
  have lpn : lp ≠ pn := fun z => by rw [← z, l9] at en9; cases en9
  have lpo : lp ≠ op := fun z => by rw [← z, l9] at eo9; cases eo9
  -- they are drawn
  with_reducible refine x_seq ?_
  refine x_for (x_irange (x_call (x_cons (x_var rfl (x_cons (x_c (x_nil ?_)))))))
  refine take_ok W11.bx (by omega) (by omega) (by omega) fun u G12 u0 u5 f12 B12 => ⟨u, rfl, by omega, by omega, ?_⟩
  have W12 := W11.take f12 B12 (by omega)
  have F12 := F11.trans f12
  have opa : op ≠ a := W8.bx.ne hop
  refine ⟨fun i r G' => ∃ (x6 x7 x11 : Option T) (ys' : List (Str × Str)) (oz : List Op) (op' : Addr), r = [some (.ref a), some (.ref w), some (.ref pn), some (knT kn), some (.ref lp), some (.ref op'), x6, x7, none, none, none, x11] ∧ G' lp = some (.lst (ys'.map prT)) ∧ (∀ z ∈ ys', Wd z.1 ∧ Wd z.2) ∧ ys'.length ≤ 8 ∧
      G' op' = some (.lst (oz.map opT)) ∧ lp ≠ op' ∧ Opn ls i oz ∧ Wrl a w q pl po2 pa ls os2 an G' (N + 24100 + 362 * (i : Nat)) ∧ Fr a G G' ∧ G' pn = some (.lst (zs.map T.str)),
    ⟨none, none, none, yy, [], op, rfl, f12 _ _ olp1 el11, yw, yl, f12 _ _ opa (f11 _ _ eo9), lpo, ⟨Nat.le_refl 0, List.nodup_nil, (fun z hz => by cases hz)⟩, W12.le (by omega), F12, f12 _ _ pna (f11 _ _ en9)⟩, fun i r G' _ q' hq' => (by cases hq'), ?_, ?_⟩
  · intro i t r G' hi ⟨x6, x7, x11, ys', oz, op', er, a1, a2, a3, a4, a5, a6, a7, a8, a9⟩
    subst er
    obtain ⟨rfl, hi2⟩ := range_at hi
    have hi5 : i < 5 := by omega
    refine x_gname ?_
    refine turn_ok (k := k) L a7 osn (by omega) a9 pna zl5 zw a1 a2 a3 olp2 olp3 a5 lpn olp4 olp5 olp6 a4 a6 (by omega) fun y7 y11 ys2 oz2 op2 G13 b1 b2 b3 b4 b5 b6 b7 b8 => ?_
    refine fwd.of ⟨_, y7, y11, ys2, oz2, op2, rfl, b1, b2, b3, b4, b5, b6, b7.le (by push_cast; omega), fun x c n e => b8 x c n (fun z => by rw [z, lG] at e; cases e) (a8 x c n e), b8 _ _ pna (Ne.symm lpn) a9⟩
  · intro r G' ⟨x6, x7, x11, ys', oz, op', er, a1, a2, a3, a4, a5, a6, a7, a8, a9⟩
    subst er
    have hl : (rangeT 0 u.toNat).length ≤ 5 := by
      simp only [rangeT, List.length_map, List.length_range]
      omega
    have a6 : Opn ls (rangeT 0 u.toNat).length oz := a6
    have a7 : Wrl a w q pl po2 pa ls os2 an G' (N + 24100 + 362 * ((rangeT 0 u.toNat).length : Nat)) := a7
    have tG : TabG G' := a8 _ _ (fun z => by
      obtain ⟨b0, b1, b2, z2, _⟩ := h
      unfold TabG at hT
      rw [z, z2] at hT; cases hT) hT
    refine ask_ok (k := k) (d := max d 1) L (by omega) hk hz a6 (by omega) a4 tG fun G'' f => hR G'' (fun x c n e nf => f x c (a8 x c n e) nf) ?_
    obtain ⟨b0, b1, b2, z2, c1, c2, c3, c4, c5⟩ := a7.bx
    exact ⟨b0, b1, b2, f _ _ z2 (fun L w y => by cases y), c1, c2, c3, c4, by omega⟩
theorem mem_cut {α : Type} {xs : List α} {lo hi : Option Int} {x : α} (h : x ∈ cutT xs lo hi) : x ∈ xs := by
  unfold cutT at h
  exact List.mem_of_mem_drop (List.mem_of_mem_take h)
theorem len_cut3 {α : Type} {xs : List α} {hi : Option Int} (h : 0 < (cutT xs (some 3) hi).length) : 3 < xs.length := by
  unfold cutT at h
  have e : HT.sIx xs.length 0 (some 3) = min 3 xs.length := by
    have := HT.sIx_nat xs.length 0 3
    exact this
  rw [e, List.length_take, List.length_drop] at h
  omega
theorem len_cut63 {α : Type} (xs : List α) : (cutT xs (some 3) (some 63)).length ≤ 63 := by
  unfold cutT
  have e : HT.sIx xs.length xs.length (some 63) = min 63 xs.length := HT.sIx_nat xs.length xs.length 63
  rw [e, List.length_take]
  omega
theorem ixN_nat {n j : Nat} (h : j < n) : ixN n (j : Int) = some j := by
  unfold ixN
  first
  | (rw [if_neg (by omega)]; simp [h])
  | (simp only [show ¬ ((j : Int) < 0) by omega, if_false]; simp [h])
  | simp [h]
theorem lfold_ok {k : Nat} {ns : List Int} {G : Gp} {R : KT} (hR : ∀ (p : Addr) (ms : List Int) (G' : Gp), ms.length ≤ 3 → G' p = some (.lst (ms.map T.int)) → Ext G G' → R (.ref p) G') : SP (k + 1) 8 [.cl (ns.map T.int), .int 3] G R := by
  show spOf 5 2 (b8 (SP k)) _ _ _
  refine ⟨rfl, ?_⟩
  unfold b8
  have szl := sizeLine_eq
  with_reducible refine x_seq ?_
  refine x_asg (x_call (x_cons (x_sl (x_var rfl (x_slN (x_slS (x_var rfl ⟨3, rfl, .inr (.inl ⟨_, .inl rfl, fun q0 hq0 => x_nil (x_list (.inr (.inr ⟨q0, rfl, put_same⟩)) fun p hp => x_gname ?_)⟩)⟩)))))))
  rw [cut_hi _ (by decide)] at hp ⊢
  have ec : (ns.map T.int).take (Int.toNat 3) = (ns.take 3).map T.int := by rw [List.map_take]; rfl
  rw [ec] at hp ⊢
  have f1 : Ext G (Mi.put (Mi.put G q0 (.lst ((ns.take 3).map T.int))) p (.lst ((ns.take 3).map T.int))) := (Ext.new hq0).trans (Ext.new hp)
  have e1 : Mi.put (Mi.put G q0 (.lst ((ns.take 3).map T.int))) p (.lst ((ns.take 3).map T.int)) p = some (.lst ((ns.take 3).map T.int)) := put_same
  have hpG : G p = none := Ext.none (Ext.new (c := .lst ((ns.take 3).map T.int)) hq0) hp
  generalize Mi.put (Mi.put G q0 (.lst ((ns.take 3).map T.int))) p (.lst ((ns.take 3).map T.int)) = G1 at f1 e1
  dsimp only
  with_reducible refine x_seq ?_
  refine x_for (x_ienum (x_sl (x_var rfl (x_slS (x_var rfl ⟨3, rfl, x_slS (x_c ⟨63, rfl, .inr (.inl ⟨_, .inl rfl, fun q2 hq2 => ⟨_, .inr (.inl (.inr ⟨q2, rfl, put_same⟩)), ?_⟩⟩)⟩)⟩)))))
  have pq : p ≠ q2 := fun z => by rw [← z, e1] at hq2; cases hq2
  have hqG : G q2 = none := f1.none hq2
  refine ⟨fun i r G' => ∃ (ms : List Int) (x3 x4 : Option T), r = [some (.cl (ns.map T.int)), some (.int 3), some (.ref p), x3, x4] ∧ G' p = some (.lst (ms.map T.int)) ∧ ms.length = min 3 ns.length ∧ G' q2 = some (.lst (cutT (ns.map T.int) (some 3) (some 63))) ∧ Ext G G',
    ⟨ns.take 3, none, none, rfl, get_new hq2 e1, List.length_take, put_same, f1.trans (Ext.new hq2)⟩, fun i r G' ⟨_, _, _, _, _, _, h, _⟩ p' hp' => ?_, ?_, ?_⟩
  · have : p' = (q2, cutT (ns.map T.int) (some 3) (some 63)) := by simpa [heldT] using hp'
    rw [this]; exact h
  · intro i t r G' ht ⟨ms, x3, x4, er, e, hl, eq, f⟩
    subst er
    obtain ⟨u, hu, rfl⟩ := enum_at ht
    have hm := mem_cut (List.mem_of_getElem? hu)
    obtain ⟨c, _, rfl⟩ := List.mem_map.mp hm
    have h3 : 3 < ns.length := by
      have h0 : 0 < (cutT (ns.map T.int) (some 3) (some 63)).length := by
        have := (List.getElem?_eq_some_iff.mp hu).1; omega
      have := len_cut3 h0
      rwa [List.length_map] at this
    have hm3 : ms.length = 3 := by omega
    refine x_gpr rfl (x_gcons (x_gname (x_gcons (x_gname (x_gnil ?_)))))
    dsimp only
    obtain ⟨j, hj, j3⟩ : ∃ j : Nat, ((i : Nat) : Int) % 3 = j ∧ j < 3 := ⟨i % 3, by omega, by omega⟩
    obtain ⟨y, ey, my⟩ := atI_nat (xs := ms.map T.int) (i := (j : Int)) (by omega) (by rw [List.length_map, hm3]; omega)
    obtain ⟨b, _, rfl⟩ := List.mem_map.mp my
    refine x_asg (x_op (x_op (x_var rfl (x_op (x_var rfl (x_var rfl (x_mod (by decide) ?_)))))))
    rw [hj]
    refine x_ix e ey (x_op (x_var rfl (x_op (x_var rfl (x_c (x_add (x_mulR (by omega) (by have := (List.getElem?_eq_some_iff.mp hu).1; have h63 : (cutT (ns.map T.int) (some 3) (some 63)).length ≤ 63 := len_cut63 _; omega) (x_add ?_))))))))
    refine x_gsub (x_var rfl (x_op (x_var rfl (x_var rfl (x_mod (by decide) ?_)))))
    rw [hj]
    refine x_sto (j := j) e (by rw [List.length_map, hm3]; exact ixN_nat j3) ?_
    have es : (ms.map T.int).set j (.int (b + c * ((i : Nat) + 2))) = (ms.set j (b + c * ((i : Nat) + 2))).map T.int := by rw [List.map_set]
    rw [es]
    exact fwd.of ⟨_, _, _, rfl, put_same, by rw [List.length_set]; exact hl, by rw [put_ne (Ne.symm pq)]; exact eq, Ext.grow hpG f⟩
  · intro r G' ⟨ms, x3, x4, er, e, hl, eq, f⟩
    subst er
    dsimp only
    exact x_ret (x_var rfl (fwdT.of (hR p ms G' (by omega) e f)))
theorem lbox_ok {k i : Nat} {G : Gp} {q : Addr} {ns : List Int} {R : KT} (hi : i ≤ 63) (eq : G q = some (.lst (ns.map T.int))) (hR : ∀ p G', G p = none → Ext G G' → Bx G' p 0 → R (.ref p) G') : SP (k + 1) 6 [.ref q, .int (i : Nat)] G R := by
  show spOf 3 2 (b6 (SP k)) _ _ _
  refine ⟨rfl, ?_⟩
  unfold b6
  have z0 : ∀ b : Bool, 0 ≤ (if b = true then (1 : Int) else 0) := by decide
  have fin : ∀ c : Int, ∀ p, G p = none → fwdT R (.ref p) (put G p (.lst [.int ((if c < 0 then -c else c) * if decide ((10 : Int) ^ Int.toNat 18 ≤ if c < 0 then -c else c) = true then 1 else 0), .int ((c % 2147483629 + 15485863 * (i : Nat) + 43) * 48271 % 2147483647), .int 0])) := by
    intro c p hp
    have y0 : 0 ≤ (if c < 0 then -c else c) := by split <;> omega
    exact fwdT.of (hR p _ hp (fun b c e => get_new hp e) ⟨_, _, _, put_same, Int.mul_nonneg y0 (z0 _), Int.emod_nonneg _ (by decide), Int.emod_lt_of_pos _ (by decide), Int.le_refl _, Int.le_refl _⟩)
  repeat walk_at "go1"
  refine x_ite (fun e => ?_) (fun e => ?_)
  · have e2 := of_decide_eq_true e
    rw [List.length_map] at e2
    repeat walk_at "go1"
    obtain ⟨u, eu, mu⟩ := atI_nat (xs := ns.map T.int) (i := (i : Nat)) (by omega) (by rw [List.length_map]; exact e2)
    obtain ⟨c, _, rfl⟩ := List.mem_map.mp mu
    refine x_ix eq eu ?_
    repeat walk_at "go1"
    exact fin c
  · repeat walk_at "go1"
    exact fin 0
theorem law_ok {k : Nat} {ns : List Int} {G : Gp} {R : KT} (hT : TabG G) (hR : ∀ G', R (.bl true) G') : SP (k + 102) 22 [.cl (ns.map T.int)] G R := by
  show spOf 5 1 (b22 (SP (k + 101))) _ _ _
  refine ⟨rfl, ?_⟩
  unfold b22
  have szl := sizeLine_eq
  with_reducible refine x_seq ?_
  refine x_asg (x_call (x_cons (x_var rfl (x_cons (x_c (x_nil ?_))))))
  refine lfold_ok (k := k + 100) fun p ms G1 hm e1 f1 => x_gname ?_
  dsimp only
  with_reducible refine x_seq ?_
  have bn : (if ((ms.length : Nat) : Int) > 1 then ((ms.length : Nat) : Int) else 1) ≤ 3 ∧ 0 ≤ (if ((ms.length : Nat) : Int) > 1 then ((ms.length : Nat) : Int) else 1) := by split <;> omega
  refine x_for (x_irange (x_call (x_cons (x_c (x_cons (x_call (x_cons (x_var rfl (x_nil (x_len (.inr (.inr ⟨p, rfl, e1⟩)) (x_nil (x_max2 ?_))))))))))))
  rw [List.length_map]
  generalize (if ((ms.length : Nat) : Int) > 1 then ((ms.length : Nat) : Int) else 1) = many at bn
  refine ⟨_, rfl, by omega, by omega, ?_⟩
  have t1 : TabG G1 := f1 _ _ hT
  refine ⟨fun i r G' => ∃ (x2 x3 x4 : Option T), r = [some (.cl (ns.map T.int)), some (.ref p), x2, x3, x4] ∧ G' p = some (.lst (ms.map T.int)) ∧ TabG G', ⟨none, none, none, rfl, e1, t1⟩, fun i r G' _ q hq => (by cases hq), ?_, ?_⟩
  · intro i t r G' hi ⟨x2, x3, x4, er, e, tG⟩
    subst er
    obtain ⟨rfl, hi2⟩ := range_at hi
    refine x_gname ?_
    dsimp only
    with_reducible refine x_seq ?_
    refine x_asg (x_call (x_cons (x_var rfl (x_cons (x_var rfl (x_nil ?_))))))
    refine lbox_ok (k := k + 100) (by omega) e fun b G2 hb f2 B2 => x_gname ?_
    dsimp only
    have pb : p ≠ b := fun z => by rw [← z, e] at hb; cases hb
    with_reducible refine x_if ?_
    refine x_not (x_tru (x_call (x_cons (x_lc (x_irange (x_c ⟨8, rfl, by decide, by decide, fun D hD => ?_⟩))))))
    have Db := B2.ne hD
    have e2 := f2 _ _ e
    have t2 : TabG G2 := f2 _ _ tG
    refine ⟨fun j G'' => G'' D = some (.lst ((List.replicate j true).map T.bl)) ∧ Bx G'' b (26000 * (j : Nat)) ∧ G'' p = some (.lst (ms.map T.int)) ∧ TabG G'', ⟨put_same, (B2.new hD).le (by omega), get_new hD e2, get_new hD t2⟩, fun i G' _ q hq => (by cases hq), ?_, ?_⟩
    · intro j t G3 hj ⟨c1, c2, c3, c4⟩
      obtain ⟨rfl, hj2⟩ := range_at hj
      have hj8 : j < 8 := hj2
      refine x_gname (x_yes ?_)
      rw [if_pos rfl]
      refine x_call (x_cons (x_var rfl (x_nil ?_)))
      refine right_ok (k := k) c2 (by omega) c4 (by omega) fun G4 f4 B4 => ?_
      have tb : Tb.at_ 3 ≠ b := fun z => by
        obtain ⟨b0, b1, b2, z2, _⟩ := c2
        unfold TabG at c4
        rw [z, z2] at c4; cases c4
      refine ⟨_, f4 _ _ Db c1 (fun L w z => by cases z), by rw [List.length_map, List.length_replicate]; omega, fwdG.of ⟨?_, (B4.put Db).le (by push_cast; omega), ?_, ?_⟩⟩
      · rw [put_same, List.replicate_succ', List.map_append]; rfl
      · rw [put_ne (fun z => by rw [z, hD] at e2; cases e2)]
        exact f4 _ _ pb c3 (fun L w z => by cases z)
      · have : G4 (Tb.at_ 3) = some (.tab lam3.qual) := f4 _ _ tb c4 (fun L w z => by cases z)
        unfold TabG
        rw [put_ne (fun z => by unfold TabG at t2; rw [z, hD] at t2; cases t2)]
        exact this
    · intro G3 ⟨c1, c2, c3, c4⟩
      refine x_nil (x_all c1 ⟨_, rfl, ?_⟩)
      refine x_iteF rfl (x_next (fwd.of ⟨_, _, _, rfl, c3, c4⟩))
  · intro r G' ⟨x2, x3, x4, er, e, tG⟩
    subst er
    dsimp only
    exact x_ret (x_c (fwdT.of (hR G')))
end Lw

set_option Elab.async false
set_option linter.all false
set_option maxRecDepth 100000
set_option maxHeartbeats 4000000
namespace Lw
open PySem L2 Mi LamX PyProof.Rows
abbrev TT_ := Mi.T
section
variable {P : Program} {w : World} {K : PySem.W.Frag} {mg : Str → Option Value} {base : Heap} {fa : Nat → Addr} {fdd : Nat → FuncData}
theorem all_ok2 [Tb] (TT : TabF base mg (fdd 3) (Tb.at_ 3)) (Z : Txt w K mg fa fdd) : ∀ k : Nat, AllOk P w K mg base fa fdd k ∧ APrev P w K mg base fa fdd k
  | 0 => ⟨⟨fn_none, fn_none, fn_none, fn_none, fn_none, fn_none, fn_none, fn_none, fn_none, fn_none, fn_none, fn_none, fn_none, fn_none, fn_none, fn_none, fn_none, fn_none, fn_none, fn_none, fn_none, FnG.of fn_none, FnG.of fn_none⟩, fun S h => by cases h⟩
  | k + 1 => let A := all_ok2 TT Z k; ⟨⟨ok0 Z A.1 A.2, ok1 Z A.1, ok2 Z A.1, ok3 TT Z A.1, ok4 Z A.1, ok5 Z A.1, ok6 Z A.1, ok7 Z A.1, ok8 Z A.1, ok9 Z A.1, ok10 Z A.1, ok11 Z A.1, ok12 Z A.1, ok13 Z A.1, ok14 Z A.1, ok15 Z A.1, ok16 Z A.1, ok17 Z A.1, ok18 Z A.1, ok19 Z A.1, ok20 Z A.1, ok21 Z A.1, ok22 Z A.1⟩, fun S h => ⟨k, rfl, (Option.some.inj h).symm, A.1⟩⟩
theorem all_ok [Tb] (TT : TabF base mg (fdd 3) (Tb.at_ 3)) (Z : Txt w K mg fa fdd) (k : Nat) : AllOk P w K mg base fa fdd k := (all_ok2 TT Z k).1
end
/-- a written dict, entry by entry -/
def EntR (K : PySem.W.Frag) : List DictEntry → List (Str × T) → Prop
  | [], [] => True
  | e :: es, (k, t) :: kvs => (∃ tk, e.key = .str k tk) ∧ (∃ v, RelV v e.val ∧ ∀ H, Rp K H v t) ∧ EntR K es kvs
  | _, _ => False
def EntL (K : PySem.W.Frag) : List DictEntry → List (Str × List T) → Prop
  | [], [] => True
  | e :: es, (k, ts) :: kvs => (∃ tk, e.key = .str k tk) ∧ (∃ p vs, e.val = .ref p ∧ (∀ H, SqT K H p vs) ∧ ∀ H, Rps K H vs ts) ∧ EntL K es kvs
  | _, _ => False
theorem isStr_str (k z : Str) (t : Tok) : (Value.str k t).isStr z = decide (k = z) := by
  rw [PySem.W.isStr_of]
  show (k == z) = _
  by_cases h : k = z
  · rw [decide_eq_true h, h]; exact beq_self_eq_true z
  · rw [decide_eq_false h]; exact beq_eq_false_iff_ne.mpr h
theorem ent_look {K : PySem.W.Frag} {z : Str} : ∀ {es : List DictEntry} {kvs : List (Str × T)}, EntR K es kvs → (es.any (·.refKey) = false) ∧ KRel K (lkT kvs z) ((es.find? (·.key.isStr z)).map (·.val))
  | [], [], _ => ⟨rfl, trivial⟩
  | e :: es, (k, t) :: kvs, ⟨⟨tk, ek⟩, hv, h⟩ => by
    obtain ⟨i1, i2⟩ := ent_look (z := z) h
    refine ⟨by rw [List.any_cons, i1, Bool.or_false]; unfold DictEntry.refKey; rw [ek], ?_⟩
    unfold lkT
    by_cases hk : k = z
    · rw [if_pos hk, List.find?_cons_of_pos (by rw [ek, isStr_str]; exact decide_eq_true hk)]
      exact hv
    · rw [if_neg hk, List.find?_cons_of_neg (by rw [ek, isStr_str]; simpa using hk)]
      exact i2
  | [], _ :: _, h => h.elim
  | _ :: _, [], h => h.elim
theorem ent_lookL {K : PySem.W.Frag} {z : Str} : ∀ {es : List DictEntry} {kvs : List (Str × List T)}, EntL K es kvs → (es.any (·.refKey) = false) ∧ KRelL K (lkL kvs z) ((es.find? (·.key.isStr z)).map (·.val))
  | [], [], _ => ⟨rfl, trivial⟩
  | e :: es, (k, t) :: kvs, ⟨⟨tk, ek⟩, ⟨p, vs, ev, hq, hr⟩, h⟩ => by
    obtain ⟨i1, i2⟩ := ent_lookL (z := z) h
    refine ⟨by rw [List.any_cons, i1, Bool.or_false]; unfold DictEntry.refKey; rw [ek], ?_⟩
    unfold lkL
    by_cases hk : k = z
    · rw [if_pos hk, List.find?_cons_of_pos (by rw [ek, isStr_str]; exact decide_eq_true hk)]
      exact ⟨p, vs, ev, hq, hr⟩
    · rw [if_neg hk, List.find?_cons_of_neg (by rw [ek, isStr_str]; simpa using hk)]
      exact i2
  | [], _ :: _, h => h.elim
  | _ :: _, [], h => h.elim
theorem ns_of {K : PySem.W.Frag} {d : Addr} {oc : Value} {od : Option Addr} {es : Array DictEntry} {n : Nat} {sl : Array (Option Value)} {z : Str} (l : K.lookup d = some ⟨oc, od, .dict es n, sl⟩) (h : es.toList.any (·.refKey) = false) : PySem.W.nsIn K d z = some ((es.toList.find? (·.key.isStr z)).map (·.val)) := by
  unfold PySem.W.nsIn
  rw [l]
  show (match es.toList.find? (·.key.isStr z) with | some e => some (some e.val) | none => if es.toList.any (·.refKey) then none else some none) = _
  cases es.toList.find? (·.key.isStr z) with
  | some e => rfl
  | none => rw [h]; rfl
theorem kd_of {K : PySem.W.Frag} {w : World} {mg : Str → Option Value} {x : Str} {kvs : List (Str × T)} {d : Addr} {es : Array DictEntry} {n : Nat} (m : mg x = some (.ref d)) (l : K.lookup d = some ⟨.type "dict", none, .dict es n, #[]⟩) (lit : PySem.W.KeysLit w.params es.toList) (low : (d == sysModules) = false) (h : EntR K es.toList kvs) : KD K w mg x kvs :=
  ⟨d, es, n, m, ⟨l, lit, low⟩, fun z => ⟨_, ns_of l (ent_look (z := z) h).1, (ent_look (z := z) h).2⟩⟩
theorem kdt_of {K : PySem.W.Frag} {w : World} {mg : Str → Option Value} {x : Str} {kvs : List (Str × List T)} {d : Addr} {es : Array DictEntry} {n : Nat} (m : mg x = some (.ref d)) (l : K.lookup d = some ⟨.type "dict", none, .dict es n, #[]⟩) (lit : PySem.W.KeysLit w.params es.toList) (low : (d == sysModules) = false) (h : EntL K es.toList kvs) : KDt K w mg x kvs :=
  ⟨d, es, n, m, ⟨l, lit, low⟩, fun z => ⟨_, ns_of l (ent_lookL (z := z) h).1, (ent_lookL (z := z) h).2⟩⟩
theorem rps_nil {K : PySem.W.Frag} : ∀ H, Rps K H [] [] := fun _ => rfl
theorem rps_cons {K : PySem.W.Frag} {v : V} {t : T} {vs : List V} {ts : List T} (h : ∀ H, Rp K H v t) (k : ∀ H, Rps K H vs ts) : ∀ H, Rps K H (v :: vs) (t :: ts) := fun H => ⟨v, vs, rfl, h H, k H⟩
theorem tup_of {K : PySem.W.Frag} {p : Addr} {od : Option Addr} {its : Array Value} {n : Nat} {sl : Array (Option Value)} {vs : List V} (l : K.lookup p = some ⟨.type "tuple", od, .seq its n, sl⟩) (z : its.size ≤ sizeLine) (v : Vals vs its.toList) : ∀ H, SqT K H p vs := fun H => .inr ⟨_, its, n, l, rfl, rfl, z, v⟩
section
def gfOf (K : PySem.W.Frag) : Str → Addr := fun nm => match PySem.W.nsIn K mainGlobals nm with
  | some (some (.ref f)) => f
  | _ => 0
theorem gf_of {K : PySem.W.Frag} {nm : Str} {f : Addr} (h : PySem.W.nsIn K mainGlobals nm = some (some (.ref f))) : gfOf K nm = f := by unfold gfOf; rw [h]
def tbOf (K : PySem.W.Frag) (T : Addr) : Tb := ⟨fun _ => T, fun _ => Str.ofString "", gfOf K⟩
theorem lam_qual : lam3.qual = Str.ofString "opened.<locals>.<lambda>" := by unfold lam3 lamAt; split <;> rfl
theorem all_mk {l : PySem.W.OpenLaw} {w : World} {K : PySem.W.Frag} {h : Heap} {mg : Str → Option Value} {fl : Addr} (X : K.In h) (G : h.Ns mainGlobals mg) (hfa : mg "law" = some (.ref fl))
    {f0 : Addr} {od0 an0 : Option Addr} {sl0 : Array (Option Value)} {oc0 kV0 dc0 pm0 cd0 ct0 : Value}
    {f1 : Addr} {od1 an1 : Option Addr} {sl1 : Array (Option Value)} {oc1 kV1 dc1 pm1 cd1 ct1 : Value}
    {f2 : Addr} {od2 an2 : Option Addr} {sl2 : Array (Option Value)} {oc2 kV2 dc2 pm2 cd2 ct2 : Value}
    {f3 : Addr} {od3 an3 : Option Addr} {sl3 : Array (Option Value)} {oc3 kV3 dc3 pm3 cd3 ct3 : Value}
    {f4 : Addr} {od4 an4 : Option Addr} {sl4 : Array (Option Value)} {oc4 kV4 dc4 pm4 cd4 ct4 : Value}
    {f5 : Addr} {od5 an5 : Option Addr} {sl5 : Array (Option Value)} {oc5 kV5 dc5 pm5 cd5 ct5 : Value}
    {f6 : Addr} {od6 an6 : Option Addr} {sl6 : Array (Option Value)} {oc6 kV6 dc6 pm6 cd6 ct6 : Value}
    {f7 : Addr} {od7 an7 : Option Addr} {sl7 : Array (Option Value)} {oc7 kV7 dc7 pm7 cd7 ct7 : Value}
    {f8 : Addr} {od8 an8 : Option Addr} {sl8 : Array (Option Value)} {oc8 kV8 dc8 pm8 cd8 ct8 : Value}
    {f9 : Addr} {od9 an9 : Option Addr} {sl9 : Array (Option Value)} {oc9 kV9 dc9 pm9 cd9 ct9 : Value}
    {f10 : Addr} {od10 an10 : Option Addr} {sl10 : Array (Option Value)} {oc10 kV10 dc10 pm10 cd10 ct10 : Value}
    {f11 : Addr} {od11 an11 : Option Addr} {sl11 : Array (Option Value)} {oc11 kV11 dc11 pm11 cd11 ct11 : Value}
    {f12 : Addr} {od12 an12 : Option Addr} {sl12 : Array (Option Value)} {oc12 kV12 dc12 pm12 cd12 ct12 : Value}
    {f13 : Addr} {od13 an13 : Option Addr} {sl13 : Array (Option Value)} {oc13 kV13 dc13 pm13 cd13 ct13 : Value}
    {f14 : Addr} {od14 an14 : Option Addr} {sl14 : Array (Option Value)} {oc14 kV14 dc14 pm14 cd14 ct14 : Value}
    {f15 : Addr} {od15 an15 : Option Addr} {sl15 : Array (Option Value)} {oc15 kV15 dc15 pm15 cd15 ct15 : Value}
    {f16 : Addr} {od16 an16 : Option Addr} {sl16 : Array (Option Value)} {oc16 kV16 dc16 pm16 cd16 ct16 : Value}
    {f17 : Addr} {od17 an17 : Option Addr} {sl17 : Array (Option Value)} {oc17 kV17 dc17 pm17 cd17 ct17 : Value}
    {f18 : Addr} {od18 an18 : Option Addr} {sl18 : Array (Option Value)} {oc18 kV18 dc18 pm18 cd18 ct18 : Value}
    {f19 : Addr} {od19 an19 : Option Addr} {sl19 : Array (Option Value)} {oc19 kV19 dc19 pm19 cd19 ct19 : Value}
    {f20 : Addr} {od20 an20 : Option Addr} {sl20 : Array (Option Value)} {oc20 kV20 dc20 pm20 cd20 ct20 : Value}
    {f21 : Addr} {od21 an21 : Option Addr} {sl21 : Array (Option Value)} {oc21 kV21 dc21 pm21 cd21 ct21 : Value}
    {f22 : Addr} {od22 an22 : Option Addr} {sl22 : Array (Option Value)} {oc22 kV22 dc22 pm22 cd22 ct22 : Value}
    {cT tT : Addr}
    (a0 : PySem.W.nsIn K mainGlobals "folded" = some (some (.ref f0))) (l0 : K.lookup f0 = some ⟨oc0, od0, .func (PySem.W.fnOf "folded" "folded" (defArgs s0) (defBody s0) (defScope s0) .none kV0 dc0 pm0 an0 cd0 ct0), sl0⟩) (c0 : PySem.W.codeIn K cd0 "folded" = true) (k0 : PySem.W.keepIn K (.ref f0) = true)
    (a1 : PySem.W.nsIn K mainGlobals "kind_parts" = some (some (.ref f1))) (l1 : K.lookup f1 = some ⟨oc1, od1, .func (PySem.W.fnOf "kind_parts" "kind_parts" (defArgs s1) (defBody s1) (defScope s1) .none kV1 dc1 pm1 an1 cd1 ct1), sl1⟩) (c1 : PySem.W.codeIn K cd1 "kind_parts" = true) (k1 : PySem.W.keepIn K (.ref f1) = true)
    (a2 : PySem.W.nsIn K mainGlobals "with_kinds" = some (some (.ref f2))) (l2 : K.lookup f2 = some ⟨oc2, od2, .func (PySem.W.fnOf "with_kinds" "with_kinds" (defArgs s2) (defBody s2) (defScope s2) .none kV2 dc2 pm2 an2 cd2 ct2), sl2⟩) (c2 : PySem.W.codeIn K cd2 "with_kinds" = true) (k2 : PySem.W.keepIn K (.ref f2) = true)
    (a3 : PySem.W.nsIn K mainGlobals "opened" = some (some (.ref f3))) (l3 : K.lookup f3 = some ⟨oc3, od3, .func (PySem.W.fnOf "opened" "opened" (defArgs s3) (defBody s3) (defScope s3) .none kV3 dc3 pm3 an3 cd3 ct3), sl3⟩) (c3 : PySem.W.codeIn K cd3 "opened" = true) (k3 : PySem.W.keepIn K (.ref f3) = true)
    (a4 : PySem.W.nsIn K mainGlobals "has_own" = some (some (.ref f4))) (l4 : K.lookup f4 = some ⟨oc4, od4, .func (PySem.W.fnOf "has_own" "has_own" (defArgs s4) (defBody s4) (defScope s4) .none kV4 dc4 pm4 an4 cd4 ct4), sl4⟩) (c4 : PySem.W.codeIn K cd4 "has_own" = true) (k4 : PySem.W.keepIn K (.ref f4) = true)
    (a5 : PySem.W.nsIn K mainGlobals "unsealed" = some (some (.ref f5))) (l5 : K.lookup f5 = some ⟨oc5, od5, .func (PySem.W.fnOf "unsealed" "unsealed" (defArgs s5) (defBody s5) (defScope s5) .none kV5 dc5 pm5 an5 cd5 ct5), sl5⟩) (c5 : PySem.W.codeIn K cd5 "unsealed" = true) (k5 : PySem.W.keepIn K (.ref f5) = true)
    (a6 : PySem.W.nsIn K mainGlobals "_law_box" = some (some (.ref f6))) (l6 : K.lookup f6 = some ⟨oc6, od6, .func (PySem.W.fnOf "_law_box" "_law_box" (defArgs s6) (defBody s6) (defScope s6) .none kV6 dc6 pm6 an6 cd6 ct6), sl6⟩) (c6 : PySem.W.codeIn K cd6 "_law_box" = true) (k6 : PySem.W.keepIn K (.ref f6) = true)
    (a7 : PySem.W.nsIn K mainGlobals "_law_take" = some (some (.ref f7))) (l7 : K.lookup f7 = some ⟨oc7, od7, .func (PySem.W.fnOf "_law_take" "_law_take" (defArgs s7) (defBody s7) (defScope s7) .none kV7 dc7 pm7 an7 cd7 ct7), sl7⟩) (c7 : PySem.W.codeIn K cd7 "_law_take" = true) (k7 : PySem.W.keepIn K (.ref f7) = true)
    (a8 : PySem.W.nsIn K mainGlobals "_law_folded" = some (some (.ref f8))) (l8 : K.lookup f8 = some ⟨oc8, od8, .func (PySem.W.fnOf "_law_folded" "_law_folded" (defArgs s8) (defBody s8) (defScope s8) .none kV8 dc8 pm8 an8 cd8 ct8), sl8⟩) (c8 : PySem.W.codeIn K cd8 "_law_folded" = true) (k8 : PySem.W.keepIn K (.ref f8) = true)
    (a9 : PySem.W.nsIn K mainGlobals "_law_same" = some (some (.ref f9))) (l9 : K.lookup f9 = some ⟨oc9, od9, .func (PySem.W.fnOf "_law_same" "_law_same" (defArgs s9) (defBody s9) (defScope s9) .none kV9 dc9 pm9 an9 cd9 ct9), sl9⟩) (c9 : PySem.W.codeIn K cd9 "_law_same" = true) (k9 : PySem.W.keepIn K (.ref f9) = true)
    (a10 : PySem.W.nsIn K mainGlobals "_law_of" = some (some (.ref f10))) (l10 : K.lookup f10 = some ⟨oc10, od10, .func (PySem.W.fnOf "_law_of" "_law_of" (defArgs s10) (defBody s10) (defScope s10) .none kV10 dc10 pm10 an10 cd10 ct10), sl10⟩) (c10 : PySem.W.codeIn K cd10 "_law_of" = true) (k10 : PySem.W.keepIn K (.ref f10) = true)
    (a11 : PySem.W.nsIn K mainGlobals "_law_names" = some (some (.ref f11))) (l11 : K.lookup f11 = some ⟨oc11, od11, .func (PySem.W.fnOf "_law_names" "_law_names" (defArgs s11) (defBody s11) (defScope s11) .none kV11 dc11 pm11 an11 cd11 ct11), sl11⟩) (c11 : PySem.W.codeIn K cd11 "_law_names" = true) (k11 : PySem.W.keepIn K (.ref f11) = true)
    (a12 : PySem.W.nsIn K mainGlobals "_law_world" = some (some (.ref f12))) (l12 : K.lookup f12 = some ⟨oc12, od12, .func (PySem.W.fnOf "_law_world" "_law_world" (defArgs s12) (defBody s12) (defScope s12) .none kV12 dc12 pm12 an12 cd12 ct12), sl12⟩) (c12 : PySem.W.codeIn K cd12 "_law_world" = true) (k12 : PySem.W.keepIn K (.ref f12) = true)
    (a13 : PySem.W.nsIn K mainGlobals "_law_pairs" = some (some (.ref f13))) (l13 : K.lookup f13 = some ⟨oc13, od13, .func (PySem.W.fnOf "_law_pairs" "_law_pairs" (defArgs s13) (defBody s13) (defScope s13) .none kV13 dc13 pm13 an13 cd13 ct13), sl13⟩) (c13 : PySem.W.codeIn K cd13 "_law_pairs" = true) (k13 : PySem.W.keepIn K (.ref f13) = true)
    (a14 : PySem.W.nsIn K mainGlobals "_law_rest" = some (some (.ref f14))) (l14 : K.lookup f14 = some ⟨oc14, od14, .func (PySem.W.fnOf "_law_rest" "_law_rest" (defArgs s14) (defBody s14) (defScope s14) .none kV14 dc14 pm14 an14 cd14 ct14), sl14⟩) (c14 : PySem.W.codeIn K cd14 "_law_rest" = true) (k14 : PySem.W.keepIn K (.ref f14) = true)
    (a15 : PySem.W.nsIn K mainGlobals "_law_kind" = some (some (.ref f15))) (l15 : K.lookup f15 = some ⟨oc15, od15, .func (PySem.W.fnOf "_law_kind" "_law_kind" (defArgs s15) (defBody s15) (defScope s15) .none kV15 dc15 pm15 an15 cd15 ct15), sl15⟩) (c15 : PySem.W.codeIn K cd15 "_law_kind" = true) (k15 : PySem.W.keepIn K (.ref f15) = true)
    (a16 : PySem.W.nsIn K mainGlobals "_law_open_world" = some (some (.ref f16))) (l16 : K.lookup f16 = some ⟨oc16, od16, .func (PySem.W.fnOf "_law_open_world" "_law_open_world" (defArgs s16) (defBody s16) (defScope s16) .none kV16 dc16 pm16 an16 cd16 ct16), sl16⟩) (c16 : PySem.W.codeIn K cd16 "_law_open_world" = true) (k16 : PySem.W.keepIn K (.ref f16) = true)
    (a17 : PySem.W.nsIn K mainGlobals "_law_size" = some (some (.ref f17))) (l17 : K.lookup f17 = some ⟨oc17, od17, .func (PySem.W.fnOf "_law_size" "_law_size" (defArgs s17) (defBody s17) (defScope s17) .none kV17 dc17 pm17 an17 cd17 ct17), sl17⟩) (c17 : PySem.W.codeIn K cd17 "_law_size" = true) (k17 : PySem.W.keepIn K (.ref f17) = true)
    (a18 : PySem.W.nsIn K mainGlobals "_law_small" = some (some (.ref f18))) (l18 : K.lookup f18 = some ⟨oc18, od18, .func (PySem.W.fnOf "_law_small" "_law_small" (defArgs s18) (defBody s18) (defScope s18) .none kV18 dc18 pm18 an18 cd18 ct18), sl18⟩) (c18 : PySem.W.codeIn K cd18 "_law_small" = true) (k18 : PySem.W.keepIn K (.ref f18) = true)
    (a19 : PySem.W.nsIn K mainGlobals "_law_opened" = some (some (.ref f19))) (l19 : K.lookup f19 = some ⟨oc19, od19, .func (PySem.W.fnOf "_law_opened" "_law_opened" (defArgs s19) (defBody s19) (defScope s19) .none kV19 dc19 pm19 an19 cd19 ct19), sl19⟩) (c19 : PySem.W.codeIn K cd19 "_law_opened" = true) (k19 : PySem.W.keepIn K (.ref f19) = true)
    (a20 : PySem.W.nsIn K mainGlobals "_law_bare" = some (some (.ref f20))) (l20 : K.lookup f20 = some ⟨oc20, od20, .func (PySem.W.fnOf "_law_bare" "_law_bare" (defArgs s20) (defBody s20) (defScope s20) .none kV20 dc20 pm20 an20 cd20 ct20), sl20⟩) (c20 : PySem.W.codeIn K cd20 "_law_bare" = true) (k20 : PySem.W.keepIn K (.ref f20) = true)
    (a21 : PySem.W.nsIn K mainGlobals "_law_right" = some (some (.ref f21))) (l21 : K.lookup f21 = some ⟨oc21, od21, .func (PySem.W.fnOf "_law_right" "_law_right" (defArgs s21) (defBody s21) (defScope s21) .none kV21 dc21 pm21 an21 cd21 ct21), sl21⟩) (c21 : PySem.W.codeIn K cd21 "_law_right" = true) (k21 : PySem.W.keepIn K (.ref f21) = true)
    (a22 : PySem.W.nsIn K mainGlobals "law" = some (some (.ref f22))) (l22 : K.lookup f22 = some ⟨oc22, od22, .func (PySem.W.fnOf "law" "law" (defArgs s22) (defBody s22) (defScope s22) .none kV22 dc22 pm22 an22 cd22 ct22), sl22⟩) (c22 : PySem.W.codeIn K cd22 "law" = true) (k22 : PySem.W.keepIn K (.ref f22) = true)
    (zabs : PySem.W.nsIn K mainGlobals "abs" = some none)
    (zall : PySem.W.nsIn K mainGlobals "all" = some none)
    (zbool : PySem.W.nsIn K mainGlobals "bool" = some none)
    (zdict : PySem.W.nsIn K mainGlobals "dict" = some none)
    (zdivmod : PySem.W.nsIn K mainGlobals "divmod" = some none)
    (zenumerate : PySem.W.nsIn K mainGlobals "enumerate" = some none)
    (zint : PySem.W.nsIn K mainGlobals "int" = some none)
    (zisinstance : PySem.W.nsIn K mainGlobals "isinstance" = some none)
    (zlen : PySem.W.nsIn K mainGlobals "len" = some none)
    (zlist : PySem.W.nsIn K mainGlobals "list" = some none)
    (zmax : PySem.W.nsIn K mainGlobals "max" = some none)
    (zrange : PySem.W.nsIn K mainGlobals "range" = some none)
    (zrepr : PySem.W.nsIn K mainGlobals "repr" = some none)
    (zsorted : PySem.W.nsIn K mainGlobals "sorted" = some none)
    (zstr : PySem.W.nsIn K mainGlobals "str" = some none)
    (zsum : PySem.W.nsIn K mainGlobals "sum" = some none)
    (ztuple : PySem.W.nsIn K mainGlobals "tuple" = some none)
    (zzip : PySem.W.nsIn K mainGlobals "zip" = some none)
    (qT : cd3 = .ref cT) :
    ∃ fd : FuncData, (∀ (s : Shared) (v : Value), BindsTo s fd ⟨[v], []⟩ [("script", v)]) ∧ ∀ base : Heap, K.In base → base.Ns mainGlobals mg → TabB base mg cT tT → FnG l.prog w K mg base 102 fl fd ["script"] (liM K (@SP (tbOf K tT) 102 22)) := by
  have e := hfa.symm.trans (PySem.W.mg_of X G a22)
  cases e
  have F0 := fun_mk (st := s0) l0 c0 k0
  have B0 := F0.binds (ps := ["tree", "parts_of", "make"]) fun _ _ _ _ _ _ us hl => match us, hl with | [_, _, _], _ => rfl
  have F1 := fun_mk (st := s1) l1 c1 k1
  have B1 := F1.binds (ps := ["kind"]) fun _ _ _ _ _ _ us hl => match us, hl with | [_], _ => rfl
  have F2 := fun_mk (st := s2) l2 c2 k2
  have B2 := F2.binds (ps := ["kind", "parts"]) fun _ _ _ _ _ _ us hl => match us, hl with | [_, _], _ => rfl
  have F3 := fun_mk (st := s3) l3 c3 k3
  have B3 := F3.binds (ps := ["kind", "opens"]) fun _ _ _ _ _ _ us hl => match us, hl with | [_, _], _ => rfl
  have F4 := fun_mk (st := s4) l4 c4 k4
  have B4 := F4.binds (ps := ["kind"]) fun _ _ _ _ _ _ us hl => match us, hl with | [_], _ => rfl
  have F5 := fun_mk (st := s5) l5 c5 k5
  have B5 := F5.binds (ps := ["kind", "parts", "seals"]) fun _ _ _ _ _ _ us hl => match us, hl with | [_, _, _], _ => rfl
  have F6 := fun_mk (st := s6) l6 c6 k6
  have B6 := F6.binds (ps := ["script", "k"]) fun _ _ _ _ _ _ us hl => match us, hl with | [_, _], _ => rfl
  have F7 := fun_mk (st := s7) l7 c7 k7
  have B7 := F7.binds (ps := ["box", "wide"]) fun _ _ _ _ _ _ us hl => match us, hl with | [_, _], _ => rfl
  have F8 := fun_mk (st := s8) l8 c8 k8
  have B8 := F8.binds (ps := ["script", "wide"]) fun _ _ _ _ _ _ us hl => match us, hl with | [_, _], _ => rfl
  have F9 := fun_mk (st := s9) l9 c9 k9
  have B9 := F9.binds (ps := ["found", "due"]) fun _ _ _ _ _ _ us hl => match us, hl with | [_, _], _ => rfl
  have F10 := fun_mk (st := s10) l10 c10 k10
  have B10 := F10.binds (ps := ["box", "some"]) fun _ _ _ _ _ _ us hl => match us, hl with | [_, _], _ => rfl
  have F11 := fun_mk (st := s11) l11 c11 k11
  have B11 := F11.binds (ps := ["box", "many"]) fun _ _ _ _ _ _ us hl => match us, hl with | [_, _], _ => rfl
  have F12 := fun_mk (st := s12) l12 c12 k12
  have B12 := F12.binds (ps := ["box", "many"]) fun _ _ _ _ _ _ us hl => match us, hl with | [_, _], _ => rfl
  have F13 := fun_mk (st := s13) l13 c13 k13
  have B13 := F13.binds (ps := ["box", "w", "deep", "least"]) fun _ _ _ _ _ _ us hl => match us, hl with | [_, _, _, _], _ => rfl
  have F14 := fun_mk (st := s14) l14 c14 k14
  have B14 := F14.binds (ps := ["box", "w", "word", "pairs"]) fun _ _ _ _ _ _ us hl => match us, hl with | [_, _, _, _], _ => rfl
  have F15 := fun_mk (st := s15) l15 c15 k15
  have B15 := F15.binds (ps := ["box", "w", "deep"]) fun _ _ _ _ _ _ us hl => match us, hl with | [_, _, _], _ => rfl
  have F16 := fun_mk (st := s16) l16 c16 k16
  have B16 := F16.binds (ps := ["box", "many"]) fun _ _ _ _ _ _ us hl => match us, hl with | [_, _], _ => rfl
  have F17 := fun_mk (st := s17) l17 c17 k17
  have B17 := F17.binds (ps := ["kind"]) fun _ _ _ _ _ _ us hl => match us, hl with | [_], _ => rfl
  have F18 := fun_mk (st := s18) l18 c18 k18
  have B18 := F18.binds (ps := ["box", "w", "high"]) fun _ _ _ _ _ _ us hl => match us, hl with | [_, _, _], _ => rfl
  have F19 := fun_mk (st := s19) l19 c19 k19
  have B19 := F19.binds (ps := ["kind", "opens"]) fun _ _ _ _ _ _ us hl => match us, hl with | [_, _], _ => rfl
  have F20 := fun_mk (st := s20) l20 c20 k20
  have B20 := F20.binds (ps := ["box", "w"]) fun _ _ _ _ _ _ us hl => match us, hl with | [_, _], _ => rfl
  have F21 := fun_mk (st := s21) l21 c21 k21
  have B21 := F21.binds (ps := ["box"]) fun _ _ _ _ _ _ us hl => match us, hl with | [_], _ => rfl
  have F22 := fun_mk (st := s22) l22 c22 k22
  have B22 := F22.binds (ps := ["script"]) fun _ _ _ _ _ _ us hl => match us, hl with | [_], _ => rfl
  letI : Tb := tbOf K tT
  have Z : Txt w K mg (fun j => [f0, f1, f2, f3, f4, f5, f6, f7, f8, f9, f10, f11, f12, f13, f14, f15, f16, f17, f18, f19, f20, f21, fl].getD j 0) (fun j => [PySem.W.fnOf "folded" "folded" (defArgs s0) (defBody s0) (defScope s0) .none kV0 dc0 pm0 an0 cd0 ct0, PySem.W.fnOf "kind_parts" "kind_parts" (defArgs s1) (defBody s1) (defScope s1) .none kV1 dc1 pm1 an1 cd1 ct1, PySem.W.fnOf "with_kinds" "with_kinds" (defArgs s2) (defBody s2) (defScope s2) .none kV2 dc2 pm2 an2 cd2 ct2, PySem.W.fnOf "opened" "opened" (defArgs s3) (defBody s3) (defScope s3) .none kV3 dc3 pm3 an3 cd3 ct3, PySem.W.fnOf "has_own" "has_own" (defArgs s4) (defBody s4) (defScope s4) .none kV4 dc4 pm4 an4 cd4 ct4, PySem.W.fnOf "unsealed" "unsealed" (defArgs s5) (defBody s5) (defScope s5) .none kV5 dc5 pm5 an5 cd5 ct5, PySem.W.fnOf "_law_box" "_law_box" (defArgs s6) (defBody s6) (defScope s6) .none kV6 dc6 pm6 an6 cd6 ct6, PySem.W.fnOf "_law_take" "_law_take" (defArgs s7) (defBody s7) (defScope s7) .none kV7 dc7 pm7 an7 cd7 ct7, PySem.W.fnOf "_law_folded" "_law_folded" (defArgs s8) (defBody s8) (defScope s8) .none kV8 dc8 pm8 an8 cd8 ct8, PySem.W.fnOf "_law_same" "_law_same" (defArgs s9) (defBody s9) (defScope s9) .none kV9 dc9 pm9 an9 cd9 ct9, PySem.W.fnOf "_law_of" "_law_of" (defArgs s10) (defBody s10) (defScope s10) .none kV10 dc10 pm10 an10 cd10 ct10, PySem.W.fnOf "_law_names" "_law_names" (defArgs s11) (defBody s11) (defScope s11) .none kV11 dc11 pm11 an11 cd11 ct11, PySem.W.fnOf "_law_world" "_law_world" (defArgs s12) (defBody s12) (defScope s12) .none kV12 dc12 pm12 an12 cd12 ct12, PySem.W.fnOf "_law_pairs" "_law_pairs" (defArgs s13) (defBody s13) (defScope s13) .none kV13 dc13 pm13 an13 cd13 ct13, PySem.W.fnOf "_law_rest" "_law_rest" (defArgs s14) (defBody s14) (defScope s14) .none kV14 dc14 pm14 an14 cd14 ct14, PySem.W.fnOf "_law_kind" "_law_kind" (defArgs s15) (defBody s15) (defScope s15) .none kV15 dc15 pm15 an15 cd15 ct15, PySem.W.fnOf "_law_open_world" "_law_open_world" (defArgs s16) (defBody s16) (defScope s16) .none kV16 dc16 pm16 an16 cd16 ct16, PySem.W.fnOf "_law_size" "_law_size" (defArgs s17) (defBody s17) (defScope s17) .none kV17 dc17 pm17 an17 cd17 ct17, PySem.W.fnOf "_law_small" "_law_small" (defArgs s18) (defBody s18) (defScope s18) .none kV18 dc18 pm18 an18 cd18 ct18, PySem.W.fnOf "_law_opened" "_law_opened" (defArgs s19) (defBody s19) (defScope s19) .none kV19 dc19 pm19 an19 cd19 ct19, PySem.W.fnOf "_law_bare" "_law_bare" (defArgs s20) (defBody s20) (defScope s20) .none kV20 dc20 pm20 an20 cd20 ct20, PySem.W.fnOf "_law_right" "_law_right" (defArgs s21) (defBody s21) (defScope s21) .none kV21 dc21 pm21 an21 cd21 ct21, PySem.W.fnOf "law" "law" (defArgs s22) (defBody s22) (defScope s22) .none kV22 dc22 pm22 an22 cd22 ct22].getD j (PySem.W.fnOf "folded" "folded" (defArgs s0) (defBody s0) (defScope s0) .none kV0 dc0 pm0 an0 cd0 ct0)) := {
    F0 := F0, B0 := B0, M0 := PySem.W.mg_of X G a0,
    F1 := F1, B1 := B1, M1 := PySem.W.mg_of X G a1,
    F2 := F2, B2 := B2, M2 := PySem.W.mg_of X G a2,
    F3 := F3, B3 := B3, M3 := PySem.W.mg_of X G a3,
    F4 := F4, B4 := B4, M4 := PySem.W.mg_of X G a4,
    F5 := F5, B5 := B5, M5 := PySem.W.mg_of X G a5,
    F6 := F6, B6 := B6, M6 := PySem.W.mg_of X G a6,
    F7 := F7, B7 := B7, M7 := PySem.W.mg_of X G a7,
    F8 := F8, B8 := B8, M8 := PySem.W.mg_of X G a8,
    F9 := F9, B9 := B9, M9 := PySem.W.mg_of X G a9,
    F10 := F10, B10 := B10, M10 := PySem.W.mg_of X G a10,
    F11 := F11, B11 := B11, M11 := PySem.W.mg_of X G a11,
    F12 := F12, B12 := B12, M12 := PySem.W.mg_of X G a12,
    F13 := F13, B13 := B13, M13 := PySem.W.mg_of X G a13,
    F14 := F14, B14 := B14, M14 := PySem.W.mg_of X G a14,
    F15 := F15, B15 := B15, M15 := PySem.W.mg_of X G a15,
    F16 := F16, B16 := B16, M16 := PySem.W.mg_of X G a16,
    F17 := F17, B17 := B17, M17 := PySem.W.mg_of X G a17,
    F18 := F18, B18 := B18, M18 := PySem.W.mg_of X G a18,
    F19 := F19, B19 := B19, M19 := PySem.W.mg_of X G a19,
    F20 := F20, B20 := B20, M20 := PySem.W.mg_of X G a20,
    F21 := F21, B21 := B21, M21 := PySem.W.mg_of X G a21,
    F22 := F22, B22 := B22, M22 := PySem.W.mg_of X G a22,
    zabs := PySem.W.mg_none_of X G zabs,
    zall := PySem.W.mg_none_of X G zall,
    zbool := PySem.W.mg_none_of X G zbool,
    zdict := PySem.W.mg_none_of X G zdict,
    zdivmod := PySem.W.mg_none_of X G zdivmod,
    zenumerate := PySem.W.mg_none_of X G zenumerate,
    zint := PySem.W.mg_none_of X G zint,
    zisinstance := PySem.W.mg_none_of X G zisinstance,
    zlen := PySem.W.mg_none_of X G zlen,
    zlist := PySem.W.mg_none_of X G zlist,
    zmax := PySem.W.mg_none_of X G zmax,
    zrange := PySem.W.mg_none_of X G zrange,
    zrepr := PySem.W.mg_none_of X G zrepr,
    zsorted := PySem.W.mg_none_of X G zsorted,
    zstr := PySem.W.mg_none_of X G zstr,
    zsum := PySem.W.mg_none_of X G zsum,
    ztuple := PySem.W.mg_none_of X G ztuple,
    zzip := PySem.W.mg_none_of X G zzip,
    A1 := (gf_of a1).symm }
  exact ⟨PySem.W.fnOf "law" "law" (defArgs s22) (defBody s22) (defScope s22) .none kV22 dc22 pm22 an22 cd22 ct22, fun s v => .of_eq rfl, fun base _ _ TB => by
    exact ((all_ok ⟨cT, qT, TB⟩ Z 102).f22)⟩
end
theorem walk {l : PySem.W.OpenLaw} {q : Program} {loose : List Str} {XP : (Str → Option Value) → Heap → Prop} {YP : World → Heap → Prop} {d : DefRec} {K : Params → PySem.W.Frag} (hn : l.most = some 63) (hdf : d.params.defaults = [])
    (hY : ∀ (w : World) (h : Heap), YP w h → (K w.params).In h)
    (F : ∀ (w : World) (mg : Str → Option Value) (fa : Addr) (h : Heap), (K w.params).In h → h.Ns mainGlobals mg → mg d.name = some (.ref fa) →
      ∃ (xt : Str) (dt : DefRec) (c tb : Addr), (recsOf q).find? (fun e => e.name == xt) = some dt ∧ PySem.W.tabIn (K w.params) xt = some (c, tb) ∧ (K w.params).lookup tb = none ∧
      ∃ fd : FuncData, (∀ (s : Shared) (u : Value), BindsTo s fd ⟨[u], []⟩ [("script", u)]) ∧ ∀ base : Heap, (K w.params).In base → base.Ns mainGlobals mg → TabB base mg c tb → FnG l.prog w (K w.params) mg base 102 fa fd ["script"] (liM (K w.params) (@SP (tbOf (K w.params) tb) 102 22))) :
    PySem.W.WalkO q loose XP YP l.row.toRowW d [] (fun f vs => PySem.call f vs) :=
  walk_ofGT (n := 63) (k := 102) (x := "script") (sp := fun w tb => liM (K w.params) (@SP (tbOf (K w.params) tb) 102 22)) hn (by decide) hdf ⟨rfl, by decide, by decide⟩ hY fun w mg fa h k1 k2 k3 => by
    obtain ⟨xt, dt, c, tb, h1, h2, h3, fd, hb, hF⟩ := F w mg fa h k1 k2 k3
    refine ⟨fd, xt, dt, c, tb, h1, h2, h3, hb, fun H a ns hl hO hT hS => ?_, hF⟩
    have hc : SqC (K w.params) H a (ns.map V.int) := by
      rcases hS with (h | ⟨o, h⟩) | h
      · rcases hO a with z | z | ⟨o, xs, z⟩
        · rw [h] at z; cases z
        · rw [z, hT] at h; cases h
        · rw [h] at z; cases z
      · exact .inl ⟨o, h⟩
      · exact .inr h
    have hr : ∀ ns : List Int, Rps (K w.params) H (ns.map V.int) (ns.map T.int) := by
      intro ns
      induction ns with
      | nil => rfl
      | cons n r ih => exact ⟨_, _, rfl, rfl, ih⟩
    letI : Tb := tbOf (K w.params) tb
    refine ⟨[.cl (ns.map T.int)], fun b => if b = tb then some (.tab "opened.<locals>.<lambda>") else none, fun t _ => t = .bl true, ?_, fun b c e => ?_, law_ok (k := 0) (by unfold TabG; rw [lam_qual]; exact if_pos rfl) fun _ => rfl, fun t G' H' v e _ _ r => by subst e; exact r⟩
    · exact ⟨_, [], rfl, ⟨a, _, rfl, hc, by rw [List.length_map]; have := sizeLine_eq; omega, hr ns⟩, rfl⟩
    · dsimp only at e
      by_cases y : b = tb
      · rw [if_pos y] at e
        cases e
        rw [y]
        exact LamX.TabS.nil hT
      · rw [if_neg y] at e; cases e
end Lw
open PySem PySem.W PyProof.Rows
set_option maxRecDepth 100000 in
set_option maxHeartbeats 0 in
theorem PySem.Challenge.cw_sealedkinds_k03_sealed_kinds_opened_holds : PySem.Challenge.rw_sealedkinds_k03_sealed_kinds_opened.Holds := by
  w_on; o_law; k_head; (case hw => w_witness2)
  k_fill
  refine Lw.walk (l := PySem.Challenge.rw_sealedkinds_k03_sealed_kinds_opened) rfl rfl (fun w h Y => PySem.W.km_in_of Y) ?F
  case F =>
    intro w mg fa h KX G hmg
    refine' ⟨"opened", _, 35, 33, ?dt, ?tab, ?lt, ?rest⟩
    (case dt => rfl)
    (case tab => kernel_rfl)
    (case lt => kernel_rfl)
    (case rest =>
    refine' Lw.all_mk KX G hmg ?a0 ?l0 ?c0 ?k0 ?a1 ?l1 ?c1 ?k1 ?a2 ?l2 ?c2 ?k2 ?a3 ?l3 ?c3 ?k3 ?a4 ?l4 ?c4 ?k4 ?a5 ?l5 ?c5 ?k5 ?a6 ?l6 ?c6 ?k6 ?a7 ?l7 ?c7 ?k7 ?a8 ?l8 ?c8 ?k8 ?a9 ?l9 ?c9 ?k9 ?a10 ?l10 ?c10 ?k10 ?a11 ?l11 ?c11 ?k11 ?a12 ?l12 ?c12 ?k12 ?a13 ?l13 ?c13 ?k13 ?a14 ?l14 ?c14 ?k14 ?a15 ?l15 ?c15 ?k15 ?a16 ?l16 ?c16 ?k16 ?a17 ?l17 ?c17 ?k17 ?a18 ?l18 ?c18 ?k18 ?a19 ?l19 ?c19 ?k19 ?a20 ?l20 ?c20 ?k20 ?a21 ?l21 ?c21 ?k21 ?a22 ?l22 ?c22 ?k22 ?zabs ?zall ?zbool ?zdict ?zdivmod ?zenumerate ?zint ?zisinstance ?zlen ?zlist ?zmax ?zrange ?zrepr ?zsorted ?zstr ?zsum ?ztuple ?zzip ?qT
    (case a0 => k_is)
    (case l0 => k_is)
    (case c0 => k_is)
    (case k0 => k_is)
    (case a1 => k_is)
    (case l1 => k_is)
    (case c1 => k_is)
    (case k1 => k_is)
    (case a2 => k_is)
    (case l2 => k_is)
    (case c2 => k_is)
    (case k2 => k_is)
    (case a3 => k_is)
    (case l3 => k_is)
    (case c3 => k_is)
    (case k3 => k_is)
    (case a4 => k_is)
    (case l4 => k_is)
    (case c4 => k_is)
    (case k4 => k_is)
    (case a5 => k_is)
    (case l5 => k_is)
    (case c5 => k_is)
    (case k5 => k_is)
    (case a6 => k_is)
    (case l6 => k_is)
    (case c6 => k_is)
    (case k6 => k_is)
    (case a7 => k_is)
    (case l7 => k_is)
    (case c7 => k_is)
    (case k7 => k_is)
    (case a8 => k_is)
    (case l8 => k_is)
    (case c8 => k_is)
    (case k8 => k_is)
    (case a9 => k_is)
    (case l9 => k_is)
    (case c9 => k_is)
    (case k9 => k_is)
    (case a10 => k_is)
    (case l10 => k_is)
    (case c10 => k_is)
    (case k10 => k_is)
    (case a11 => k_is)
    (case l11 => k_is)
    (case c11 => k_is)
    (case k11 => k_is)
    (case a12 => k_is)
    (case l12 => k_is)
    (case c12 => k_is)
    (case k12 => k_is)
    (case a13 => k_is)
    (case l13 => k_is)
    (case c13 => k_is)
    (case k13 => k_is)
    (case a14 => k_is)
    (case l14 => k_is)
    (case c14 => k_is)
    (case k14 => k_is)
    (case a15 => k_is)
    (case l15 => k_is)
    (case c15 => k_is)
    (case k15 => k_is)
    (case a16 => k_is)
    (case l16 => k_is)
    (case c16 => k_is)
    (case k16 => k_is)
    (case a17 => k_is)
    (case l17 => k_is)
    (case c17 => k_is)
    (case k17 => k_is)
    (case a18 => k_is)
    (case l18 => k_is)
    (case c18 => k_is)
    (case k18 => k_is)
    (case a19 => k_is)
    (case l19 => k_is)
    (case c19 => k_is)
    (case k19 => k_is)
    (case a20 => k_is)
    (case l20 => k_is)
    (case c20 => k_is)
    (case k20 => k_is)
    (case a21 => k_is)
    (case l21 => k_is)
    (case c21 => k_is)
    (case k21 => k_is)
    (case a22 => k_is)
    (case l22 => k_is)
    (case c22 => k_is)
    (case k22 => k_is)
    (case zabs => k_is)
    (case zall => k_is)
    (case zbool => k_is)
    (case zdict => k_is)
    (case zdivmod => k_is)
    (case zenumerate => k_is)
    (case zint => k_is)
    (case zisinstance => k_is)
    (case zlen => k_is)
    (case zlist => k_is)
    (case zmax => k_is)
    (case zrange => k_is)
    (case zrepr => k_is)
    (case zsorted => k_is)
    (case zstr => k_is)
    (case zsum => k_is)
    (case ztuple => k_is)
    (case zzip => k_is)
    (case qT => rfl)
    )

