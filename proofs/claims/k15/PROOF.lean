import PyProof.Rows.All
import Wide.All
import OpenK.AllK
import Wide.FinOn
import HandS.ForMost
import HandS.TupAny
import HandS.Deep
import HandS.Wide
import HandS.Flow
import HandS.Style
import KE.GoesZip
import KE.GoesEnum
import KE.GoesEnumKw
import HandS.Rev
import HandS.IsInst
import HandS.SetKeys
import PyProof.StrOps2
import HandS.Small
import HandS.More
import HandS.Text
import HandS.RaiseMore
import KE.DataMinMax
import HandS.StrMore
import PyProof.ReprRoads
import HandS.Ends
import HandS.Strs
import HandS.Dict
import PyProof.Rows.CallKw2
import PySem.Challenge.RW_sealedkinds_k15_names_not_bound
set_option Elab.async false
set_option linter.all false
set_option maxRecDepth 100000
namespace Mi
open PySem L2

inductive T where
  | non
  | bl (b : Bool)
  | int (i : Int)
  | str (x : Str)
  | ty (n : String)
  | ref (a : Addr)
  | tup (ts : List T)
  /-- a list that never changes: the script, a module's constant -/
  | cl (ts : List T)

inductive C where
  | lst (ts : List T)
  | dK (kvs : List (Key × T))
  | dT (kvs : List (List Key × T))

abbrev Gp := Addr → Option C
abbrev Env := List (Option T)
def put (G : Gp) (a : Addr) (c : C) : Gp := fun b => if b = a then some c else G b
theorem put_same {G : Gp} {a : Addr} {c : C} : put G a c a = some c := by unfold put; rw [if_pos rfl]
theorem put_ne {G : Gp} {a b : Addr} {c : C} (h : b ≠ a) : put G a c b = G b := by unfold put; rw [if_neg h]
theorem put_put {G : Gp} {a : Addr} {c d : C} : put (put G a c) a d = put G a d := by
  funext b; unfold put; split <;> rfl
def Sub (G1 G : Gp) : Prop := ∀ a c, G1 a = some c → G a = some c
def SubE (r1 r : Env) : Prop := r1.length = r.length ∧ ∀ (i : Nat) t, r1[i]? = some (some t) → r[i]? = some (some t)
theorem Sub.refl (G : Gp) : Sub G G := fun _ _ h => h
theorem Sub.trans {A B D : Gp} (h : Sub A B) (k : Sub B D) : Sub A D := fun a c e => k a c (h a c e)
theorem SubE.refl (r : Env) : SubE r r := ⟨rfl, fun _ _ h => h⟩

/-! ### what stands for what -/
/-- a list that is read alone -/
def SqC (K : PySem.W.Frag) (H : Hp) (a : Addr) (xs : List V) : Prop :=
  (∃ o, H a = some (.frz o (.lst xs))) ∨
    ∃ (o : Obj) (its : Array Value) (n : Nat), K.lookup a = some o ∧ o.cls = .type "list" ∧ o.dict = none ∧ o.data = .seq its n ∧ its.size ≤ sizeLine ∧ Vals xs its.toList
theorem SqC.seq {K : PySem.W.Frag} {H : Hp} {a : Addr} {xs : List V} (h : SqC K H a xs) : SqL K H a xs := by
  rcases h with h | h
  · exact .inl (.inr h)
  · exact .inr h
mutual
def Rp (K : PySem.W.Frag) (H : Hp) (v : V) : T → Prop
  | .non => v = .non
  | .bl b => v = .bl b
  | .int i => v = .int i
  | .str x => v = .str x
  | .ty n => v = .ty n
  | .ref a => v = .ref a
  | .tup ts => ∃ p vs, v = .ref p ∧ H p = some (.tup vs) ∧ ts.length ≤ sizeLine ∧ Rps K H vs ts
  | .cl ts => ∃ p vs, v = .ref p ∧ SqC K H p vs ∧ ts.length ≤ sizeLine ∧ Rps K H vs ts
def Rps (K : PySem.W.Frag) (H : Hp) (vs : List V) : List T → Prop
  | [] => vs = []
  | t :: ts => ∃ v r, vs = v :: r ∧ Rp K H v t ∧ Rps K H r ts
end
def Le (H H' : Hp) : Prop := (∀ b xs, H b = some (.tup xs) → H' b = some (.tup xs)) ∧ (∀ b o xs, H b = some (.frz o (.tup xs)) → H' b = some (.frz o (.tup xs))) ∧
  (∀ b o xs, H b = some (.frz o (.lst xs)) → H' b = some (.frz o (.lst xs)))
theorem Le.refl (H : Hp) : Le H H := ⟨fun _ _ h => h, fun _ _ _ h => h, fun _ _ _ h => h⟩
theorem Le.trans {A B D : Hp} (h : Le A B) (k : Le B D) : Le A D := ⟨fun b xs e => k.1 b xs (h.1 b xs e), fun b o xs e => k.2.1 b o xs (h.2.1 b o xs e), fun b o xs e => k.2.2 b o xs (h.2.2 b o xs e)⟩
theorem Le.sqc {K : PySem.W.Frag} {H H' : Hp} {a : Addr} {xs : List V} (e : Le H H') (h : SqC K H a xs) : SqC K H' a xs := by
  rcases h with ⟨o, h⟩ | h
  · exact .inl ⟨o, e.2.2 _ _ _ h⟩
  · exact .inr h
theorem Le.seq {K : PySem.W.Frag} {H H' : Hp} {a : Addr} {xs : List V} (e : Le H H') (h : SqT K H a xs) : SqT K H' a xs := by
  rcases h with (h | ⟨o, h⟩) | h
  · exact .inl (.inl (e.1 _ _ h))
  · exact .inl (.inr ⟨o, e.2.1 _ _ _ h⟩)
  · exact .inr h
mutual
theorem Rp.le {K : PySem.W.Frag} {H H' : Hp} (e : Le H H') : ∀ {v : V} {t : T}, Rp K H v t → Rp K H' v t
  | v, .non, h => h
  | v, .bl _, h => h
  | v, .int _, h => h
  | v, .str _, h => h
  | v, .ty _, h => h
  | v, .ref _, h => h
  | v, .tup ts, h => by
    obtain ⟨p, vs, e1, h1, hz, h2⟩ := h
    exact ⟨p, vs, e1, e.1 _ _ h1, hz, Rps.le e h2⟩
  | v, .cl ts, h => by
    obtain ⟨p, vs, e1, h1, hz, h2⟩ := h
    exact ⟨p, vs, e1, e.sqc h1, hz, Rps.le e h2⟩
theorem Rps.le {K : PySem.W.Frag} {H H' : Hp} (e : Le H H') : ∀ {vs : List V} {ts : List T}, Rps K H vs ts → Rps K H' vs ts
  | vs, [], h => h
  | vs, t :: ts, h => by
    obtain ⟨v, r, e1, h1, h2⟩ := h
    exact ⟨v, r, e1, Rp.le e h1, Rps.le e h2⟩
end
theorem Rp.tupSq {K : PySem.W.Frag} {H : Hp} {v : V} {ts : List T} (h : Rp K H v (.tup ts)) : ∃ p vs, v = .ref p ∧ SqT K H p vs ∧ ts.length ≤ sizeLine ∧ Rps K H vs ts := by
  obtain ⟨p, vs, e, h1, hz, h2⟩ := h
  exact ⟨p, vs, e, SqT.of h1, hz, h2⟩
section
variable {K : PySem.W.Frag} {H H' : Hp}
theorem Rps.length : ∀ {vs : List V} {ts : List T}, Rps K H vs ts → vs.length = ts.length
  | vs, [], h => by cases h; rfl
  | vs, t :: ts, h => by
    obtain ⟨v, r, e1, _, h2⟩ := h
    rw [e1, List.length_cons, List.length_cons, Rps.length h2]
theorem Rps.get : ∀ {vs : List V} {ts : List T} {i : Nat} {t : T}, Rps K H vs ts → ts[i]? = some t → ∃ v, vs[i]? = some v ∧ Rp K H v t
  | vs, [], i, t, _, e => by simp at e
  | vs, t :: ts, 0, u, h, e => by
    obtain ⟨v, r, e1, h1, h2⟩ := h
    simp at e; subst e; subst e1
    exact ⟨v, rfl, h1⟩
  | vs, t :: ts, i + 1, u, h, e => by
    obtain ⟨v, r, e1, h1, h2⟩ := h
    subst e1
    obtain ⟨w, a, b⟩ := Rps.get (i := i) h2 (by simpa using e)
    exact ⟨w, by simpa using a, b⟩
theorem Rps.append : ∀ {vs ws : List V} {ts us : List T}, Rps K H vs ts → Rps K H ws us → Rps K H (vs ++ ws) (ts ++ us)
  | vs, ws, [], us, h, k => by cases h; exact k
  | vs, ws, t :: ts, us, h, k => by
    obtain ⟨v, r, e1, h1, h2⟩ := h
    subst e1
    exact ⟨v, r ++ ws, rfl, h1, Rps.append h2 k⟩
theorem Rps.one {v : V} {t : T} (h : Rp K H v t) : Rps K H [v] [t] := ⟨v, [], rfl, h, rfl⟩
theorem Rps.two {v w : V} {t u : T} (h : Rp K H v t) (k : Rp K H w u) : Rps K H [v, w] [t, u] := ⟨v, [w], rfl, h, w, [], rfl, k, rfl⟩
theorem Rps.take : ∀ {vs : List V} {ts : List T} (n : Nat), Rps K H vs ts → Rps K H (vs.take n) (ts.take n)
  | vs, ts, 0, _ => by show _ = _; simp
  | vs, [], n + 1, h => by cases h; show _ = _; simp
  | vs, t :: ts, n + 1, h => by
    obtain ⟨v, r, e1, h1, h2⟩ := h
    subst e1
    exact ⟨v, r.take n, rfl, h1, Rps.take n h2⟩
theorem Rps.drop : ∀ {vs : List V} {ts : List T} (n : Nat), Rps K H vs ts → Rps K H (vs.drop n) (ts.drop n)
  | vs, ts, 0, h => h
  | vs, [], n + 1, h => by cases h; show _ = _; simp
  | vs, t :: ts, n + 1, h => by
    obtain ⟨v, r, e1, h1, h2⟩ := h
    subst e1
    exact Rps.drop n h2
theorem Rps.reverse : ∀ {vs : List V} {ts : List T}, Rps K H vs ts → Rps K H vs.reverse ts.reverse
  | vs, [], h => by cases h; show _ = _; simp
  | vs, t :: ts, h => by
    obtain ⟨v, r, e1, h1, h2⟩ := h
    subst e1
    rw [List.reverse_cons, List.reverse_cons]
    exact Rps.append (Rps.reverse h2) (Rps.one h1)
theorem Rps.set : ∀ {vs : List V} {ts : List T} {v : V} {t : T} (n : Nat), Rps K H vs ts → Rp K H v t → Rps K H (vs.set n v) (ts.set n t)
  | vs, [], v, t, n, h, k => by cases h; show _ = _; simp
  | vs, t :: ts, v, u, 0, h, k => by
    obtain ⟨w, r, e1, h1, h2⟩ := h
    subst e1
    exact ⟨v, r, rfl, k, h2⟩
  | vs, t :: ts, v, u, n + 1, h, k => by
    obtain ⟨w, r, e1, h1, h2⟩ := h
    subst e1
    exact ⟨w, r.set n v, rfl, h1, Rps.set n h2 k⟩
theorem Rps.nil_iff {vs : List V} {ts : List T} (h : Rps K H vs ts) : vs = [] ↔ ts = [] := by
  have e := h.length
  constructor
  · rintro rfl; cases ts with
    | nil => rfl
    | cons _ _ => simp at e
  · rintro rfl; cases vs with
    | nil => rfl
    | cons _ _ => simp at e

/-- the pairs of a dict -/
def Rkv {κ : Type} (K : PySem.W.Frag) (H : Hp) (vs : List (κ × V)) (ts : List (κ × T)) : Prop := vs.map (·.1) = ts.map (·.1) ∧ Rps K H (vs.map (·.2)) (ts.map (·.2))
theorem Rkv.le {κ : Type} {vs : List (κ × V)} {ts : List (κ × T)} (e : Le H H') (h : Rkv K H vs ts) : Rkv K H' vs ts := ⟨h.1, h.2.le e⟩

def RCell (K : PySem.W.Frag) (H : Hp) (a : Addr) : C → Prop
  | .lst ts => ∃ vs, H a = some (.lst vs) ∧ Rps K H vs ts
  | .dK kvs => ∃ vs, H a = some (.dK vs) ∧ Rkv K H vs kvs
  | .dT kvs => ∃ vs, H a = some (.dT vs) ∧ Rkv K H vs kvs
def RG (K : PySem.W.Frag) (H : Hp) (G : Gp) : Prop := ∀ a c, G a = some c → RCell K H a c
/-- not a tuple: what may change -/
def NoTup : Option HO → Prop
  | some (.tup _) => False
  | some (.frz _ _) => False
  | _ => True
theorem Le.wr {a : Addr} {o : HO} (h : NoTup (H a)) : Le H (upd H a o) := by
  refine ⟨fun b xs e => ?_, fun b u xs e => ?_, fun b u xs e => ?_⟩
  rotate_left
  · rw [upd_ne]; exact e
    rintro rfl; rw [e] at h; exact h
  · rw [upd_ne]; exact e
    rintro rfl; rw [e] at h; exact h
  · rw [upd_ne]; exact e
    rintro rfl; rw [e] at h; exact h
theorem Le.new {a : Addr} {o : HO} (h : H a = none) : Le H (upd H a o) := Le.wr (by rw [h]; trivial)
theorem seqL_upd {a b : Addr} {o : HO} {xs : List V} (h : SqL K H b xs) (hn : b ≠ a) : SqL K (upd H a o) b xs := by
  rcases h with (h | ⟨u, h⟩) | h
  · exact .inl (.inl (by rw [upd_ne hn]; exact h))
  · exact .inl (.inr ⟨u, by rw [upd_ne hn]; exact h⟩)
  · exact .inr h
theorem RCell.wr {a b : Addr} {o : HO} {c : C} (hn : NoTup (H a)) (ne : b ≠ a) (h : RCell K H b c) : RCell K (upd H a o) b c := by
  have l : Le H (upd H a o) := Le.wr hn
  cases c with
  | lst ts => obtain ⟨vs, e, r⟩ := h; exact ⟨vs, by rw [upd_ne ne]; exact e, r.le l⟩
  | dK kvs => obtain ⟨vs, e, r⟩ := h; exact ⟨vs, by rw [upd_ne ne]; exact e, r.le l⟩
  | dT kvs => obtain ⟨vs, e, r⟩ := h; exact ⟨vs, by rw [upd_ne ne]; exact e, r.le l⟩
/-- a cell of the mini heap is written -/
theorem RG.wr {G : Gp} {a : Addr} {o : HO} {c : C} (g : RG K H G) (hn : NoTup (H a)) (new : RCell K (upd H a o) a c) : RG K (upd H a o) (put G a c) := fun b d e => by
  by_cases hb : b = a
  · subst hb; rw [put_same] at e; cases e; exact new
  · rw [put_ne hb] at e; exact (g b d e).wr hn hb
/-- what isn't in the mini heap is written -/
theorem RG.out {G : Gp} {a : Addr} {o : HO} (g : RG K H G) (hn : NoTup (H a)) (h : G a = none) : RG K (upd H a o) G := fun b d e => by
  have hb : b ≠ a := by rintro rfl; rw [h] at e; cases e
  exact (g b d e).wr hn hb
theorem RCell.there {a : Addr} {c : C} (h : RCell K H a c) : ∃ o, H a = some o ∧ NoTup (some o) := by
  cases c with
  | lst ts => obtain ⟨vs, e, r⟩ := h; exact ⟨_, e, trivial⟩
  | dK kvs => obtain ⟨vs, e, r⟩ := h; exact ⟨_, e, trivial⟩
  | dT kvs => obtain ⟨vs, e, r⟩ := h; exact ⟨_, e, trivial⟩
theorem RG.fresh {G : Gp} {p : Addr} (g : RG K H G) (h : H p = none) : G p = none := by
  cases e : G p with
  | none => rfl
  | some c =>
    obtain ⟨o, z, _⟩ := (g p c e).there
    rw [h] at z; cases z
theorem RG.notup {G : Gp} {p : Addr} {c : C} (g : RG K H G) (h : G p = some c) : NoTup (H p) := by
  obtain ⟨o, z, n⟩ := (g p c h).there
  rw [z]; exact n
theorem RG.sub {G G1 : Gp} (g : RG K H G) (s : Sub G1 G) : RG K H G1 := fun a c e => g a c (s a c e)
def RS (K : PySem.W.Frag) (H : Hp) (σ : St) (r : Env) : Prop := r.length = σ.length ∧ ∀ (i : Nat) (t : T), r[i]? = some (some t) → ∃ v, σ[i]? = some (some v) ∧ Rp K H v t
theorem RS.le {σ : St} {r : Env} (e : Le H H') (h : RS K H σ r) : RS K H' σ r := ⟨h.1, fun i t q => by
  obtain ⟨v, a, b⟩ := h.2 i t q
  exact ⟨v, a, b.le e⟩⟩
theorem RS.set {σ : St} {r : Env} {v : V} {t : T} (i : Nat) (h : RS K H σ r) (k : Rp K H v t) : RS K H (σ.set i (some v)) (r.set i (some t)) := by
  refine ⟨by simpa using h.1, fun j u q => ?_⟩
  by_cases e : i = j
  · subst e
    have hi : i < r.length := by
      have := (List.getElem?_eq_some_iff.mp q).1
      simpa using this
    rw [List.getElem?_set_self hi] at q
    cases q
    exact ⟨v, List.getElem?_set_self (by rw [← h.1]; exact hi), k⟩
  · rw [List.getElem?_set_ne e] at q
    obtain ⟨w, a, b⟩ := h.2 j u q
    exact ⟨w, by rw [List.getElem?_set_ne e]; exact a, b⟩
theorem RS.sub {σ : St} {r r1 : Env} (h : RS K H σ r) (s : SubE r1 r) : RS K H σ r1 := ⟨s.1.trans h.1, fun i t q => h.2 i t (s.2 i t q)⟩
end

/-! ### readings over the mini heap -/
abbrev KT := T → Gp → Prop
abbrev ME := Env → Gp → KT → Prop
abbrev MA := Env → Gp → (List T → Gp → Prop) → Prop
abbrev MT := Env → Gp → (Bool → Gp → Prop) → Prop
structure MEnds where
  nx : Env → Gp → Prop
  rt : KT
  bk : Env → Gp → Prop := fun _ _ => False
  ct : Env → Gp → Prop := fun _ _ => False
abbrev MS := MEnds → Env → Gp → Prop

/-- what a wish over values grants of a wish over the mini heap -/
def Gives (K : PySem.W.Frag) (H : Hp) (R : KT) (Q : VK) : Prop := ∀ t G' H' v, R t G' → Le H H' → RG K H' G' → Rp K H' v t → Q v H'
def liE (K : PySem.W.Frag) (m : ME) : TE := fun σ H Q => ∃ r G R, RS K H σ r ∧ RG K H G ∧ m r G R ∧ Gives K H R Q
def GivesA (K : PySem.W.Frag) (H : Hp) (R : List T → Gp → Prop) (Q : List V → Hp → Prop) : Prop := ∀ t G' H' v, R t G' → Le H H' → RG K H' G' → Rps K H' v t → Q v H'
def liA (K : PySem.W.Frag) (m : MA) : TA := fun σ H Q => ∃ r G R, RS K H σ r ∧ RG K H G ∧ m r G R ∧ GivesA K H R Q
def GivesT (K : PySem.W.Frag) (H : Hp) (R : Bool → Gp → Prop) (Q : Bool → Hp → Prop) : Prop := ∀ b G' H', R b G' → Le H H' → RG K H' G' → Q b H'
def liT (K : PySem.W.Frag) (m : MT) : TT := fun σ H Q => ∃ r G R, RS K H σ r ∧ RG K H G ∧ m r G R ∧ GivesT K H R Q
def GivesN (K : PySem.W.Frag) (H : Hp) (N : Env → Gp → Prop) (Q : St → Hp → Prop) : Prop := ∀ r' G' σ' H', N r' G' → Le H H' → RS K H' σ' r' → RG K H' G' → Q σ' H'
def liS (K : PySem.W.Frag) (m : MS) : TS := fun D σ H => ∃ r G M, RS K H σ r ∧ RG K H G ∧ m M r G ∧ GivesN K H M.nx D.nx ∧ Gives K H M.rt D.rt ∧ GivesN K H M.bk D.bk ∧ GivesN K H M.ct D.ct
theorem Gives.le {K : PySem.W.Frag} {H H' : Hp} {R : KT} {Q : VK} (e : Le H H') (h : Gives K H R Q) : Gives K H' R Q := fun t G' H2 v a b c d => h t G' H2 v a (e.trans b) c d
theorem GivesA.le {K : PySem.W.Frag} {H H' : Hp} {R : List T → Gp → Prop} {Q : List V → Hp → Prop} (e : Le H H') (h : GivesA K H R Q) : GivesA K H' R Q := fun t G' H2 v a b c d => h t G' H2 v a (e.trans b) c d
theorem GivesT.le {K : PySem.W.Frag} {H H' : Hp} {R : Bool → Gp → Prop} {Q : Bool → Hp → Prop} (e : Le H H') (h : GivesT K H R Q) : GivesT K H' R Q := fun t G' H2 a b c => h t G' H2 a (e.trans b) c
theorem GivesN.le {K : PySem.W.Frag} {H H' : Hp} {N : Env → Gp → Prop} {Q : St → Hp → Prop} (e : Le H H') (h : GivesN K H N Q) : GivesN K H' N Q := fun r G' s H2 a b c d => h r G' s H2 a (e.trans b) c d

structure OE (X : Cx) (e : Expr) (m : ME) : Prop where
  ok : PE X e (liE X.K m)
structure OA (X : Cx) (e : List Expr) (m : MA) : Prop where
  ok : PA X e (liA X.K m)
structure OT (X : Cx) (e : Expr) (m : MT) : Prop where
  ok : PT X e (liT X.K m)
structure OW (X : Cx) (e : Expr) (m : MT) : Prop where
  ok : PW X e (liT X.K m)
structure OS (X : Cx) (st : Stmt) (m : MS) : Prop where
  ok : PS X st (liS X.K m)
structure OSs (X : Cx) (st : List Stmt) (m : MS) : Prop where
  ok : PSs X st (liS X.K m)
theorem _root_.L2.PE.imp {X : Cx} {e : Expr} {t t' : TE} (h : PE X e t) (f : ∀ σ H Q, t' σ H Q → t σ H Q) : PE X e t' := ⟨fun pins s σ H Q I q => h.run pins s σ H Q I (f σ H Q q)⟩
theorem _root_.L2.PA.imp {X : Cx} {e : List Expr} {t t' : TA} (h : PA X e t) (f : ∀ σ H Q, t' σ H Q → t σ H Q) : PA X e t' := ⟨fun pos pins s σ H Q I q => h.run pos pins s σ H Q I (f σ H Q q)⟩
theorem _root_.L2.PT.imp {X : Cx} {e : Expr} {t t' : TT} (h : PT X e t) (f : ∀ σ H Q, t' σ H Q → t σ H Q) : PT X e t' := ⟨fun pins s σ H Q I q => h.run pins s σ H Q I (f σ H Q q)⟩
theorem _root_.L2.PW.imp {X : Cx} {e : Expr} {t t' : TT} (h : PW X e t) (f : ∀ σ H Q, t' σ H Q → t σ H Q) : PW X e t' := ⟨fun w pins s σ H Q I q => h.run w pins s σ H Q I (f σ H Q q)⟩
theorem _root_.L2.PS.imp {X : Cx} {e : Stmt} {t t' : TS} (h : PS X e t) (f : ∀ D σ H, t' D σ H → t D σ H) : PS X e t' := ⟨fun pins s σ H D I q => h.run pins s σ H D I (f D σ H q)⟩
theorem _root_.L2.PSs.imp {X : Cx} {e : List Stmt} {t t' : TS} (h : PSs X e t) (f : ∀ D σ H, t' D σ H → t D σ H) : PSs X e t' := ⟨fun pins s σ H D I q => h.run pins s σ H D I (f D σ H q)⟩
theorem _root_.L2.OpR.imp {X : Cx} {f : Value → Value → Sem Value} {r r' : R2} (h : OpR X f r) (k : ∀ x y H Q, r' x y H Q → r x y H Q) : OpR X f r' := fun pins s σ H x y v u Q I a b q => h pins s σ H x y v u Q I a b (k x y H Q q)
theorem _root_.L2.IxR.imp {X : Cx} {r r' : R2} (h : IxR X r) (k : ∀ x y H Q, r' x y H Q → r x y H Q) : IxR X r' := fun a b pins s σ H x y v u Q I rx ry q => h a b pins s σ H x y v u Q I rx ry (k x y H Q q)
theorem _root_.L2.CallR.imp {X : Cx} {f : Value} {r r' : List V → Hp → VK → Prop} (h : CallR X f r) (k : ∀ xs H Q, r' xs H Q → r xs H Q) : CallR X f r' := fun pins s σ H xs us Q I a q => h pins s σ H xs us Q I a (k xs H Q q)
end Mi

set_option Elab.async false
set_option linter.all false
set_option maxRecDepth 100000
namespace Mi
open PySem L2
section
variable {X : Cx} {a b c e : Expr} {es : List Expr} {ma mb mc m : ME} {pos : Pos}

/-! ### names, constants -/
def mVar (i : Nat) : ME := fun r G R => ∃ t, r[i]? = some (some t) ∧ R t G
def mC (t : T) : ME := fun _ G R => R t G
def mNever : ME := fun _ _ _ => False
theorem o_var (i : Nat) {x : Str} {pos : Pos} (h : PE X (.Name x pos) (tVar i)) : OE X (.Name x pos) (mVar i) := ⟨h.imp fun σ H Q q => by
  obtain ⟨r, G, R, hs, hg, ⟨t, e, k⟩, f⟩ := q
  obtain ⟨v, a, b⟩ := hs.2 i t e
  exact ⟨v, a, f t G H v k (Le.refl H) hg b⟩⟩
def flatC : V → Option T
  | .non => some .non
  | .bl b => some (.bl b)
  | .int i => some (.int i)
  | .str x => some (.str x)
  | .ty n => some (.ty n)
  | .ref a => some (.ref a)
  | _ => none
theorem flatC_rp {K : PySem.W.Frag} {H : Hp} {v : V} {t : T} (h : flatC v = some t) : Rp K H v t := by
  cases v <;> first
    | (cases h; exact rfl)
    | cases h
theorem o_c {v : V} {t : T} (h : PE X e (tC v)) (hf : flatC v = some t := by rfl) : OE X e (mC t) := ⟨h.imp fun σ H Q q => by
  obtain ⟨r, G, R, hs, hg, k, f⟩ := q
  exact f t G H v k (Le.refl H) hg (flatC_rp hf)⟩
theorem o_never (h : PE X e (fun _ _ _ => False)) : OE X e mNever := ⟨h.imp fun σ H Q q => by
  obtain ⟨r, G, R, hs, hg, k, f⟩ := q
  exact k⟩

/-! ### operators by values -/
abbrev O2 := T → T → Gp → KT → Prop
def liO2 (K : PySem.W.Frag) (o : O2) : R2 := fun x y H Q => ∃ s t G R, Rp K H x s ∧ Rp K H y t ∧ RG K H G ∧ o s t G R ∧ Gives K H R Q
def mOp (o : O2) (ma mb : ME) : ME := fun r G R => ma r G fun s G1 => mb r G1 fun t G2 => o s t G2 R
theorem two_li {K : PySem.W.Frag} {o : O2} {ma mb : ME} {σ : St} {H : Hp} {Q : VK} (h : liE K (mOp o ma mb) σ H Q) : tOp (liO2 K o) (liE K ma) (liE K mb) σ H Q := by
  obtain ⟨r, G, R, hs, hg, k, f⟩ := h
  refine ⟨r, G, _, hs, hg, k, fun s G1 H1 x k1 l1 g1 r1 => ?_⟩
  refine ⟨r, G1, _, hs.le l1, g1, k1, fun t G2 H2 y k2 l2 g2 r2 => ?_⟩
  exact ⟨s, t, G2, R, r1.le l2, r2, g2, k2, f.le (l1.trans l2)⟩
theorem o_op {op : Operator} {o : O2} (ho : OpR X (binaryOp op) (liO2 X.K o)) (ha : OE X a ma) (hb : OE X b mb) : OE X (.BinOp a op b pos) (mOp o ma mb) :=
  ⟨(pe_op ho ha.ok hb.ok).imp fun _ _ _ q => two_li q⟩
theorem o_ix {o : O2} (ho : IxR X (liO2 X.K o)) (ha : OE X a ma) (hb : OE X b mb) (hs : PlainIx b) : OE X (.Subscript a b pos) (mOp o ma mb) :=
  ⟨(pe_ix ho ha.ok hb.ok hs).imp fun _ _ _ q => two_li q⟩
theorem o_cmp {op : CmpOp} {o : O2} (ho : OpR X (compareOp op) (liO2 X.K o)) (ha : OE X a ma) (hb : OE X b mb) (hm : behindInMarks op b = false := by first | exact nomark _ | rfl) : OE X (.Compare a [op] [b] pos) (mOp o ma mb) :=
  ⟨(pe_cmpR ho ha.ok hb.ok hm).imp fun _ _ _ q => two_li q⟩
/-- a value that is a bool, as a test -/
def mB (m : ME) : MT := fun r G R => m r G fun t G1 => ∃ k, t = .bl k ∧ R k G1
theorem test_li {K : PySem.W.Frag} {m : ME} {σ : St} {H : Hp} {Q : Bool → Hp → Prop} (h : liT K (mB m) σ H Q) : liE K m σ H (fun x H' => ∃ k, x = .bl k ∧ Q k H') := by
  obtain ⟨r, G, R, hs, hg, k, f⟩ := h
  refine ⟨r, G, _, hs, hg, k, fun t G1 H1 x k1 l1 g1 r1 => ?_⟩
  obtain ⟨c, rfl, k2⟩ := k1
  exact ⟨c, r1, f c G1 H1 k2 l1 g1⟩
theorem t_cmp {op : CmpOp} {o : O2} (ho : OpR X (compareOp op) (liO2 X.K o)) (ha : OE X a ma) (hb : OE X b mb) (hm : behindInMarks op b = false := by first | exact nomark _ | rfl) : OT X (.Compare a [op] [b] pos) (mB (mOp o ma mb)) :=
  ⟨(pt_cmpR ho ha.ok hb.ok hm).imp fun _ _ _ q => by
    obtain ⟨r, G, R, hs, hg, k, f⟩ := test_li q
    exact two_li ⟨r, G, R, hs, hg, k, f⟩⟩
theorem t_val (h : OE X e m) (he : ∀ whole, isTrue e X.env whole = (do let v ← whole; standAt e.pos; holding [v] (truthy v)) := by intro _; rfl) : OT X e (mB m) :=
  ⟨(pt_val h.ok he).imp fun _ _ _ q => by
    obtain ⟨r, G, R, hs, hg, k, f⟩ := test_li q
    exact ⟨r, G, R, hs, hg, k, f⟩⟩
/-- a value's truth -/
def truT (G : Gp) : T → Bool → Prop
  | .non, k => k = false
  | .bl b, k => k = b
  | .int i, k => k = (i != 0)
  | .str y, k => y.length ≤ sizeLine ∧ k = ((y.length : Int) != 0)
  | .tup ts, k => k = !ts.isEmpty
  | .cl ts, k => k = !ts.isEmpty
  | .ref a, k => (∃ ts, G a = some (.lst ts) ∧ k = !ts.isEmpty) ∨ ∃ kvs, G a = some (.dK kvs) ∧ k = !kvs.isEmpty
  | _, _ => False
def mTru (m : ME) : MT := fun r G R => m r G fun t G1 => ∃ k, truT G1 t k ∧ R k G1
theorem isEmpty_len {α β : Type} {xs : List α} {ys : List β} (h : xs.length = ys.length) : xs.isEmpty = ys.isEmpty := by
  cases xs <;> cases ys <;> first | rfl | (simp at h)
theorem tru_rp {K : PySem.W.Frag} {H : Hp} {G : Gp} {x : V} {t : T} {k : Bool} (hg : RG K H G) (r : Rp K H x t) (h : truT G t k) : TruV K x H k := by
  cases t with
  | non => cases r; exact h
  | bl b => cases r; exact h
  | int i => cases r; exact h
  | str y => cases r; exact h
  | ty n => exact h.elim
  | tup ts =>
    obtain ⟨p, vs, rfl, hq, hz, rv⟩ := r.tupSq
    exact .inr (.inl ⟨vs, hq, by rw [isEmpty_len rv.length]; exact h⟩)
  | cl ts =>
    obtain ⟨p, vs, rfl, hq, hz, rv⟩ := r
    exact .inl ⟨vs, hq.seq, by rw [isEmpty_len rv.length]; exact h⟩
  | ref p =>
    cases r
    rcases h with ⟨ts, h1, hk⟩ | ⟨kvs, h1, hk⟩
    · obtain ⟨vs, e, rv⟩ := hg _ _ h1
      exact .inl ⟨vs, SqL.of e, by rw [isEmpty_len rv.length]; exact hk⟩
    · obtain ⟨vs, e, rk, rv⟩ := hg _ _ h1
      refine .inr (.inr ⟨vs, e, ?_⟩)
      have hl := congrArg List.length rk
      simp only [List.length_map] at hl
      rw [isEmpty_len hl]
      exact hk
theorem t_tru (h : OE X e m) (he : ∀ whole, isTrue e X.env whole = (do let v ← whole; standAt e.pos; holding [v] (truthy v)) := by intro _; rfl) : OT X e (mTru m) :=
  ⟨(pt_truth h.ok he).imp fun _ H Q q => by
    obtain ⟨r, G, R, hs, hg, k, f⟩ := q
    refine ⟨r, G, _, hs, hg, k, fun t G1 H1 x k1 l1 g1 r1 => ?_⟩
    obtain ⟨c, k2, k3⟩ := k1
    exact ⟨c, tru_rp g1 r1 k2, f c G1 H1 k3 l1 g1⟩⟩

/-! ### and, or, not -/
def tmAnd (t u : MT) : MT := fun r G R => t r G fun c G1 => if c = true then u r G1 R else R false G1
def tmOr (t u : MT) : MT := fun r G R => t r G fun c G1 => if c = true then R true G1 else u r G1 R
def tmNot (t : MT) : MT := fun r G R => t r G fun c G1 => R (!c) G1
variable {tA tB : MT} {rest : List Expr}
theorem w_and1 (h : OT X a tA) : OW X (.BoolOp .And [a] pos) tA := ⟨pw_and1 h.ok⟩
theorem w_or1 (h : OT X a tA) : OW X (.BoolOp .Or [a] pos) tA := ⟨pw_or1 h.ok⟩
theorem w_and (ha : OT X a tA) (hb : OW X (.BoolOp .And (b :: rest) pos) tB) : OW X (.BoolOp .And (a :: b :: rest) pos) (tmAnd tA tB) :=
  ⟨(pw_and ha.ok hb.ok).imp fun σ H Q q => by
    obtain ⟨r, G, R, hs, hg, k, f⟩ := q
    refine ⟨r, G, _, hs, hg, k, fun c G1 H1 k1 l1 g1 => ?_⟩
    cases c with
    | true => exact iteT ⟨r, G1, R, hs.le l1, g1, by simpa using k1, f.le l1⟩
    | false => exact iteF (f false G1 H1 (by simpa using k1) l1 g1)⟩
theorem w_or (ha : OT X a tA) (hb : OW X (.BoolOp .Or (b :: rest) pos) tB) : OW X (.BoolOp .Or (a :: b :: rest) pos) (tmOr tA tB) :=
  ⟨(pw_or ha.ok hb.ok).imp fun σ H Q q => by
    obtain ⟨r, G, R, hs, hg, k, f⟩ := q
    refine ⟨r, G, _, hs, hg, k, fun c G1 H1 k1 l1 g1 => ?_⟩
    cases c with
    | true => exact iteT (f true G1 H1 (by simpa using k1) l1 g1)
    | false => exact iteF ⟨r, G1, R, hs.le l1, g1, by simpa using k1, f.le l1⟩⟩
theorem OW.t (h : OW X e tA) : OT X e tA := ⟨h.ok.pt⟩
theorem t_not (h : OT X a tA) : OT X (.UnaryOp .Not a pos) (tmNot tA) :=
  ⟨(pt_not h.ok).imp fun σ H Q q => by
    obtain ⟨r, G, R, hs, hg, k, f⟩ := q
    exact ⟨r, G, _, hs, hg, k, fun c G1 H1 k1 l1 g1 => f (!c) G1 H1 k1 l1 g1⟩⟩
def mIf (t : MT) (x y : ME) : ME := fun r G R => t r G fun c G1 => if c = true then x r G1 R else y r G1 R
theorem o_if (hc : OT X c tA) (ha : OE X a ma) (hb : OE X b mb) : OE X (.IfExp c a b pos) (mIf tA ma mb) :=
  ⟨(pe_ifExp hc.ok ha.ok hb.ok).imp fun σ H Q q => by
    obtain ⟨r, G, R, hs, hg, k, f⟩ := q
    refine ⟨r, G, _, hs, hg, k, fun c G1 H1 k1 l1 g1 => ?_⟩
    cases c with
    | true => exact iteT ⟨r, G1, R, hs.le l1, g1, by simpa using k1, f.le l1⟩
    | false => exact iteF ⟨r, G1, R, hs.le l1, g1, by simpa using k1, f.le l1⟩⟩
end
end Mi

set_option Elab.async false
set_option linter.all false
set_option maxRecDepth 100000
namespace Mi
open PySem L2
/-- a list by its value -/
def isL (G : Gp) (t : T) (ts : List T) : Prop := t = .cl ts ∨ ∃ a, t = .ref a ∧ G a = some (.lst ts)
theorem isL.seq {K : PySem.W.Frag} {H : Hp} {G : Gp} {t : T} {ts : List T} {v : V} (hg : RG K H G) (h : isL G t ts) (r : Rp K H v t) : ∃ a vs, v = .ref a ∧ SqL K H a vs ∧ Rps K H vs ts := by
  rcases h with rfl | ⟨a, rfl, h⟩
  · obtain ⟨p, vs, e, h1, hz, h2⟩ := r
    exact ⟨p, vs, e, h1.seq, h2⟩
  · obtain ⟨vs, e, q⟩ := hg _ _ h
    cases r
    exact ⟨a, vs, rfl, SqL.of e, q⟩

/-! ### data -/
mutual
inductive Dt (G : Gp) : T → PyData → Prop
  | non : Dt G .non .none
  | bl (b : Bool) : Dt G (.bl b) (.bool b)
  | int (i : Int) : Dt G (.int i) (.int i)
  | str (x : Str) : Dt G (.str x) (.str x)
  | tup {ts : List T} {ds : List PyData} : DtAll G ts ds → Dt G (.tup ts) (.tuple ds)
  | lst {t : T} {ts : List T} {ds : List PyData} : isL G t ts → DtAll G ts ds → Dt G t (.list ds)
inductive DtAll (G : Gp) : List T → List PyData → Prop
  | nil : DtAll G [] []
  | cons {t : T} {ts : List T} {d : PyData} {ds : List PyData} : Dt G t d → DtAll G ts ds → DtAll G (t :: ts) (d :: ds)
end
section
variable {K : PySem.W.Frag} {H : Hp} {G : Gp}
mutual
theorem Dt.dp (hg : RG K H G) : ∀ (d : PyData) (t : T) (v : V), Dt G t d → Rp K H v t → Dp K H v d
  | _, _, v, .non, r => by cases r; exact .non
  | _, _, v, .bl b, r => by cases r; exact .bl b
  | _, _, v, .int i, r => by cases r; exact .int i
  | _, _, v, .str x, r => by cases r; exact .str x
  | .tuple ds, _, v, .tup h, r => by
    obtain ⟨p, vs, rfl, hq, hz, rv⟩ := r.tupSq
    exact .tup hq (DtAll.dp hg ds _ vs h rv)
  | .list ds, _, v, .lst e h, r => by
    obtain ⟨a, vs, rfl, e, rv⟩ := e.seq hg r
    exact .lst e (DtAll.dp hg ds _ vs h rv)
theorem DtAll.dp (hg : RG K H G) : ∀ (ds : List PyData) (ts : List T) (vs : List V), DtAll G ts ds → Rps K H vs ts → DpAll K H vs ds
  | _, _, vs, .nil, r => by cases r; exact .nil
  | d :: ds, _, vs, .cons h hs, r => by
    obtain ⟨v, q, rfl, r1, r2⟩ := r
    exact .cons (Dt.dp hg d _ v h r1) (DtAll.dp hg ds _ q hs r2)
end
end

/-! ### operators -/
def oAdd : O2
  | .int i, .int j, G, R => R (.int (i + j)) G
  | .str x, .str y, G, R => x.length + y.length ≤ sizeLine ∧ R (.str (x ++ y)) G
  | .tup xs, .tup ys, G, R => xs.length + ys.length ≤ sizeLine ∧ R (.tup (xs ++ ys)) G
  | .ref a, .ref b, G, R => ∃ xs ys, G a = some (.lst xs) ∧ G b = some (.lst ys) ∧ xs.length + ys.length ≤ sizeLine ∧ ∀ p, G p = none → R (.ref p) (put G p (.lst (xs ++ ys)))
  | _, _, _, _ => False

section
variable {K : PySem.W.Frag} {H : Hp} {G : Gp} {R : KT} {Q : VK}
theorem Gives.val (f : Gives K H R Q) (hg : RG K H G) {t : T} {v : V} (k : R t G) (r : Rp K H v t) : Q v H := f t G H v k (Le.refl H) hg r
theorem nt_none {p : Addr} (h : H p = none) : NoTup (H p) := by rw [h]; trivial
theorem Gives.newT (f : Gives K H R Q) (hg : RG K H G) {ts : List T} {vs : List V} {p : Addr} (hp : H p = none) (k : R (.tup ts) G) (r : Rps K H vs ts) (hz : ts.length ≤ sizeLine) : Q (.ref p) (upd H p (.tup vs)) :=
  f (.tup ts) G _ (.ref p) k (Le.new hp) (hg.out (nt_none hp) (hg.fresh hp)) ⟨p, vs, rfl, upd_same, hz, r.le (Le.new hp)⟩
theorem Gives.newC (f : Gives K H R Q) (hg : RG K H G) {c : C} {o : HO} {p : Addr} (hp : H p = none) (k : R (.ref p) (put G p c)) (r : RCell K (upd H p o) p c) : Q (.ref p) (upd H p o) :=
  f (.ref p) (put G p c) _ (.ref p) k (Le.new hp) (hg.wr (nt_none hp) r) rfl
theorem Gives.newL (f : Gives K H R Q) (hg : RG K H G) {ts : List T} {vs : List V} {p : Addr} (hp : H p = none) (k : R (.ref p) (put G p (.lst ts))) (r : Rps K H vs ts) : Q (.ref p) (upd H p (.lst vs)) :=
  f.newC hg hp k ⟨vs, upd_same, r.le (Le.new hp)⟩
/-- a cell is written, and a flat value told -/
theorem Gives.wr (f : Gives K H R Q) (hg : RG K H G) {c c0 : C} {o : HO} {a : Addr} {t : T} {v : V} (ha : G a = some c0) (k : R t (put G a c)) (r : RCell K (upd H a o) a c) (rv : Rp K H v t) : Q v (upd H a o) :=
  f t (put G a c) _ v k (Le.wr (hg.notup ha)) (hg.wr (hg.notup ha) r) (rv.le (Le.wr (hg.notup ha)))
theorem Gives.wrL (f : Gives K H R Q) (hg : RG K H G) {c0 : C} {a : Addr} {ts : List T} {vs : List V} {t : T} {v : V} (ha : G a = some c0) (k : R t (put G a (.lst ts))) (r : Rps K H vs ts) (rv : Rp K H v t) : Q v (upd H a (.lst vs)) :=
  f.wr hg ha k ⟨vs, upd_same, r.le (Le.wr (hg.notup ha))⟩ rv
end
theorem lst_of {K : PySem.W.Frag} {H : Hp} {G : Gp} {a : Addr} {ts : List T} (hg : RG K H G) (h : G a = some (.lst ts)) : ∃ vs, H a = some (.lst vs) ∧ Rps K H vs ts := hg _ _ h
section
variable {X : Cx}
theorem op_oAdd : OpR X (binaryOp .Add) (liO2 X.K oAdd) :=
  (((op_add (X := X)).or op_add_str).or (op_catA.or op_cat)).imp fun x y H Q h => by
    obtain ⟨s, t, G, R, rx, ry, hg, k, f⟩ := h
    cases s with
    | int i => cases t with
      | int j => cases rx; cases ry; exact .inl (.inl ⟨i, j, rfl, rfl, f.val hg k rfl⟩)
      | _ => exact k.elim
    | str i => cases t with
      | str j => cases rx; cases ry; exact .inl (.inr ⟨i, j, rfl, rfl, k.1, f.val hg k.2 rfl⟩)
      | _ => exact k.elim
    | tup xs => cases t with
      | tup ys =>
        have rx0 := rx
        have ry0 := ry
        obtain ⟨p, vs, rfl, h1, z1, r1⟩ := rx.tupSq
        obtain ⟨q, ws, rfl, h2, z2, r2⟩ := ry.tupSq
        refine .inr (.inl ⟨p, q, vs, ws, rfl, rfl, h1, h2, by rw [r1.length, r2.length]; exact k.1, fun e => ?_, fun _ e => ?_, fun _ _ p' hp => ?_⟩)
        · have e1 := r1.nil_iff.mp e
          subst e1
          exact f.val hg k.2 ry0
        · have e1 := r2.nil_iff.mp e
          subst e1
          have k2 : R (.tup (xs ++ [])) G := k.2
          rw [List.append_nil] at k2
          exact f.val hg k2 rx0
        · exact f.newT hg hp k.2 (r1.append r2) (by rw [List.length_append]; exact k.1)
      | _ => exact k.elim
    | ref a => cases t with
      | ref b =>
        obtain ⟨xs, ys, h1, h2, hz, k⟩ := k
        cases rx; cases ry
        obtain ⟨vs, e1, r1⟩ := lst_of hg h1
        obtain ⟨ws, e2, r2⟩ := lst_of hg h2
        exact .inr (.inr ⟨a, b, vs, ws, rfl, rfl, e1, e2, by rw [r1.length, r2.length]; exact hz, fun p hp => f.newL hg hp (k p (hg.fresh hp)) (r1.append r2)⟩)
      | _ => exact k.elim
    | _ => exact k.elim
def oInt (C : Int → Int → Prop) (g : Int → Int → Int) : O2
  | .int i, .int j, G, R => C i j ∧ R (.int (g i j)) G
  | _, _, _, _ => False
theorem oInt_ok {f : Value → Value → Sem Value} {C : Int → Int → Prop} {g : Int → Int → Int} (h : OpR X f (rI C fun i j => .int (g i j))) : OpR X f (liO2 X.K (oInt C g)) :=
  h.imp fun x y H Q h => by
    obtain ⟨s, t, G, R, rx, ry, hg, k, f⟩ := h
    cases s with
    | int i => cases t with
      | int j => cases rx; cases ry; exact ⟨i, j, rfl, rfl, k.1, f.val hg k.2 rfl⟩
      | _ => exact k.elim
    | _ => exact k.elim
abbrev oSub : O2 := oInt (fun _ _ => True) (fun i j => i - j)
theorem op_oSub : OpR X (binaryOp .Sub) (liO2 X.K oSub) := oInt_ok (op_sub.imp fun x y H Q ⟨i, j, a, b, _, q⟩ => ⟨i, j, a, b, q⟩)
abbrev oFdiv : O2 := oInt CDivW (fun i j => i / j)
theorem op_oFdiv : OpR X (binaryOp .FloorDiv) (liO2 X.K oFdiv) := oInt_ok op_fdivW
abbrev oMod : O2 := oInt (fun _ j => 0 < j) (fun i j => i % j)
theorem op_oMod : OpR X (binaryOp .Mod) (liO2 X.K oMod) := oInt_ok op_mod
abbrev oPow : O2 := oInt CPow (fun i j => i ^ j.toNat)
theorem op_oPow : OpR X (binaryOp .Pow) (liO2 X.K oPow) := oInt_ok op_pow
def CMulA (i j : Int) : Prop := CMul i j ∨ CMulW i j
/-- * : ints; a list, a text, a tuple times an int -/
def oMul : O2
  | .int i, .int j, G, R => CMulA i j ∧ R (.int (i * j)) G
  | .ref a, .int k, G, R => ∃ xs, G a = some (.lst xs) ∧ -(2 ^ 63) ≤ k ∧ k < 2 ^ 63 ∧ xs.length * k.toNat ≤ sizeLine ∧ ∀ p, G p = none → R (.ref p) (put G p (.lst (List.replicate k.toNat xs).flatten))
  | _, _, _, _ => False
theorem Rps.rep {K : PySem.W.Frag} {H : Hp} {vs : List V} {ts : List T} (h : Rps K H vs ts) : ∀ n : Nat, Rps K H (List.replicate n vs).flatten (List.replicate n ts).flatten
  | 0 => rfl
  | n + 1 => by
    rw [List.replicate_succ, List.flatten_cons, List.replicate_succ, List.flatten_cons]
    exact h.append (Rps.rep h n)
theorem op_oMul : OpR X (binaryOp .Mult) (liO2 X.K oMul) :=
  ((op_mul (X := X)).or (op_mulW.or op_rep)).imp fun x y H Q h => by
    obtain ⟨s, t, G, R, rx, ry, hg, k, f⟩ := h
    cases s with
    | int i => cases t with
      | int j =>
        cases rx; cases ry
        rcases k.1 with h1 | h1
        · exact .inl ⟨i, j, rfl, rfl, h1, f.val hg k.2 rfl⟩
        · exact .inr (.inl ⟨i, j, rfl, rfl, h1, f.val hg k.2 rfl⟩)
      | _ => exact k.elim
    | ref a => cases t with
      | int j =>
        obtain ⟨xs, h1, h2, h3, hz, k⟩ := k
        cases rx; cases ry
        obtain ⟨vs, e1, r1⟩ := lst_of hg h1
        exact .inr (.inr ⟨a, j, vs, rfl, rfl, e1, h2, h3, by rw [r1.length]; exact hz, fun p hp => f.newL hg hp (k p (hg.fresh hp)) (r1.rep _)⟩)
      | _ => exact k.elim
    | _ => exact k.elim

/-! ### comparisons -/
def oCmpI (g : Int → Int → Bool) : O2
  | .int i, .int j, G, R => R (.bl (g i j)) G
  | _, _, _, _ => False
theorem oCmpI_ok {f : Value → Value → Sem Value} {g : Int → Int → Bool} (h : OpR X f (rI0 fun i j => .bl (g i j))) : OpR X f (liO2 X.K (oCmpI g)) :=
  h.imp fun x y H Q h => by
    obtain ⟨s, t, G, R, rx, ry, hg, k, f⟩ := h
    cases s with
    | int i => cases t with
      | int j => cases rx; cases ry; exact ⟨i, j, rfl, rfl, f.val hg k rfl⟩
      | _ => exact k.elim
    | _ => exact k.elim
abbrev oLt : O2 := oCmpI fun i j => decide (i < j)
abbrev oLe : O2 := oCmpI fun i j => decide (i ≤ j)
abbrev oGt : O2 := oCmpI fun i j => decide (j < i)
abbrev oGe : O2 := oCmpI fun i j => decide (j ≤ i)
theorem op_oLt : OpR X (compareOp .Lt) (liO2 X.K oLt) := oCmpI_ok op_lt
theorem op_oLe : OpR X (compareOp .LtE) (liO2 X.K oLe) := oCmpI_ok op_le
theorem op_oGt : OpR X (compareOp .Gt) (liO2 X.K oGt) := oCmpI_ok op_gt
theorem op_oGe : OpR X (compareOp .GtE) (liO2 X.K oGe) := oCmpI_ok op_ge
def oEq : O2 := fun s t G R => ∃ d e, Dt G s d ∧ Dt G t e ∧ SeqAt.shaped d = true ∧ SeqAt.shaped e = true ∧ R (.bl (PyData.eqv d e)) G
def oNe : O2 := fun s t G R => ∃ d e, Dt G s d ∧ Dt G t e ∧ SeqAt.shaped d = true ∧ SeqAt.shaped e = true ∧ R (.bl (!PyData.eqv d e)) G
theorem op_oEq (hu : X.A.units + 64 < cLine) : OpR X (compareOp .Eq) (liO2 X.K oEq) :=
  (op_eqD hu).imp fun x y H Q h => by
    obtain ⟨s, t, G, R, rx, ry, hg, ⟨d, e, h1, h2, h3, h4, k⟩, f⟩ := h
    exact ⟨d, e, h1.dp hg d s x rx, h2.dp hg e t y ry, h3, h4, f.val hg k rfl⟩
theorem op_oNe (hu : X.A.units + 64 < cLine) : OpR X (compareOp .NotEq) (liO2 X.K oNe) :=
  (op_neD hu).imp fun x y H Q h => by
    obtain ⟨s, t, G, R, rx, ry, hg, ⟨d, e, h1, h2, h3, h4, k⟩, f⟩ := h
    exact ⟨d, e, h1.dp hg d s x rx, h2.dp hg e t y ry, h3, h4, f.val hg k rfl⟩
def T.isN : T → Bool
  | .non => true
  | _ => false
theorem isN_rp {K : PySem.W.Frag} {H : Hp} {x : V} {t : T} (r : Rp K H x t) : decide (x = .non) = t.isN := by
  cases t with
  | tup ts => obtain ⟨p, vs, rfl, _⟩ := r; rfl
  | cl ts => obtain ⟨p, vs, rfl, _⟩ := r; rfl
  | _ => cases r; first | rfl | simp [T.isN]
def oIsN : O2 := fun s t G R => t = .non ∧ R (.bl s.isN) G
def oNotN : O2 := fun s t G R => t = .non ∧ R (.bl (!s.isN)) G
theorem op_oIsN : OpR X (compareOp .Is) (liO2 X.K oIsN) :=
  op_isN.imp fun x y H Q h => by
    obtain ⟨s, t, G, R, rx, ry, hg, ⟨rfl, k⟩, f⟩ := h
    cases ry
    exact ⟨rfl, by rw [isN_rp rx]; exact f.val hg k rfl⟩
theorem op_oNotN : OpR X (compareOp .IsNot) (liO2 X.K oNotN) :=
  op_notN.imp fun x y H Q h => by
    obtain ⟨s, t, G, R, rx, ry, hg, ⟨rfl, k⟩, f⟩ := h
    cases ry
    exact ⟨rfl, by rw [isN_rp rx]; exact f.val hg k rfl⟩

/-! ### in -/
def T.flat : T → Bool
  | .non => true
  | .bl _ => true
  | .int _ => true
  | .str _ => true
  | _ => false
/-- == of flat values -/
def T.eqf : T → T → Bool
  | .non, .non => true
  | .bl a, .bl b => a == b
  | .bl a, .int b => (if a then 1 else 0) == b
  | .int a, .bl b => a == (if b then 1 else 0)
  | .int a, .int b => a == b
  | .str a, .str b => a == b
  | _, _ => false
theorem flat_rp {K : PySem.W.Frag} {H : Hp} {x : V} {t : T} (r : Rp K H x t) (h : t.flat = true) : flatV x = true := by
  cases t <;> first | (cases r; rfl) | cases h
theorem eqf_rp {K : PySem.W.Frag} {H : Hp} {x y : V} {s t : T} (rx : Rp K H x s) (ry : Rp K H y t) (h : s.flat = true) (h2 : t.flat = true) : eqV x y = s.eqf t := by
  cases s <;> first
    | (cases h; done)
    | (cases t <;> first
        | (cases h2; done)
        | (cases rx; cases ry; rfl))
theorem flats_rp {K : PySem.W.Frag} {H : Hp} : ∀ {xs : List V} {ts : List T}, Rps K H xs ts → ts.all T.flat = true → xs.all flatV = true
  | xs, [], r, _ => by cases r; rfl
  | xs, t :: ts, r, h => by
    obtain ⟨v, q, rfl, r1, r2⟩ := r
    rw [List.all_cons, Bool.and_eq_true] at h ⊢
    exact ⟨flat_rp r1 h.1, flats_rp r2 h.2⟩
theorem inV_rp {K : PySem.W.Frag} {H : Hp} {x : V} {s : T} (rx : Rp K H x s) (hs : s.flat = true) : ∀ {xs : List V} {ts : List T}, Rps K H xs ts → ts.all T.flat = true → inV x xs = ts.any fun y => y.eqf s
  | xs, [], r, _ => by cases r; rfl
  | xs, t :: ts, r, h => by
    obtain ⟨v, q, rfl, r1, r2⟩ := r
    rw [List.all_cons, Bool.and_eq_true] at h
    have e := inV_rp rx hs r2 h.2
    unfold inV at e ⊢
    rw [List.any_cons, List.any_cons, e, eqf_rp r1 rx h.1 hs]
/-- what stands in a list or a tuple -/
def isSq (G : Gp) (t : T) (ts : List T) : Prop := t = .tup ts ∨ isL G t ts
theorem isSq.seq {K : PySem.W.Frag} {H : Hp} {G : Gp} {t : T} {ts : List T} {v : V} (hg : RG K H G) (h : isSq G t ts) (r : Rp K H v t) : ∃ a vs, v = .ref a ∧ (SqL K H a vs ∨ SqT K H a vs) ∧ Rps K H vs ts := by
  rcases h with rfl | h
  · obtain ⟨p, vs, e, h1, hz, h2⟩ := r.tupSq
    exact ⟨p, vs, e, .inr h1, h2⟩
  · obtain ⟨a, vs, e, h1, h2⟩ := h.seq hg r
    exact ⟨a, vs, e, .inl h1, h2⟩
def oInF (neg : Bool) : O2 := fun s t G R => ∃ ts, isSq G t ts ∧ s.flat = true ∧ ts.all T.flat = true ∧ R (.bl (if neg then !ts.any fun y => y.eqf s else ts.any fun y => y.eqf s)) G
theorem oInF_ok {op : CmpOp} {neg : Bool} (h : OpR X (compareOp op) (rIn X.K neg)) : OpR X (compareOp op) (liO2 X.K (oInF neg)) :=
  h.imp fun x y H Q h => by
    obtain ⟨s, t, G, R, rx, ry, hg, ⟨ts, h1, h2, h3, k⟩, f⟩ := h
    obtain ⟨a, vs, rfl, hq, rv⟩ := h1.seq hg ry
    refine ⟨a, vs, rfl, hq, flat_rp rx h2, flats_rp rv h3, ?_⟩
    rw [inV_rp rx h2 rv h3]
    exact f.val hg k rfl
theorem op_oInF : OpR X (compareOp .In) (liO2 X.K (oInF false)) := oInF_ok op_in_seq
theorem op_oNotInF : OpR X (compareOp .NotIn) (liO2 X.K (oInF true)) := oInF_ok op_notIn_seq
/-- of data of any depth in a list -/
def oInD (neg : Bool) : O2 := fun s t G R => ∃ d ds, Dt G s d ∧ Dt G t (.list ds) ∧ SeqAt.shaped d = true ∧ SeqAt.shaped (.list ds) = true ∧ R (.bl (if neg then !ds.any fun z => PyData.eqv z d else ds.any fun z => PyData.eqv z d)) G
theorem op_oInD (hu : X.A.units + 65 < cLine) : OpR X (compareOp .In) (liO2 X.K (oInD false)) :=
  (op_inD hu).imp fun x y H Q h => by
    obtain ⟨s, t, G, R, rx, ry, hg, ⟨d, e, h1, h2, h3, h4, k⟩, f⟩ := h
    exact ⟨d, e, h1.dp hg d s x rx, h2.dp hg _ t y ry, h3, h4, f.val hg k rfl⟩
theorem op_oNotInD (hu : X.A.units + 65 < cLine) : OpR X (compareOp .NotIn) (liO2 X.K (oInD true)) :=
  (op_notInD hu).imp fun x y H Q h => by
    obtain ⟨s, t, G, R, rx, ry, hg, ⟨d, e, h1, h2, h3, h4, k⟩, f⟩ := h
    exact ⟨d, e, h1.dp hg d s x rx, h2.dp hg _ t y ry, h3, h4, f.val hg k rfl⟩

/-! ### subscripts -/
def oIx : O2 := fun s t G R => match t with
  | .int i => (∃ ts u, isSq G s ts ∧ atI ts i = some u ∧ R u G) ∨ ∃ z c, s = .str z ∧ z.length ≤ sizeLine ∧ atI z.cps.toList i = some c ∧ R (.str ⟨#[c]⟩) G
  | _ => False
theorem Rps.atI {K : PySem.W.Frag} {H : Hp} {vs : List V} {ts : List T} {i : Int} {u : T} (r : Rps K H vs ts) (h : atI ts i = some u) : ∃ v, L2.atI vs i = some v ∧ Rp K H v u := by
  unfold L2.atI at h ⊢
  rw [r.length]
  cases e : ixN ts.length i with
  | none => rw [e] at h; cases h
  | some j =>
    rw [e] at h
    obtain ⟨v, a, b⟩ := r.get (i := j) (t := u) h
    exact ⟨v, a, b⟩
theorem ix_oIx : IxR X (liO2 X.K oIx) :=
  ix_seq.imp fun x y H Q h => by
    obtain ⟨s, t, G, R, rx, ry, hg, k, f⟩ := h
    cases t with
    | int i =>
      cases ry
      rcases k with ⟨ts, u, h1, h2, k⟩ | ⟨z, c, rfl, hz, h2, k⟩
      · obtain ⟨a, vs, rfl, hq, rv⟩ := h1.seq hg rx
        obtain ⟨v, e, ru⟩ := rv.atI h2
        rcases hq with hq | hq
        · exact .inl ⟨a, vs, i, v, rfl, rfl, hq, e, f.val hg k ru⟩
        · exact .inr (.inl ⟨a, vs, i, v, rfl, rfl, hq, e, f.val hg k ru⟩)
      · cases rx
        exact .inr (.inr ⟨z, i, c, rfl, rfl, hz, h2, f.val hg k rfl⟩)
    | _ => exact k.elim
end
end Mi

set_option Elab.async false
set_option linter.all false
set_option maxRecDepth 100000
namespace Mi
open PySem L2
section
variable {X : Cx} {a b c e : Expr} {es : List Expr} {ma mb mc m : ME} {mas : MA} {pos : Pos} {st : Stmt} {rest body : List Stmt}

/-! ### argument lists, displays -/
def maNil : MA := fun _ G R => R [] G
def maCons (m : ME) (k : MA) : MA := fun r G R => m r G fun t G1 => k r G1 fun ts G2 => R (t :: ts) G2
theorem a_nil : OA X [] maNil := ⟨pa_nil.imp fun σ H Q q => by
  obtain ⟨r, G, R, hs, hg, k, f⟩ := q
  exact f [] G H [] k (Le.refl H) hg rfl⟩
theorem a_cons (h : OE X e m) (h2 : OA X es mas) (hs : starEach (e :: es) X.env = (false, eval e X.env) :: starEach es X.env := by rfl) : OA X (e :: es) (maCons m mas) :=
  ⟨(pa_cons h.ok h2.ok hs).imp fun σ H Q q => by
    obtain ⟨r, G, R, hs, hg, k, f⟩ := q
    refine ⟨r, G, _, hs, hg, k, fun t G1 H1 v k1 l1 g1 r1 => ?_⟩
    refine ⟨r, G1, _, hs.le l1, g1, k1, fun ts G2 H2 vs k2 l2 g2 r2 => ?_⟩
    exact f (t :: ts) G2 H2 (v :: vs) k2 (l1.trans l2) g2 ⟨v, vs, rfl, r1.le l2, r2⟩⟩
def mTup (k : MA) : ME := fun r G R => k r G fun ts G1 => ts.length ≤ sizeLine ∧ R (.tup ts) G1
def mLst (k : MA) : ME := fun r G R => k r G fun ts G1 => ts.length ≤ sizeLine ∧ ∀ p, G1 p = none → R (.ref p) (put G1 p (.lst ts))
theorem o_tup {x1} (h : OA X es mas) : OE X (.Tuple es x1 pos) (mTup mas) := ⟨(pe_tup h.ok).imp fun σ H Q q => by
  obtain ⟨r, G, R, hs, hg, k, f⟩ := q
  refine ⟨r, G, _, hs, hg, k, fun ts G1 H1 vs k1 l1 g1 r1 => ?_⟩
  exact ⟨by rw [r1.length]; exact k1.1, fun p hp => (f.le l1).newT g1 hp k1.2 r1 k1.1⟩⟩
theorem o_lst (h : OA X es mas) : OE X (.List es pos) (mLst mas) := ⟨(pe_lst h.ok).imp fun σ H Q q => by
  obtain ⟨r, G, R, hs, hg, k, f⟩ := q
  refine ⟨r, G, _, hs, hg, k, fun ts G1 H1 vs k1 l1 g1 r1 => ?_⟩
  exact ⟨by rw [r1.length]; exact k1.1, fun p hp => (f.le l1).newL g1 hp (k1.2 p (g1.fresh hp)) r1⟩⟩

/-! ### calls -/
abbrev Sm := List T → Gp → KT → Prop
def liM (K : PySem.W.Frag) (sp : Sm) : Sp := fun vs H Q _ => ∃ ts G R, Rps K H vs ts ∧ RG K H G ∧ sp ts G R ∧ Gives K H R Q
def mCall (sp : Sm) (k : MA) : ME := fun r G R => k r G fun ts G1 => sp ts G1 R
theorem call_li {K : PySem.W.Frag} {sp : Sm} {mas : MA} {σ : St} {H : Hp} {Q : VK} {E : XK} (h : liE K (mCall sp mas) σ H Q) : tCall (liM K sp) [] E (liA K mas) σ H Q := by
  obtain ⟨r, G, R, hs, hg, k, f⟩ := h
  refine ⟨r, G, _, hs, hg, k, fun ts G1 H1 vs k1 l1 g1 r1 => ?_⟩
  exact ⟨ts, G1, R, by rw [List.append_nil]; exact r1, g1, k1, f.le l1⟩
section
variable {CX : CXT} {k : Nat} {f : Addr} {fd : FuncData} {ps : List Str} {sp : Sm} {E : XK} {x : Str} {p : Pos}
theorem o_call (F : FnOk X.prog X.w X.K X.mg X.base CX k f fd ps (liM X.K sp)) (hr : Room k X.A) (hg : Gl X x) (hm : X.mg x = some (.ref f)) (hk : PySem.W.keepIn X.K (.ref f) = true) (hb : Binds X.K fd ps []) (hx : Passes CX X E)
    (ha : OA X (e :: es) mas) (hdb : (x == ("__debug__" : Str)) = false := by decide) (he : starEach (e :: es) X.env = (false, eval e X.env) :: starEach es X.env := by rfl) (hpl : (backTo pos (starEach es X.env)).any (·.1) = false := by rfl) :
    OE X (.Call (.Name x p) (e :: es) [] pos) (mCall sp mas) := ⟨(pe_call (E := E) F hr hg hm hk hb .nil hx ha.ok hdb he hpl).imp fun _ _ _ q => call_li q⟩
theorem o_call0 (F : FnOk X.prog X.w X.K X.mg X.base CX k f fd ps (liM X.K sp)) (hr : Room k X.A) (hg : Gl X x) (hm : X.mg x = some (.ref f)) (hk : PySem.W.keepIn X.K (.ref f) = true) (hb : Binds X.K fd ps []) (hx : Passes CX X E)
    (hdb : (x == ("__debug__" : Str)) = false := by decide) : OE X (.Call (.Name x p) [] [] pos) (mCall sp maNil) := ⟨(pe_call0 (E := E) F hr hg hm hk hb .nil hx hdb).imp fun σ H Q q => by
  obtain ⟨r, G, R, hs, hg, k, f⟩ := q
  exact ⟨[], G, R, rfl, hg, k, f⟩⟩
end
/-- a built-in's call, by values -/
def liC (K : PySem.W.Frag) (o : Sm) : List V → Hp → VK → Prop := fun vs H Q => ∃ ts G R, Rps K H vs ts ∧ RG K H G ∧ o ts G R ∧ Gives K H R Q
theorem cb_li {K : PySem.W.Frag} {o : Sm} {mas : MA} {σ : St} {H : Hp} {Q : VK} (h : liE K (mCall o mas) σ H Q) : tCB (liC K o) (liA K mas) σ H Q := by
  obtain ⟨r, G, R, hs, hg, k, f⟩ := h
  refine ⟨r, G, _, hs, hg, k, fun ts G1 H1 vs k1 l1 g1 r1 => ?_⟩
  exact ⟨ts, G1, R, r1, g1, k1, f.le l1⟩
section
variable {id T' : String} {x : Str} {p : Pos} {o : Sm}
theorem o_callB (hc : CallR X (.builtin id) (liC X.K o)) (hg : Gl X x) (hm : X.mg x = none) (hv : bootBuiltins x = some (.builtin id)) (ha : OA X (e :: es) mas) (hn : x ≠ "__name__" := by decide) (hdb : (x == ("__debug__" : Str)) = false := by decide)
    (he : starEach (e :: es) X.env = (false, eval e X.env) :: starEach es X.env := by rfl) (hpl : (backTo pos (starEach es X.env)).any (·.1) = false := by rfl) : OE X (.Call (.Name x p) (e :: es) [] pos) (mCall o mas) :=
  ⟨(pe_callB hc hg hm hv ha.ok hn hdb he hpl).imp fun _ _ _ q => cb_li q⟩
theorem o_callTy (hc : CallR X (.type T') (liC X.K o)) (hg : Gl X x) (hm : X.mg x = none) (hv : bootBuiltins x = some (.type T')) (ha : OA X (e :: es) mas) (hn : x ≠ "__name__" := by decide) (hdb : (x == ("__debug__" : Str)) = false := by decide)
    (he : starEach (e :: es) X.env = (false, eval e X.env) :: starEach es X.env := by rfl) (hpl : (backTo pos (starEach es X.env)).any (·.1) = false := by rfl) : OE X (.Call (.Name x p) (e :: es) [] pos) (mCall o mas) :=
  ⟨(pe_callTy hc hg hm hv ha.ok hn hdb he hpl).imp fun _ _ _ q => cb_li q⟩
end

/-! ### slices -/
abbrev MO := Env → Gp → (Option Int → Gp → Prop) → Prop
def liO (K : PySem.W.Frag) (m : MO) : TO := fun σ H Q => ∃ r G R, RS K H σ r ∧ RG K H G ∧ m r G R ∧ ∀ o G' H', R o G' → Le H H' → RG K H' G' → Q o H'
structure OO (X : Cx) (e : Option Expr) (m : MO) : Prop where
  ok : PO X e (liO X.K m)
theorem _root_.L2.PO.imp {X : Cx} {e : Option Expr} {t t' : TO} (h : PO X e t) (f : ∀ σ H Q, t' σ H Q → t σ H Q) : PO X e t' := ⟨fun pins s σ H Q I q => h.run pins s σ H Q I (f σ H Q q)⟩
theorem _root_.L2.SlR.imp {X : Cx} {r r' : V → Option Int → Option Int → Hp → VK → Prop} (h : SlR X r) (k : ∀ x lo hi H Q, r' x lo hi H Q → r x lo hi H Q) : SlR X r' := fun pins s σ H x v vl vu lo hi sl Q I rx hs pl pu q => h pins s σ H x v vl vu lo hi sl Q I rx hs pl pu (k x lo hi H Q q)
def moN : MO := fun _ G R => R none G
def moS (m : ME) : MO := fun r G R => m r G fun t G1 => ∃ i, t = .int i ∧ R (some i) G1
theorem oo_none : OO X none moN := ⟨po_none.imp fun σ H Q q => by
  obtain ⟨r, G, R, hs, hg, k, f⟩ := q
  exact f none G H k (Le.refl H) hg⟩
theorem oo_some (h : OE X e m) : OO X (some e) (moS m) := ⟨(po_some h.ok).imp fun σ H Q q => by
  obtain ⟨r, G, R, hs, hg, k, f⟩ := q
  refine ⟨r, G, _, hs, hg, k, fun t G1 H1 v k1 l1 g1 r1 => ?_⟩
  obtain ⟨i, rfl, k2⟩ := k1
  exact ⟨i, r1, f _ G1 H1 k2 l1 g1⟩⟩
def cutT {α : Type} (xs : List α) (lo hi : Option Int) : List α := (xs.drop (HT.sIx xs.length 0 lo)).take (HT.sIx xs.length xs.length hi - HT.sIx xs.length 0 lo)
def oSl (t : T) (lo hi : Option Int) (G : Gp) (R : KT) : Prop :=
  (∃ ts, t = .tup ts ∧ R (.tup (cutT ts lo hi)) G) ∨ (∃ ts, isL G t ts ∧ ∀ p, G p = none → R (.ref p) (put G p (.lst (cutT ts lo hi)))) ∨ ∃ z, t = .str z ∧ z.length ≤ sizeLine ∧ R (.str (cutS z lo hi)) G
def mSl (m : ME) (l h : MO) : ME := fun r G R => m r G fun t G1 => l r G1 fun lo G2 => h r G2 fun hi G3 => oSl t lo hi G3 R
theorem cutT_length {α : Type} (xs : List α) (lo hi : Option Int) : (cutT xs lo hi).length ≤ xs.length := by
  unfold cutT
  rw [List.length_take, List.length_drop]
  omega
theorem Rps.cut {K : PySem.W.Frag} {H : Hp} {vs : List V} {ts : List T} (h : Rps K H vs ts) (lo hi : Option Int) : Rps K H (cutV vs lo hi) (cutT ts lo hi) := by
  unfold cutV cutT
  rw [h.length]
  exact (h.drop _).take _
def liSl (K : PySem.W.Frag) : V → Option Int → Option Int → Hp → VK → Prop := fun x lo hi H Q => ∃ t G R, Rp K H x t ∧ RG K H G ∧ oSl t lo hi G R ∧ Gives K H R Q
theorem sl_oSl : SlR X (liSl X.K) := ((sl_tupA (X := X)).or (sl_list.or sl_str)).imp fun x lo hi H Q h => by
  obtain ⟨t, G, R, rx, hg, k, f⟩ := h
  rcases k with ⟨ts, rfl, k⟩ | ⟨ts, h1, k⟩ | ⟨z, rfl, hz, k⟩
  · have rx0 := rx
    obtain ⟨p, vs, rfl, h1, hz, r1⟩ := rx.tupSq
    refine .inl ⟨p, vs, rfl, h1, fun ⟨e1, e2⟩ => ?_, fun _ q hq => ?_⟩
    · rw [r1.length] at e1 e2
      have e : cutT ts lo hi = ts := by unfold cutT; rw [e1, e2]; simp
      rw [e] at k
      exact f.val hg k rx0
    · exact f.newT hg hq k (r1.cut lo hi) (Nat.le_trans (cutT_length ts lo hi) hz)
  · obtain ⟨a, vs, rfl, hq, rv⟩ := h1.seq hg rx
    exact .inr (.inl ⟨a, vs, rfl, hq, fun p hp => f.newL hg hp (k p (hg.fresh hp)) (rv.cut lo hi)⟩)
  · cases rx
    exact .inr (.inr ⟨z, rfl, hz, f.val hg k rfl⟩)
theorem o_sl {lo hi : Option Expr} {ml mh : MO} {p2 : Pos} (he : OE X e m) (hl : OO X lo ml) (hh : OO X hi mh) : OE X (.Subscript e (.Slice lo hi none p2) pos) (mSl m ml mh) :=
  ⟨(pe_slice sl_oSl he.ok hl.ok hh.ok).imp fun σ H Q q => by
    obtain ⟨r, G, R, hs, hg, k, f⟩ := q
    refine ⟨r, G, _, hs, hg, k, fun t G1 H1 v k1 l1 g1 r1 => ?_⟩
    refine ⟨r, G1, _, hs.le l1, g1, k1, fun lo G2 H2 k2 l2 g2 => ?_⟩
    refine ⟨r, G2, _, hs.le (l1.trans l2), g2, k2, fun hi G3 H3 k3 l3 g3 => ?_⟩
    exact ⟨t, G3, R, r1.le (l2.trans l3), g3, k3, f.le (l1.trans (l2.trans l3))⟩⟩
/-- xs[::-1] -/
def mRev (m : ME) : ME := fun r G R => m r G fun t G1 => ∃ ts, isL G1 t ts ∧ ∀ p, G1 p = none → R (.ref p) (put G1 p (.lst ts.reverse))
theorem o_rev {k : Nat} {p1 p2 p3 : Pos} (he : OE X e m) : OE X (.Subscript e (.Slice none none (some (.UnaryOp .USub (.Constant (.int 1) k p1) p2)) p3) pos) (mRev m) :=
  ⟨(pe_revL he.ok).imp fun σ H Q q => by
    obtain ⟨r, G, R, hs, hg, k, f⟩ := q
    refine ⟨r, G, _, hs, hg, k, fun t G1 H1 v k1 l1 g1 r1 => ?_⟩
    obtain ⟨ts, h1, k1⟩ := k1
    obtain ⟨a, vs, rfl, hq, rv⟩ := h1.seq g1 r1
    exact ⟨a, vs, rfl, hq, fun p hp => (f.le l1).newL g1 hp (k1 p (g1.fresh hp)) rv.reverse⟩⟩

/-! ### methods of built-in types -/
abbrev OM := T → List T → Gp → KT → Prop
def liB (K : PySem.W.Frag) (o : OM) : V → List V → Hp → VK → Prop := fun x vs H Q => ∃ t ts G R, Rp K H x t ∧ Rps K H vs ts ∧ RG K H G ∧ o t ts G R ∧ Gives K H R Q
theorem _root_.L2.MtR.imp {X : Cx} {id : String} {r r' : V → List V → Hp → VK → Prop} (h : MtR X id r) (k : ∀ x xs H Q, r' x xs H Q → r x xs H Q) : MtR X id r' := fun pins s σ H x xs v us Q I rx rs q => h pins s σ H x xs v us Q I rx rs (k x xs H Q q)
/-- the receiver's type -/
def isTy (G : Gp) : String → T → Prop
  | s, .str _ => s = "str"
  | s, .cl _ => s = "list"
  | s, .ref a => (s = "list" ∧ ∃ ts, G a = some (.lst ts)) ∨ (s = "dict" ∧ ((∃ kvs, G a = some (.dK kvs)) ∨ ∃ kvs, G a = some (.dT kvs)))
  | _, _ => False
theorem isTy_rp {K : PySem.W.Frag} {H : Hp} {G : Gp} {s : String} {t : T} {x : V} (hg : RG K H G) (r : Rp K H x t) (h : isTy G s t) : tyV K s x H := by
  cases t with
  | str z => cases r; exact h
  | cl ts => obtain ⟨p, vs, rfl, h1, _⟩ := r; exact .inl ⟨h, vs, h1.seq⟩
  | ref a =>
    cases r
    rcases h with ⟨rfl, ts, h1⟩ | ⟨rfl, ⟨kvs, h1⟩ | ⟨kvs, h1⟩⟩
    · obtain ⟨vs, e, _⟩ := hg _ _ h1; exact .inl ⟨rfl, vs, SqL.of e⟩
    · obtain ⟨vs, e, _⟩ := hg _ _ h1; exact .inr (.inr (.inl ⟨rfl, .inl ⟨vs, e⟩⟩))
    · obtain ⟨vs, e, _⟩ := hg _ _ h1; exact .inr (.inr (.inl ⟨rfl, .inr ⟨vs, e⟩⟩))
  | _ => exact h.elim
def mBm0 (s : String) (o : OM) (m : ME) : ME := fun r G R => m r G fun t G1 => isTy G1 s t ∧ o t [] G1 R
def mBm (s : String) (o : OM) (m : ME) (k : MA) : ME := fun r G R => m r G fun t G1 => isTy G1 s t ∧ k r G1 fun ts G2 => o t ts G2 R
section
variable {s id : String} {name : Str} {o : OM} {apos cpos : Pos}
theorem o_bm0 (pa : PlainAttrs s) (slot : Slot s name id) (hty : typeOf (.builtin id) = pure (.type "method_descriptor")) (hm : MtR X id (liB X.K o)) (ho : OE X a ma)
    (hbase : attributeBase a name X.env (eval a X.env) = eval a X.env := by rfl) (hline : (apos.endLine == cpos.line) = true := by rfl) : OE X (.Call (.Attribute a name apos) [] [] cpos) (mBm0 s o ma) :=
  ⟨(pe_bm0 pa slot hty hm ho.ok hbase hline).imp fun σ H Q q => by
    obtain ⟨r, G, R, hs, hg, k, f⟩ := q
    refine ⟨r, G, _, hs, hg, k, fun t G1 H1 v k1 l1 g1 r1 => ?_⟩
    exact ⟨isTy_rp g1 r1 k1.1, t, [], G1, R, r1, rfl, g1, k1.2, f.le l1⟩⟩
theorem o_bm (pa : PlainAttrs s) (slot : Slot s name id) (hty : typeOf (.builtin id) = pure (.type "method_descriptor")) (hm : MtR X id (liB X.K o)) (ho : OE X a ma) (ha : OA X (e :: es) mas)
    (hbase : attributeBase a name X.env (eval a X.env) = eval a X.env := by rfl)
    (hfew : ((backTo cpos (starEach (e :: es) X.env)).all (fun x => !x.1) && (backToKw cpos (keywordEach [] X.env)).all (fun x => x.1.isSome)
      && decide ((e :: es).length + ([] : List Keyword).length + (if ([] : List Keyword).isEmpty then 0 else 1) < 30)) = true := by rfl)
    (hline : (apos.endLine == cpos.line) = true := by rfl) (hs : starEach (e :: es) X.env = (false, eval e X.env) :: starEach es X.env := by rfl) (hplain : (backTo cpos (starEach es X.env)).any (·.1) = false := by rfl) :
    OE X (.Call (.Attribute a name apos) (e :: es) [] cpos) (mBm s o ma mas) :=
  ⟨(pe_bm pa slot hty hm ho.ok ha.ok hbase hfew hline hs hplain).imp fun σ H Q q => by
    obtain ⟨r, G, R, hs, hg, k, f⟩ := q
    refine ⟨r, G, _, hs, hg, k, fun t G1 H1 v k1 l1 g1 r1 => ?_⟩
    refine ⟨isTy_rp g1 r1 k1.1, r, G1, _, hs.le l1, g1, k1.2, fun ts G2 H2 vs k2 l2 g2 r2 => ?_⟩
    exact ⟨t, ts, G2, R, r1.le l2, r2, g2, k2, f.le (l1.trans l2)⟩⟩
end
def omAppend : OM := fun t ts G R => ∃ a xs u, t = .ref a ∧ ts = [u] ∧ G a = some (.lst xs) ∧ xs.length < sizeLine ∧ R .non (put G a (.lst (xs ++ [u])))
theorem mt_oAppend : MtR X "list.append" (liB X.K omAppend) := MtR.imp (r := rAppend) mt_append fun x vs H Q h => by
  obtain ⟨t, ts, G, R, rx, rv, hg, ⟨a, xs, u, rfl, rfl, h1, hz, k⟩, f⟩ := h
  cases rx
  obtain ⟨v, r, rfl, r1, r2⟩ := rv
  cases r2
  obtain ⟨ws, e, rw⟩ := lst_of hg h1
  exact ⟨a, ws, v, rfl, rfl, e, by rw [rw.length]; exact hz, f.wrL hg h1 k (rw.append (Rps.one r1)) rfl⟩
def omExtend : OM := fun t ts G R => ∃ a b xs ys, t = .ref a ∧ ts = [.ref b] ∧ G a = some (.lst xs) ∧ G b = some (.lst ys) ∧ xs.length + ys.length ≤ sizeLine ∧ R .non (put G a (.lst (xs ++ ys)))
theorem mt_oExtend : MtR X "list.extend" (liB X.K omExtend) := MtR.imp (r := rExtend) mt_extend fun x vs H Q h => by
  obtain ⟨t, ts, G, R, rx, rv, hg, ⟨a, b, xs, ys, rfl, rfl, h1, h2, hz, k⟩, f⟩ := h
  cases rx
  obtain ⟨v, r, rfl, r1, r2⟩ := rv
  cases r2
  cases r1
  obtain ⟨ws, e, rw⟩ := lst_of hg h1
  obtain ⟨zs, e2, rz⟩ := lst_of hg h2
  exact ⟨a, b, ws, zs, rfl, rfl, e, e2, by rw [rw.length, rz.length]; exact hz, f.wrL hg h1 k (rw.append rz) rfl⟩
theorem Rps.last : ∀ {K : PySem.W.Frag} {H : Hp} {vs : List V} {ts : List T} {u : T}, Rps K H vs (ts ++ [u]) → ∃ ws v, vs = ws ++ [v] ∧ Rps K H ws ts ∧ Rp K H v u
  | K, H, vs, [], u, h => by
    obtain ⟨v, r, rfl, r1, r2⟩ := h
    cases r2
    exact ⟨[], v, rfl, rfl, r1⟩
  | K, H, vs, t :: ts, u, h => by
    obtain ⟨v, r, rfl, r1, r2⟩ := h
    obtain ⟨ws, w, rfl, r3, r4⟩ := Rps.last r2
    exact ⟨v :: ws, w, rfl, ⟨v, ws, rfl, r1, r3⟩, r4⟩
def omPop : OM := fun t ts G R => ∃ a xs u, t = .ref a ∧ ts = [] ∧ G a = some (.lst (xs ++ [u])) ∧ R u (put G a (.lst xs))
theorem mt_oPop : MtR X "list.pop" (liB X.K omPop) := MtR.imp (r := rPop) mt_pop fun x vs H Q h => by
  obtain ⟨t, ts, G, R, rx, rv, hg, ⟨a, xs, u, rfl, rfl, h1, k⟩, f⟩ := h
  cases rx
  cases rv
  obtain ⟨ws, e, rw⟩ := lst_of hg h1
  obtain ⟨zs, v, rfl, r1, r2⟩ := rw.last
  refine ⟨a, _, v, rfl, rfl, e, by simp, ?_⟩
  rw [List.dropLast_concat]
  exact f.wrL hg h1 k r1 r2
end
end Mi

set_option Elab.async false
set_option linter.all false
set_option maxRecDepth 100000
namespace Mi
open PySem L2
section
variable {X : Cx} {a b c e : Expr} {es : List Expr} {ma mb mc m : ME} {mas : MA} {pos : Pos} {st : Stmt} {rest body : List Stmt} {s1 s2 : MS} {tA : MT}

/-! ### blocks -/
def msNext : MS := fun M r G => M.nx r G
def msSeq (s t : MS) : MS := fun M r G => s { M with nx := t M } r G
theorem ss_nil : OSs X [] msNext := ⟨pss_nil.imp fun D σ H q => by
  obtain ⟨r, G, M, hs, hg, k, f, _⟩ := q
  exact f r G σ H k (Le.refl H) hs hg⟩
theorem ss_cons (h1 : OS X st s1) (h2 : OSs X rest s2) : OSs X (st :: rest) (msSeq s1 s2) := ⟨(pss_cons h1.ok h2.ok).imp fun D σ H q => by
  obtain ⟨r, G, M, hs, hg, k, f1, f2, f3, f4⟩ := q
  exact ⟨r, G, { M with nx := s2 M }, hs, hg, k, fun r' G' σ' H' k1 l1 rs g1 => ⟨r', G', M, rs, g1, k1, f1.le l1, f2.le l1, f3.le l1, f4.le l1⟩, f2, f3, f4⟩⟩
theorem ss_one (h1 : OS X st s1) : OSs X [st] s1 := ⟨pss_one h1.ok⟩
theorem s_pass : OS X (.Pass pos) msNext := ⟨ps_pass.imp fun D σ H q => by
  obtain ⟨r, G, M, hs, hg, k, f, _⟩ := q
  exact f r G σ H k (Le.refl H) hs hg⟩
def msCont : MS := fun M r G => M.ct r G
theorem s_cont : OS X (.Continue pos) msCont := ⟨ps_continue.imp fun D σ H q => by
  obtain ⟨r, G, M, hs, hg, k, _, _, _, f⟩ := q
  exact f r G σ H k (Le.refl H) hs hg⟩
def msBreak : MS := fun M r G => M.bk r G
theorem s_break : OS X (.Break pos) msBreak := ⟨ps_break.imp fun D σ H q => by
  obtain ⟨r, G, M, hs, hg, k, _, _, f, _⟩ := q
  exact f r G σ H k (Le.refl H) hs hg⟩
def msNever : MS := fun _ _ _ => False
theorem ss_never {sts : List Stmt} : OSs X sts msNever := ⟨pss_never.imp fun D σ H q => by
  obtain ⟨r, G, M, hs, hg, k, _⟩ := q
  exact k⟩
def msExpr (m : ME) : MS := fun M r G => m r G fun _ G1 => M.nx r G1
theorem s_expr (h : OE X e m) (hs : swapsWith e none pos.line X.env = pure false := by rfl) : OS X (.Expr e pos) (msExpr m) := ⟨(ps_expr h.ok hs).imp fun D σ H q => by
  obtain ⟨r, G, M, hs, hg, k, f, _⟩ := q
  exact ⟨r, G, _, hs, hg, k, fun t G1 H1 v k1 l1 g1 r1 => f r G1 σ H1 k1 l1 (hs.le l1) g1⟩⟩
def msRet (m : ME) : MS := fun M r G => m r G M.rt
theorem s_ret (h : OE X e m) : OS X (.Return (some e) pos) (msRet m) := ⟨(ps_ret h.ok).imp fun D σ H q => by
  obtain ⟨r, G, M, hs, hg, k, _, f, _⟩ := q
  exact ⟨r, G, _, hs, hg, k, f⟩⟩
def msIf (t : MT) (s u : MS) : MS := fun M r G => t r G fun c G1 => if c = true then s M r G1 else u M r G1
theorem s_if {x y : List Stmt} (hc : OT X c tA) (h1 : OSs X x s1) (h2 : OSs X y s2) : OS X (.If c x y pos) (msIf tA s1 s2) := ⟨(ps_if hc.ok h1.ok h2.ok).imp fun D σ H q => by
  obtain ⟨r, G, M, hs, hg, k, f1, f2, f3, f4⟩ := q
  refine ⟨r, G, _, hs, hg, k, fun b G1 H1 k1 l1 g1 => ?_⟩
  cases b with
  | true => exact iteT ⟨r, G1, M, hs.le l1, g1, by simpa using k1, f1.le l1, f2.le l1, f3.le l1, f4.le l1⟩
  | false => exact iteF ⟨r, G1, M, hs.le l1, g1, by simpa using k1, f1.le l1, f2.le l1, f3.le l1, f4.le l1⟩⟩

/-! ### targets -/
abbrev MG := T → Env → Gp → (Env → Gp → Prop) → Prop
abbrev MGs := List T → Env → Gp → (Env → Gp → Prop) → Prop
def liG (K : PySem.W.Frag) (m : MG) : TG := fun v σ H Q => ∃ t r G N, Rp K H v t ∧ RS K H σ r ∧ RG K H G ∧ m t r G N ∧ GivesN K H N Q
def liGs (K : PySem.W.Frag) (m : MGs) : TGs := fun v σ H Q => ∃ t r G N, Rps K H v t ∧ RS K H σ r ∧ RG K H G ∧ m t r G N ∧ GivesN K H N Q
structure OG (X : Cx) (e : Expr) (m : MG) : Prop where
  ok : PG X e (liG X.K m)
structure OGs (X : Cx) (e : List Expr) (m : MGs) : Prop where
  ok : PGs X e (liGs X.K m)
theorem _root_.L2.PG.imp {X : Cx} {e : Expr} {t t' : TG} (h : PG X e t) (f : ∀ v σ H Q, t' v σ H Q → t v σ H Q) : PG X e t' := ⟨fun pins s σ H v u Q I r q => h.run pins s σ H v u Q I r (f v σ H Q q)⟩
theorem _root_.L2.PGs.imp {X : Cx} {e : List Expr} {t t' : TGs} (h : PGs X e t) (f : ∀ v σ H Q, t' v σ H Q → t v σ H Q) : PGs X e t' := ⟨fun pins s σ H v u Q I r q => h.run pins s σ H v u Q I r (f v σ H Q q)⟩
def mgName (i : Nat) : MG := fun t r G N => N (r.set i (some t)) G
theorem g_name (i : Nat) {x : Str} (h : PG X (.Name x pos) (gName i)) : OG X (.Name x pos) (mgName i) := ⟨h.imp fun v σ H Q q => by
  obtain ⟨t, r, G, N, rv, hs, hg, k, f⟩ := q
  exact f _ G _ H k (Le.refl H) (hs.set i rv) hg⟩
def mgNil : MGs := fun ts r G N => ts = [] ∧ N r G
def mgCons (m : MG) (ms : MGs) : MGs := fun ts r G N => ∃ t us, ts = t :: us ∧ m t r G fun r1 G1 => ms us r1 G1 N
theorem gs_nil : OGs X [] mgNil := ⟨pgs_nil.imp fun v σ H Q q => by
  obtain ⟨t, r, G, N, rv, hs, hg, ⟨rfl, k⟩, f⟩ := q
  cases rv
  exact ⟨rfl, f r G σ H k (Le.refl H) hs hg⟩⟩
theorem gs_cons {m : MG} {ms : MGs} (h1 : OG X e m) (h2 : OGs X es ms) (hs : (assignEach (e :: es) X.env).map (·.2) = assign e X.env :: (assignEach es X.env).map (·.2) := by rfl) : OGs X (e :: es) (mgCons m ms) :=
  ⟨(pgs_cons h1.ok h2.ok hs).imp fun v σ H Q q => by
    obtain ⟨t, r, G, N, rv, hs, hg, ⟨t1, us, rfl, k⟩, f⟩ := q
    obtain ⟨v1, vr, rfl, r1, r2⟩ := rv
    refine ⟨v1, vr, rfl, t1, r, G, _, r1, hs, hg, k, fun r' G' σ' H' k1 l1 hs1 g1 => ?_⟩
    exact ⟨us, r', G', N, r2.le l1, hs1, g1, k1, f.le l1⟩⟩
/-- (a, b, ..) = a tuple of that length -/
def mgTup (n : Nat) (ms : MGs) : MG := fun t r G N => ∃ ts, t = .tup ts ∧ ts.length = n ∧ ms ts r G N
theorem g_tup {k n : Nat} {ms : MGs} (hc : X.calm = true) (h : OGs X es ms) (hn : (assignEach es X.env).length = n := by rfl) (hst : (assignEach es X.env).findIdx? (·.1) = none := by rfl) : OG X (.Tuple es k pos) (mgTup n ms) :=
  ⟨(pg_tup hc h.ok hn hst).imp fun v σ H Q q => by
    obtain ⟨t, r, G, N, rv, hs, hg, ⟨ts, rfl, hl, k⟩, f⟩ := q
    obtain ⟨p, vs, rfl, hq, hz, rv⟩ := rv.tupSq
    exact ⟨p, vs, rfl, hq, by rw [rv.length]; exact hl, ts, r, G, N, rv, hs, hg, k, f⟩⟩
/-- o[i] = v, by values -/
abbrev OSt := T → T → T → Gp → (Gp → Prop) → Prop
def liSt (K : PySem.W.Frag) (o : OSt) : TSet := fun x y v H Q => ∃ s t u G R, Rp K H x s ∧ Rp K H y t ∧ Rp K H v u ∧ RG K H G ∧ o s t u G R ∧ ∀ G' H', R G' → Le H H' → RG K H' G' → Q H'
theorem _root_.L2.PSet.imp {X : Cx} {r r' : TSet} (h : PSet X r) (k : ∀ x y v H Q, r' x y v H Q → r x y v H Q) : PSet X r' := fun pins s σ H o i v ov iv u Q I a b c q => h pins s σ H o i v ov iv u Q I a b c (k o i v H Q q)
def mgSub (mo mi : ME) (o : OSt) : MG := fun u r G N => mo r G fun s G1 => mi r G1 fun t G2 => o s t u G2 fun G3 => N r G3
theorem g_sub {o i : Expr} {mo mi : ME} {t : OSt} (ho : OE X o mo) (hi : OE X i mi) (hs : PSet X (liSt X.K t))
    (ha : ∀ v, assign (.Subscript o i pos) X.env v = (do
      let ov ← holding [v] (eval o X.env)
      let iv ← holding [v, ov] (eval i X.env)
      standAt pos
      holding [v, ov, iv] (setItem ov iv v)
      release [v, ov, iv] []) := by intro _; rfl) : OG X (.Subscript o i pos) (mgSub mo mi t) :=
  ⟨(pg_sub ho.ok hi.ok hs ha).imp fun v σ H Q q => by
    obtain ⟨u, r, G, N, rv, hs, hg, k, f⟩ := q
    refine ⟨r, G, _, hs, hg, k, fun s G1 H1 x k1 l1 g1 r1 => ?_⟩
    refine ⟨r, G1, _, hs.le l1, g1, k1, fun t' G2 H2 y k2 l2 g2 r2 => ?_⟩
    exact ⟨s, t', u, G2, _, r1.le l2, r2, rv.le (l1.trans l2), g2, k2, fun G3 H3 k3 l3 g3 => f r G3 σ H3 k3 (l1.trans (l2.trans l3)) (hs.le (l1.trans (l2.trans l3))) g3⟩⟩
def osLst : OSt := fun s t u G R => ∃ a i xs j, s = .ref a ∧ t = .int i ∧ G a = some (.lst xs) ∧ ixN xs.length i = some j ∧ R (put G a (.lst (xs.set j u)))
theorem set_osLst : PSet X (liSt X.K osLst) := PSet.imp (r := rSetL) set_list fun x y v H Q h => by
  obtain ⟨s, t, u, G, R, rx, ry, rv, hg, ⟨a, i, xs, j, rfl, rfl, h1, hj, k⟩, f⟩ := h
  cases rx; cases ry
  obtain ⟨vs, e, r⟩ := lst_of hg h1
  have l := Le.wr (o := .lst (vs.set j v)) (hg.notup h1)
  exact ⟨a, vs, i, j, rfl, rfl, e, by rw [r.length]; exact hj, f _ _ k l (hg.wr (hg.notup h1) ⟨_, upd_same, (r.set j rv).le l⟩)⟩

/-! ### assignments -/
def msAsg (m : ME) (g : MG) : MS := fun M r G => m r G fun t G1 => g t r G1 M.nx
theorem asg_li {K : PySem.W.Frag} {m : ME} {g : MG} {D : Ends} {σ : St} {H : Hp} (h : liS K (msAsg m g) D σ H) : tAsg (liE K m) (liG K g) D σ H := by
  obtain ⟨r, G, M, hs, hg, k, f, _⟩ := h
  refine ⟨r, G, _, hs, hg, k, fun t G1 H1 v k1 l1 g1 r1 => ?_⟩
  exact ⟨t, r, G1, _, r1, hs.le l1, g1, k1, f.le l1⟩
theorem s_asg {tg : Expr} {g : MG} (he : OE X e m) (hg : OG X tg g) (hs : swapsWithSole [tg] e pos.line X.env = pure false := by rfl) (hw : swappedStores [tg] e X.env = pure none := by rfl)
    (h1 : (assignEach [tg] X.env).map (·.2) = [assign tg X.env] := by rfl) : OS X (.Assign [tg] e pos) (msAsg m g) := ⟨(ps_asg he.ok hg.ok hs hw h1).imp fun _ _ _ q => asg_li q⟩
theorem gname_li {K : PySem.W.Frag} {i : Nat} {v : V} {σ : St} {H : Hp} {Q : St → Hp → Prop} (h : liG K (mgName i) v σ H Q) : gName i v σ H Q := by
  obtain ⟨t, r, G, N, rv, hs, hg, k, f⟩ := h
  exact f _ G _ H k (Le.refl H) (hs.set i rv) hg
theorem s_set {i : Nat} {x : Str} {pos' : Pos} (hN : X.N.Nodup) (hi : X.N[i]? = some x) (hx : Loc X.env.scope x) (he : OE X e m) (hs : swapsWith e (some (.Name x pos')) pos.line X.env = pure false := by rfl)
    (hf : X.fn x = true ∨ X.env.scope.names.lookup x = some .local := by first | exact .inl rfl | exact .inr rfl | assumption) : OS X (.Assign [.Name x pos'] e pos) (msAsg m (mgName i)) :=
  ⟨(ps_set hN hi hx he.ok hs hf).imp fun D σ H q => by
    obtain ⟨r, G, M, hs, hg, k, f, _⟩ := q
    refine ⟨r, G, _, hs, hg, k, fun t G1 H1 v k1 l1 g1 r1 => ?_⟩
    exact f _ G1 _ H1 k1 l1 ((hs.le l1).set i r1) g1⟩
def msPar (i j : Nat) (k : MA) : MS := fun M r G => k r G fun ts G1 => ∃ s t, ts = [s, t] ∧ M.nx ((r.set i (some s)).set j (some t)) G1
theorem s_par {i j : Nat} {x y : Str} {px py pt : Pos} {kt k2 pt2} (hc : X.calm = true) (hN : X.N.Nodup) (hi : X.N[i]? = some x) (hj : X.N[j]? = some y) (hij : i ≠ j)
    (hx : X.env.scope.names.lookup x = some .local) (hy : X.env.scope.names.lookup y = some .local) (ha : OA X [a, b] mas)
    (hw : swappedStores [.Tuple [.Name x px, .Name y py] kt pt] (.Tuple [a, b] k2 pt2) X.env = pure (some [x, y]) := by rfl)
    (hs : swapsWithSole [.Tuple [.Name x px, .Name y py] kt pt] (.Tuple [a, b] k2 pt2) pos.line X.env = pure false := by rfl) :
    OS X (.Assign [.Tuple [.Name x px, .Name y py] kt pt] (.Tuple [a, b] k2 pt2) pos) (msPar i j mas) :=
  ⟨(ps_par hc hN hi hj hij hx hy ha.ok hw hs).imp fun D σ H q => by
    obtain ⟨r, G, M, hs, hg, k, f, _⟩ := q
    refine ⟨r, G, _, hs, hg, k, fun ts G1 H1 vs k1 l1 g1 r1 => ?_⟩
    obtain ⟨s, t, rfl, k2⟩ := k1
    obtain ⟨v, q1, rfl, a1, w, q2, rfl, a2, e2⟩ := r1
    cases e2
    exact ⟨v, w, rfl, f _ G1 _ H1 k2 l1 (((hs.le l1).set i a1).set j a2) g1⟩⟩

/-! ### loops -/
/-- on to a state of which some may be forgotten -/
def fwd (W : Env → Gp → Prop) : Env → Gp → Prop := fun r' G' => ∃ r G, SubE r r' ∧ Sub G G' ∧ W r G
theorem fwd.of {W : Env → Gp → Prop} {r : Env} {G : Gp} (h : W r G) : fwd W r G := ⟨r, G, SubE.refl r, Sub.refl G, h⟩
def msWhile (t : MT) (s : MS) : MS := fun M r G => ∃ W : Nat → Env → Gp → Prop, (∃ n, W n r G) ∧ ∀ n r G, W n r G → t r G fun c G1 =>
  if c = true then s { M with nx := fwd fun r' G' => ∃ n', n' < n ∧ W n' r' G', ct := fwd fun r' G' => ∃ n', n' < n ∧ W n' r' G', bk := M.nx } r G1 else M.nx r G1
theorem s_while (hp : PassesOwn (model X.prog X.w) X.A X.env X.xe) (hc : OT X c tA) (hb : OSs X body s1) : OS X (.While c body [] pos) (msWhile tA s1) :=
  ⟨(ps_while hp hc.ok hb.ok).imp fun D σ H q => by
    obtain ⟨r, G, M, hs, hg, ⟨W, ⟨n0, w0⟩, turn⟩, f1, f2, f3, f4⟩ := q
    refine ⟨fun n σ' H' => ∃ r' G', RS X.K H' σ' r' ∧ RG X.K H' G' ∧ Le H H' ∧ W n r' G', ⟨n0, r, G, hs, hg, Le.refl H, w0⟩, fun n σ1 H1 ⟨r1, G1, hs1, hg1, l1, w1⟩ => ?_⟩
    refine ⟨r1, G1, _, hs1, hg1, turn n r1 G1 w1, fun b G2 H2 k2 l2 g2 => ?_⟩
    have back : GivesN X.K H2 (fwd fun r' G' => ∃ n', n' < n ∧ W n' r' G') (fun σ' H' => ∃ n', n' < n ∧ ∃ r' G', RS X.K H' σ' r' ∧ RG X.K H' G' ∧ Le H H' ∧ W n' r' G') := fun r3 G3 σ3 H3 ⟨r4, G4, e1, e2, n', hn, w3⟩ l3 hs3 hg3 =>
      ⟨n', hn, r4, G4, hs3.sub e1, hg3.sub e2, l1.trans (l2.trans l3), w3⟩
    cases b with
    | true =>
      refine iteT ⟨_, fun σ' H' z => z, ?_⟩
      rw [if_pos rfl] at k2
      exact ⟨r1, G2, _, hs1.le l2, g2, k2, back, f2.le (l1.trans l2), f1.le (l1.trans l2), back⟩
    | false =>
      rw [if_neg Bool.false_ne_true] at k2
      exact iteF (f1 r1 G2 σ1 H2 k2 (l1.trans l2) (hs1.le l2) g2)⟩

/-! ### what is walked -/
structure MIt where
  its : List T
  held : List (Addr × List T)
def Held (G : Gp) (l : List (Addr × List T)) : Prop := ∀ p ∈ l, G p.1 = some (.lst p.2)
abbrev MI := Env → Gp → (MIt → Gp → Prop) → Prop
/-- the iterator gives these items while what is held stands -/
def Walks (K : PySem.W.Frag) (H0 : Hp) (J : It) (m : MIt) : Prop := ∀ H G, Le H0 H → RG K H G → Held G m.held →
  (∀ i t, m.its[i]? = some t → J.go i H ∧ ∀ x H', J.yld i H x H' → Le H H' ∧ RG K H' G ∧ Rp K H' x t) ∧ J.stop m.its.length H
def liI (K : PySem.W.Frag) (w : MI) : TI := fun σ H R => ∃ r G N, RS K H σ r ∧ RG K H G ∧ w r G N ∧ ∀ m G' H' J, N m G' → Le H H' → RG K H' G' → Walks K H' J m → R J H'
structure OI (X : Cx) (tg iter : Expr) (w : MI) : Prop where
  ok : PI X tg iter (liI X.K w)
theorem _root_.L2.PI.imp {X : Cx} {tg iter : Expr} {w w' : TI} (h : PI X tg iter w) (f : ∀ σ H R, w' σ H R → w σ H R) : PI X tg iter w' := ⟨fun pins s σ H R I q => h.run pins s σ H R I (f σ H R q)⟩
def msFor (w : MI) (g : MG) (s : MS) : MS := fun M r G => w r G fun m G1 => ∃ W : Nat → Env → Gp → Prop, W 0 r G1 ∧ (∀ i r G, W i r G → Held G m.held) ∧
  (∀ i t r G, m.its[i]? = some t → W i r G → g t r G (s { M with nx := fwd (W (i + 1)), ct := fwd (W (i + 1)), bk := M.nx })) ∧ ∀ r G, W m.its.length r G → M.nx r G
theorem s_for {iter tg : Expr} {w : MI} {g : MG} (hp : PassesOwn (model X.prog X.w) X.A X.env X.xe) (hc : X.calm = true) (hi : OI X tg iter w) (hg : OG X tg g) (hb : OSs X body s1)
    (hs : ∀ x, foldedSetIterable iter X.env x = pure x := by intro _; rfl) : OS X (.For tg iter body [] pos) (msFor w g s1) :=
  ⟨(ps_for hp hc hi.ok hg.ok hb.ok hs).imp fun D σ H q => by
    obtain ⟨r, G, M, hs, hg, k, f1, f2, f3, f4⟩ := q
    refine ⟨r, G, _, hs, hg, k, fun m G1 H1 J k1 l1 g1 hw => ?_⟩
    obtain ⟨W, w0, wh, turn, done⟩ := k1
    refine ⟨fun i n σ' H' => n = m.its.length - i ∧ i ≤ m.its.length ∧ ∃ r' G', RS X.K H' σ' r' ∧ RG X.K H' G' ∧ Le H1 H' ∧ W i r' G', ⟨m.its.length, by simp, Nat.zero_le _, r, G1, hs.le l1, g1, Le.refl H1, w0⟩, ?_⟩
    rintro i n σ2 H2 ⟨rfl, hi, r2, G2, hs2, g2, l2, w2⟩
    obtain ⟨hgo, hst⟩ := hw H2 G2 l2 g2 (wh i r2 G2 w2)
    by_cases hlt : i < m.its.length
    · obtain ⟨go, yl⟩ := hgo i m.its[i] (by simp [hlt])
      refine .inr ⟨go, _, fun σ' H' z => ⟨m.its.length - (i + 1), by omega, z⟩, fun x H3 y => ?_⟩
      obtain ⟨l3, g3, r3⟩ := yl x H3 y
      refine ⟨m.its[i], r2, G2, _, r3, hs2.le l3, g3, turn i _ r2 G2 (by simp [hlt]) w2, fun r4 G4 σ4 H4 k4 l4 hs4 g4 => ?_⟩
      have la : Le H1 H4 := l2.trans (l3.trans l4)
      have back : GivesN X.K H4 (fwd (W (i + 1))) (fun σ' H' => m.its.length - (i + 1) = m.its.length - (i + 1) ∧ i + 1 ≤ m.its.length ∧ ∃ r' G', RS X.K H' σ' r' ∧ RG X.K H' G' ∧ Le H1 H' ∧ W (i + 1) r' G') := fun r5 G5 σ5 H5 ⟨r6, G6, e1, e2, w6⟩ l5 hs5 g5 =>
        ⟨rfl, hlt, r6, G6, hs5.sub e1, g5.sub e2, la.trans l5, w6⟩
      exact ⟨r4, G4, _, hs4, g4, k4, back, f2.le (l1.trans la), f1.le (l1.trans la), back⟩
    · have e : i = m.its.length := by omega
      subst e
      exact .inl ⟨hst, f1 r2 G2 σ2 H2 (done r2 G2 w2) (l1.trans l2) hs2 g2⟩⟩
end
end Mi

set_option Elab.async false
set_option linter.all false
set_option maxRecDepth 100000
namespace Mi
open PySem L2
/-! ### a comprehension's own names -/
def wipeT (r : Env) : List Nat → Env
  | [] => r
  | v :: vs => (wipeT r vs).set v none
theorem wipeT_length (r : Env) : ∀ vs : List Nat, (wipeT r vs).length = r.length
  | [] => rfl
  | v :: vs => by unfold wipeT; rw [List.length_set, wipeT_length r vs]
theorem wipe_at (σ : St) : ∀ (vs : List Nat) (j : Nat), (wipe σ vs)[j]? = if j ∈ vs ∧ j < σ.length then some none else σ[j]?
  | [], j => by rw [if_neg (by simp)]; rfl
  | v :: vs, j => by
    show ((wipe σ vs).set v none)[j]? = _
    by_cases e : v = j
    · subst e
      by_cases h : v < σ.length
      · rw [List.getElem?_set_self (by rw [wipe_length]; exact h), if_pos ⟨by simp, h⟩]
      · rw [List.getElem?_eq_none (by simp [wipe_length]; omega), if_neg (fun z => h z.2), List.getElem?_eq_none (by omega)]
    · rw [List.getElem?_set_ne e, wipe_at σ vs j]
      have : (j ∈ v :: vs ∧ j < σ.length) ↔ (j ∈ vs ∧ j < σ.length) := by
        simp only [List.mem_cons]
        constructor
        · rintro ⟨z | z, h⟩
          · exact absurd z.symm e
          · exact ⟨z, h⟩
        · rintro ⟨z, h⟩; exact ⟨.inr z, h⟩
      simp only [this]
theorem wipeT_at (r : Env) : ∀ (vs : List Nat) (j : Nat), (wipeT r vs)[j]? = if j ∈ vs ∧ j < r.length then some none else r[j]?
  | [], j => by rw [if_neg (by simp)]; rfl
  | v :: vs, j => by
    show ((wipeT r vs).set v none)[j]? = _
    by_cases e : v = j
    · subst e
      by_cases h : v < r.length
      · rw [List.getElem?_set_self (by rw [wipeT_length]; exact h), if_pos ⟨by simp, h⟩]
      · rw [List.getElem?_eq_none (by simp [wipeT_length]; omega), if_neg (fun z => h z.2), List.getElem?_eq_none (by omega)]
    · rw [List.getElem?_set_ne e, wipeT_at r vs j]
      have : (j ∈ v :: vs ∧ j < r.length) ↔ (j ∈ vs ∧ j < r.length) := by
        simp only [List.mem_cons]
        constructor
        · rintro ⟨z | z, h⟩
          · exact absurd z.symm e
          · exact ⟨z, h⟩
        · rintro ⟨z, h⟩; exact ⟨.inr z, h⟩
      simp only [this]
theorem RS.wipe {K : PySem.W.Frag} {H : Hp} {σ : St} {r : Env} (h : RS K H σ r) (vs : List Nat) : RS K H (L2.wipe σ vs) (wipeT r vs) := by
  refine ⟨by rw [wipeT_length, wipe_length]; exact h.1, fun i t e => ?_⟩
  rw [wipeT_at] at e
  rw [wipe_at]
  by_cases c : i ∈ vs ∧ i < r.length
  · rw [if_pos c] at e; cases e
  · rw [if_neg c] at e
    rw [if_neg (by rw [← h.1]; exact c)]
    exact h.2 i t e
theorem wipe_set {σ : St} {vs : List Nat} {i : Nat} {x : Option V} (h : i ∈ vs) : wipe (σ.set i x) vs = wipe σ vs := by
  apply List.ext_getElem?
  intro j
  rw [wipe_at, wipe_at, List.length_set]
  by_cases c : j ∈ vs ∧ j < σ.length
  · rw [if_pos c, if_pos c]
  · rw [if_neg c, if_neg c]
    by_cases e : i = j
    · subst e
      have : ¬ i < σ.length := fun z => c ⟨h, z⟩
      rw [List.getElem?_eq_none (by simp; omega), List.getElem?_eq_none (by omega)]
    · rw [List.getElem?_set_ne e]

section
variable {X : Cx} {e : Expr} {es : List Expr} {pos : Pos}
/-- a target that stores at the places vs alone -/
def Gimp (K : PySem.W.Frag) (m : MG) (vs : List Nat) (g : TG) : Prop :=
  ∀ v σ H Q t r G N, Rp K H v t → RS K H σ r → RG K H G → m t r G N → (∀ r' G' σ' H', N r' G' → Le H H' → RS K H' σ' r' → RG K H' G' → wipe σ' vs = wipe σ vs → Q σ' H') → g v σ H Q
structure OGv (X : Cx) (e : Expr) (m : MG) (vs : List Nat) (g : TG) : Prop where
  ok : PG X e g
  imp : Gimp X.K m vs g
structure OGvs (X : Cx) (e : List Expr) (m : MGs) (vs : List Nat) (g : TGs) : Prop where
  ok : PGs X e g
  imp : ∀ v σ H Q t r G N, Rps X.K H v t → RS X.K H σ r → RG X.K H G → m t r G N → (∀ r' G' σ' H', N r' G' → Le H H' → RS X.K H' σ' r' → RG X.K H' G' → wipe σ' vs = wipe σ vs → Q σ' H') → g v σ H Q
theorem gv_name (i : Nat) {x : Str} {vs : List Nat} (h : PG X (.Name x pos) (gName i)) (hi : i ∈ vs) : OGv X (.Name x pos) (mgName i) vs (gName i) :=
  ⟨h, fun v σ H Q t r G N rv hs hg k f => f _ G _ H k (Le.refl H) (hs.set i rv) hg (wipe_set hi)⟩
theorem gvs_nil {vs : List Nat} : OGvs X [] mgNil vs gNil := ⟨pgs_nil, fun v σ H Q t r G N rv hs hg k f => by
  obtain ⟨rfl, k⟩ := k
  cases rv
  exact ⟨rfl, f r G σ H k (Le.refl H) hs hg rfl⟩⟩
theorem gvs_cons {m : MG} {ms : MGs} {vs : List Nat} {g : TG} {u : TGs} (h1 : OGv X e m vs g) (h2 : OGvs X es ms vs u) (hs : (assignEach (e :: es) X.env).map (·.2) = assign e X.env :: (assignEach es X.env).map (·.2) := by rfl) : OGvs X (e :: es) (mgCons m ms) vs (gCons g u) :=
  ⟨pgs_cons h1.ok h2.ok hs, fun v σ H Q t r G N rv hs hg k f => by
    obtain ⟨t1, us, rfl, k⟩ := k
    obtain ⟨v1, vr, rfl, r1, r2⟩ := rv
    refine ⟨v1, vr, rfl, h1.imp v1 σ H _ t1 r G _ r1 hs hg k fun r' G' σ' H' k1 l1 hs1 g1 w1 => ?_⟩
    exact h2.imp vr σ' H' _ us r' G' N (r2.le l1) hs1 g1 k1 fun r3 G3 σ3 H3 k3 l3 hs3 g3 w3 => f r3 G3 σ3 H3 k3 (l1.trans l3) hs3 g3 (w3.trans w1)⟩
theorem gv_tup {k n : Nat} {ms : MGs} {vs : List Nat} {u : TGs} (hc : X.calm = true) (h : OGvs X es ms vs u) (hn : (assignEach es X.env).length = n := by rfl) (hst : (assignEach es X.env).findIdx? (·.1) = none := by rfl) : OGv X (.Tuple es k pos) (mgTup n ms) vs (gTup X.K n u) :=
  ⟨pg_tup hc h.ok hn hst, fun v σ H Q t r G N rv hs hg k f => by
    obtain ⟨ts, rfl, hl, k⟩ := k
    obtain ⟨p, ws, rfl, hq, hz, rv⟩ := rv.tupSq
    exact ⟨p, ws, rfl, hq, by rw [rv.length]; exact hl, h.imp ws σ H Q ts r G N rv hs hg k f⟩⟩

/-! ### tests behind a for -/
structure OTs (X : Cx) (ifs : List Expr) (m : MT) : Prop where
  ok : PTs X ifs (liT X.K m)
def mtYes : MT := fun _ G R => R true G
theorem ots_nil : OTs X [] mtYes := by
  refine ⟨⟨fun pins s σ H Q I h => ?_⟩⟩
  obtain ⟨r, G, R, hs, hg, k, f⟩ := h
  exact pts_nil.run pins s σ H Q I (f true G H k (Le.refl H) hg)
theorem ots_one {c : Expr} {m : MT} (h : OT X c m) : OTs X [c] m := ⟨pts_one h.ok⟩

/-! ### [e for x in xs if t] -/
def fwdG (W : Gp → Prop) : Gp → Prop := fun G' => ∃ G, Sub G G' ∧ W G
theorem fwdG.of {W : Gp → Prop} {G : Gp} (h : W G) : fwdG W G := ⟨G, Sub.refl G, h⟩
def mLc (w : MI) (g : MG) (tt : MT) (te : ME) (vs : List Nat) : ME := fun r G R => w r G fun m G1 => ∀ D, G1 D = none → ∃ W : Nat → Gp → Prop, W 0 (put G1 D (.lst [])) ∧ (∀ i G, W i G → Held G m.held) ∧
  (∀ i t G, m.its[i]? = some t → W i G → g t (wipeT r vs) G fun r2 G2 => tt r2 G2 fun b G3 =>
    if b = true then te r2 G3 fun u G4 => ∃ acc, G4 D = some (.lst acc) ∧ acc.length < sizeLine ∧ fwdG (W (i + 1)) (put G4 D (.lst (acc ++ [u]))) else fwdG (W (i + 1)) G3) ∧ ∀ G, W m.its.length G → R (.ref D) G
theorem RCell.l {K : PySem.W.Frag} {H : Hp} {a : Addr} {vs : List V} {ts : List T} (h : H a = some (.lst vs)) (r : Rps K H vs ts) : RCell K H a (.lst ts) := ⟨vs, h, r⟩
theorem lc_li {wi : MI} {g : MG} {gt : TG} {tt : MT} {te : ME} {vs : List Nat} {K : PySem.W.Frag} (hg : Gimp K g vs gt) {σ : St} {H : Hp} {Q : VK} (h : liE K (mLc wi g tt te vs) σ H Q) : tLc (liI K wi) gt (liT K tt) (liE K te) vs σ H Q := by
  obtain ⟨r, G, R, hs, hg0, k, f⟩ := h
  refine ⟨r, G, _, hs, hg0, k, fun m G1 H1 J k1 l1 g1 hw => ?_⟩
  intro D hD
  obtain ⟨W, w0, wh, turn, done⟩ := k1 D (g1.fresh hD)
  have lD := Le.new (o := HO.lst []) hD
  refine ⟨fun i n H' => n = m.its.length - i ∧ i ≤ m.its.length ∧ ∃ G', RG K H' G' ∧ Le H1 H' ∧ W i G', ⟨m.its.length, by simp, Nat.zero_le _, _, g1.wr (nt_none hD) (RCell.l upd_same (ts := []) rfl), lD, w0⟩, ?_⟩
  rintro i n H2 ⟨rfl, hi, G2, g2, l2, w2⟩
  obtain ⟨hgo, hst⟩ := hw H2 G2 l2 g2 (wh i G2 w2)
  by_cases hlt : i < m.its.length
  · obtain ⟨go, yl⟩ := hgo i m.its[i] (by simp [hlt])
    refine .inr ⟨go, _, fun H' z => ⟨m.its.length - (i + 1), by omega, z⟩, fun x H3 y => ?_⟩
    obtain ⟨l3, g3, r3⟩ := yl x H3 y
    have la3 : Le H H3 := l1.trans (l2.trans l3)
    have back : ∀ H' G', Le H3 H' → RG K H' G' → fwdG (W (i + 1)) G' → m.its.length - (i + 1) = m.its.length - (i + 1) ∧ i + 1 ≤ m.its.length ∧ ∃ G', RG K H' G' ∧ Le H1 H' ∧ W (i + 1) G' := fun H' G' l' g' ⟨G6, e2, w6⟩ =>
      ⟨rfl, hlt, G6, g'.sub e2, l2.trans (l3.trans l'), w6⟩
    refine hg x _ H3 _ m.its[i] (wipeT r vs) G2 _ r3 ((hs.le la3).wipe vs) g3 (turn i _ G2 (by simp [hlt]) w2) fun r4 G4 σ4 H4 k4 l4 hs4 g4 e4 => ?_
    have ew : wipe (wipe σ vs) vs = wipe σ vs := by
      apply List.ext_getElem?
      intro j
      rw [wipe_at, wipe_at, wipe_length]
      by_cases c : j ∈ vs ∧ j < σ.length
      · rw [if_pos c, if_pos c]
      · rw [if_neg c]
    refine ⟨e4.trans ew, r4, G4, _, hs4, g4, k4, fun b G5 H5 k5 l5 g5 => ?_⟩
    cases b with
    | true =>
      rw [if_pos rfl] at k5
      refine iteT ⟨r4, G5, _, hs4.le l5, g5, k5, fun u G6 H6 v k6 l6 g6 r6 => ?_⟩
      obtain ⟨acc, ha, hz, k6⟩ := k6
      obtain ⟨ws, ew, rw⟩ := lst_of g6 ha
      have l7 := Le.wr (o := .lst (ws ++ [v])) (g6.notup ha)
      exact ⟨ws, ew, by rw [rw.length]; exact hz, back _ _ (l4.trans (l5.trans (l6.trans l7))) (g6.wr (g6.notup ha) (RCell.l upd_same ((rw.append (Rps.one r6)).le l7))) k6⟩
    | false =>
      rw [if_neg Bool.false_ne_true] at k5
      exact iteF (back _ _ (l4.trans l5) g5 k5)
  · have e : i = m.its.length := by omega
    subst e
    exact .inl ⟨hst, f (.ref D) G2 H2 (.ref D) (done G2 w2) (l1.trans l2) g2 rfl⟩
theorem o_lc {elt tg iter : Expr} {ifs : List Expr} {scope : Scope} {own : List (Str × Nat)} {wi : MI} {g : MG} {gt : TG} {tt : MT} {te : ME} (hc : X.calm = true) (hN : X.N.Nodup) (hi : OI X tg iter wi) (ok : BlkOk X.N X.env.scope scope own)
    (hg : ∀ (s : Shared) (H : Hp) (C : Addr) (cl : List (Str × Addr)) (fp : List Addr), OGv (X.blk s H scope (compEnvC scope cl C X.env) fp) tg g (own.map (·.2)) gt) (ht : ∀ (s : Shared) (H : Hp) (C : Addr) (cl : List (Str × Addr)) (fp : List Addr), OTs (X.blk s H scope (compEnvC scope cl C X.env) fp) ifs tt)
    (he : ∀ (s : Shared) (H : Hp) (C : Addr) (cl : List (Str × Addr)) (fp : List Addr), OE (X.blk s H scope (compEnvC scope cl C X.env) fp) elt te) (hs : ∀ x, foldedSetIterable iter X.env x = pure x := by intro _; rfl) :
    OE X (.ListComp elt [⟨tg, iter, ifs, 0⟩] scope pos) (mLc wi g tt te (own.map (·.2))) :=
  ⟨⟨fun pins s σ H Q I q => (pe_lc hc hN hi.ok ok (fun s H C cl fp => (hg s H C cl fp).ok) (fun s H C cl fp => (ht s H C cl fp).ok) (fun s H C cl fp => (he s H C cl fp).ok) hs).run pins s σ H Q I (lc_li (hg s H 0 [] []).imp q)⟩⟩
theorem s_setLc {i : Nat} {y : Str} {py : Pos} {elt tg iter : Expr} {ifs : List Expr} {scope : Scope} {own : List (Str × Nat)} {spos : Pos} {wi : MI} {g : MG} {gt : TG} {tt : MT} {te : ME} (hc : X.calm = true) (hN : X.N.Nodup) (hy : X.N[i]? = some y) (hyl : X.env.scope.names.lookup y = some .local)
    (hsw : swapsWith (.ListComp elt [⟨tg, iter, ifs, 0⟩] scope pos) (some (.Name y py)) spos.line X.env = pure true) (hi : OI X tg iter wi) (ok : BlkOk X.N X.env.scope scope own)
    (hg : ∀ (s : Shared) (H : Hp) (C : Addr) (cl : List (Str × Addr)) (fp : List Addr), OGv (X.blk s H scope (compEnvC scope cl C X.env) fp) tg g (own.map (·.2)) gt) (ht : ∀ (s : Shared) (H : Hp) (C : Addr) (cl : List (Str × Addr)) (fp : List Addr), OTs (X.blk s H scope (compEnvC scope cl C X.env) fp) ifs tt)
    (he : ∀ (s : Shared) (H : Hp) (C : Addr) (cl : List (Str × Addr)) (fp : List Addr), OE (X.blk s H scope (compEnvC scope cl C X.env) fp) elt te) (hs : ∀ x, foldedSetIterable iter X.env x = pure x := by intro _; rfl) :
    OS X (.Assign [.Name y py] (.ListComp elt [⟨tg, iter, ifs, 0⟩] scope pos) spos) (msAsg (mLc wi g tt te (own.map (·.2))) (mgName i)) :=
  ⟨⟨fun pins s σ H D I q => (ps_setLc hc hN hy hyl hsw hi.ok ok (fun s H C cl fp => (hg s H C cl fp).ok) (fun s H C cl fp => (ht s H C cl fp).ok) (fun s H C cl fp => (he s H C cl fp).ok) hs).run pins s σ H D I (by
    obtain ⟨r, G, M, hs, hg0, k, f, _⟩ := q
    refine lc_li (hg s H 0 [] []).imp ⟨r, G, _, hs, hg0, k, fun t G1 H1 v k1 l1 g1 r1 => ?_⟩
    exact f _ G1 _ H1 k1 l1 ((hs.le l1).set i r1) g1)⟩⟩
end
end Mi

set_option Elab.async false
set_option linter.all false
set_option maxRecDepth 100000
namespace Mi
open PySem L2
/-! ### what an iterator may be made of: a list, a tuple, a text -/
inductive Sk where
  | lst (a : Addr)
  | tup (a : Addr)
  | txt (z : Str) (t : Tok)
def signV (z : Str) : List V := z.cps.toList.map fun c => V.str ⟨#[c]⟩
def Sk.its (K : PySem.W.Frag) (H : Hp) : Sk → List V → Prop
  | .lst a, xs => SqL K H a xs
  | .tup a, xs => SqT K H a xs
  | .txt z _, xs => xs = signV z
def Sk.val : Sk → Value
  | .lst a => .ref a
  | .tup a => .ref a
  | .txt z t => .str z t
def Sk.obj : Sk → Obj
  | .lst a => { cls := .type "list_iterator", data := .fields #[.ref a, .int 0 0] }
  | .tup a => { cls := .type "tuple_iterator", data := .fields #[.ref a, .int 0 0] }
  | .txt z t => { cls := .type (strIterType z), data := .fields #[.str z t, .int 0 0] }
def Sk.at (h : Heap) (it : Addr) (i : Nat) : Sk → Prop
  | .lst a => h.IsListIter it a i
  | .tup a => h.IsTupleIter it a i
  | .txt z t => h.IsStrIter it (strIterType z) z t i
/-- the cells that it leans on -/
def Sk.fp : Sk → List Addr
  | .lst a => [a]
  | .tup a => [a]
  | .txt _ _ => []
theorem Sk.at_new {h : Heap} {it : Addr} (k : Sk) (e : h.get? it = some k.obj) : k.at h it 0 := by
  cases k <;> exact ⟨_, e, rfl, rfl⟩
theorem Sk.at_mono {h h' : Heap} {it : Addr} {i : Nat} {k : Sk} (x : k.at h it i) (e : ∀ o, h.get? it = some o → h'.get? it = some o) : k.at h' it i := by
  cases k <;> (obtain ⟨o, a, b, c⟩ := x; exact ⟨o, e o a, b, c⟩)
theorem Sk.at_obj {h : Heap} {it : Addr} {i : Nat} {k : Sk} (x : k.at h it i) : ∃ o, h.get? it = some o ∧ ∀ v, o.data ≠ .cell v := by
  cases k <;> (obtain ⟨o, a, b, c⟩ := x; exact ⟨o, a, fun v q => by rw [c] at q; cases q⟩)
section
variable {X : Cx} {pins : List (Addr × Obj)} {σ : St} {H : Hp} {s : Shared}
theorem Sk.its_inj {k : Sk} {xs ys : List V} (I : Inv X pins σ H s) (h : k.its X.K H xs) (h' : k.its X.K H ys) : xs = ys := by
  cases k with
  | lst a => exact I.list_inj h h'
  | tup a => exact I.tuple_inj h h'
  | txt z t => exact h.trans h'.symm
theorem Sk.lt {k : Sk} {xs : List V} (I : Inv X pins σ H s) (h : k.its X.K H xs) : ∀ b ∈ k.fp, b < s.heap.objs.size := by
  intro b hb
  cases k with
  | lst a =>
    have e : b = a := by simpa [Sk.fp] using hb
    subst e
    obtain ⟨its, _, p, _⟩ := I.list h
    exact p.lt
  | tup a =>
    have e : b = a := by simpa [Sk.fp] using hb
    subst e
    obtain ⟨its, _, p, _⟩ := I.tuple h
    exact p.lt
  | txt z t => simp [Sk.fp] at hb
theorem Sk.begins {k : Sk} {xs : List V} (I : Inv X pins σ H s) (h : k.its X.K H xs) : ∃ OK : Heap → Prop, Begins k.val k.obj OK ∧ OK s.heap := by
  cases k with
  | lst a =>
    obtain ⟨its, _, p, _⟩ := I.list h
    exact ⟨_, begins_list a its.toArray, p.isList⟩
  | tup a =>
    obtain ⟨its, _, p, _⟩ := I.tuple h
    exact ⟨_, begins_tuple a its.toArray, p⟩
  | txt z t => exact ⟨_, begins_text z t, trivial⟩
/-- the source's items drawn through the iterator at it -/
theorem Sk.draws {k : Sk} {xs : List V} {A : Around} {it : Addr} (hh : A.handled = none) (I : Inv X pins σ H s) (h : k.its X.K H xs) (hne : ∀ b ∈ k.fp, b ≠ it) :
    ∃ (n : Nat) (P : Nat → Value → Prop) (S : Nat → Heap → Prop), Draws X.prog X.w A it (it :: k.fp) n P S ∧ n = xs.length ∧ (∀ i, k.at s.heap it i → S i s.heap) ∧ (∀ i h', S i h' → k.at h' it i) ∧ ∀ i v, P i v → ∃ x, xs[i]? = some x ∧ RelV x v := by
  cases k with
  | lst a =>
    obtain ⟨its, rv, p, _⟩ := I.list h
    have hl := rv.length
    refine ⟨_, _, _, Draws.list hh it a (hne a (by simp [Sk.fp])) its.toArray, by simp [hl], fun i q => ⟨q, p.isList⟩, fun i h' q => q.1, fun i v q => ?_⟩
    have q' : its[i]? = some v := by simpa using q
    have hi : i < xs.length := by rw [hl]; exact (List.getElem?_eq_some_iff.mp q').1
    obtain ⟨u, hu, ru⟩ := rv.get (i := i) (List.getElem?_eq_getElem hi)
    rw [q'] at hu; cases hu
    exact ⟨_, List.getElem?_eq_getElem hi, ru⟩
  | tup a =>
    obtain ⟨its, rv, p, _⟩ := I.tuple h
    have hl := rv.length
    refine ⟨_, _, _, Draws.tuple hh it a (hne a (by simp [Sk.fp])) its.toArray, by simp [hl], fun i q => ⟨q, p⟩, fun i h' q => q.1, fun i v q => ?_⟩
    have q' : its[i]? = some v := by simpa using q
    have hi : i < xs.length := by rw [hl]; exact (List.getElem?_eq_some_iff.mp q').1
    obtain ⟨u, hu, ru⟩ := rv.get (i := i) (List.getElem?_eq_getElem hi)
    rw [q'] at hu; cases hu
    exact ⟨_, List.getElem?_eq_getElem hi, ru⟩
  | txt z t =>
    cases h
    refine ⟨_, _, _, Draws.text hh it z t, by simp [signV], fun i q => q, fun i h' q => q, fun i v ⟨c, u, q, e⟩ => ?_⟩
    subst e
    refine ⟨.str ⟨#[c]⟩, ?_, ⟨u, rfl⟩⟩
    unfold signV
    rw [List.getElem?_map, Array.getElem?_toList, q]
    rfl
end

/-! ### enumerate -/
def ItES (K : PySem.W.Frag) (k : Sk) (c : Int) : It :=
  ⟨fun i H => ∃ (xs : List V) (x : V), k.its K H xs ∧ xs[i]? = some x, fun i H v H' => ∃ T x, v = .ref T ∧ H T = none ∧ H' = upd H T (.tup [.int (c + (i : Nat)), x]) ∧ ∀ xs, k.its K H xs → xs[i]? = some x, fun i H => ∃ xs : List V, k.its K H xs ∧ xs.length = i⟩
theorem new_pair {P : Program} {w : World} {H : Hp} {h : Heap} {T : Addr} {x y : V} {u v : Value} (hT : h.IsTuple T #[u, v]) (rx : RelV x u) (ry : RelV y v) : ObjOk P w (upd H T (.tup [x, y])) h T (.tup [x, y]) :=
  ⟨by show 2 ≤ sizeLine; decide, [u, v], .cons rx (.cons ry .nil), hT⟩
theorem turn_enumS {P : Program} {w : World} {K : PySem.W.Frag} {elts : List Expr} {kk : Nat} {tpos : Pos} {e it : Addr} {k : Sk} {c : Int} (hei : e ≠ it) (hef : e ∉ k.fp) (hif : it ∉ k.fp) :
    Turn P w K (.Tuple elts kk tpos) (ItES K k c) [e, it] e (fun i h => (∃ old, IsEnum h e it (c + (i : Int)) old) ∧ k.at h it i) where
  mem := by simp
  obj := fun i h st b hb => by
    obtain ⟨⟨old, he⟩, ha⟩ := st
    rcases (show b = e ∨ b = it by simpa using hb) with rfl | rfl
    · exact ⟨_, he, fun v q => nomatch q⟩
    · exact Sk.at_obj ha
  keep := fun i h h' st f => ⟨⟨st.1.choose, f e (by simp) _ st.1.choose_spec⟩, Sk.at_mono st.2 fun o q => f it (by simp) o q⟩
  item := by
    intro X hP hw hK hc i pins s σ H E I hf st hg
    subst hP hw hK
    obtain ⟨he, ha⟩ := st
    obtain ⟨xs, x, hq, hx⟩ := hg
    obtain ⟨n, Pp, S, D, hn, h0, h1, hP⟩ := Sk.draws (A := X.A.in1) (it := it) (I.ok.hd hc) I hq (fun b hb z => hif (z ▸ hb))
    have W := WalksT.enumFrom c D e hei (by simp only [List.mem_cons, not_or]; exact ⟨hei, hef⟩) List.mem_cons_self
    have hi : i < n := by rw [hn]; exact (List.getElem?_eq_some_iff.mp hx).1
    refine W.item i s _ _ hi ⟨he, h0 i ha⟩ fun T vals h' tk hv hT hTu mid hk => ⟨.ref T, rfl, W.go elts kk tpos i T _ _ _ mid fun h2 st2 hk2 => ?_⟩
    obtain ⟨t, u, hu, rfl⟩ := hv
    obtain ⟨x', hx', ru⟩ := hP i u hu
    rw [hx] at hx'; cases hx'
    have hTw := W.apart i T h' mid
    have hTu2 : h2.IsTuple T #[.int (c + (i : Int)) t, u] := hTu.at fun o q => hk2 T o hTw q
    have I1 : Inv X pins σ (upd H T (.tup [.int (c + (i : Nat)), x])) { s with heap := h2, toks := tk } :=
      I.turnedNew (ch := [e, it]) (fun b o hb q => hk2 b o hb (hk b o hb q)) hf hT (new_pair hTu2 ⟨_, rfl⟩ ru)
    refine ⟨.ref T, _, I1, rfl, ⟨T, x, rfl, I.hok.fresh hT, rfl, fun ys hy => by rw [Sk.its_inj I hy hq]; exact hx⟩, ⟨st2.1, h1 _ _ st2.2⟩, fun b hb => ?_⟩
    have hbT : b ≠ T := by
      rintro rfl
      exact hTw hb
    rw [upd_ne hbT]
    exact (hf b hb).1
  done := by
    intro X hP hw hK hc i pins s σ H E I hf st hg
    subst hP hw hK
    obtain ⟨xs, hq, hx⟩ := hg
    obtain ⟨he, ha⟩ := st
    obtain ⟨n, Pp, S, D, hn, h0, h1, hP⟩ := Sk.draws (A := X.A.in1) (it := it) (I.ok.hd hc) I hq (fun b hb z => hif (z ▸ hb))
    obtain rfl : n = i := hn.trans hx
    have W := WalksT.enumFrom c D e hei (by simp only [List.mem_cons, not_or]; exact ⟨hei, hef⟩) List.mem_cons_self
    exact W.done s _ _ ⟨he, h0 n ha⟩ fun h' tk hk => ⟨rfl, I.turnedL (t' := tk) (ch := [e, it]) (fun b o hb q => hk b o hb q) hf⟩
  self := fun A i s Q E st h => by
    obtain ⟨⟨old, he⟩, _⟩ := st
    exact wpAny_pyIter_enum he h

/-! ### zip of two -/
def ItZS (K : PySem.W.Frag) (k1 k2 : Sk) : It :=
  ⟨fun i H => ∃ (xs ys : List V) (x y : V), k1.its K H xs ∧ k2.its K H ys ∧ xs[i]? = some x ∧ ys[i]? = some y,
    fun i H v H' => ∃ T x y, v = .ref T ∧ H T = none ∧ H' = upd H T (.tup [x, y]) ∧ (∀ xs, k1.its K H xs → xs[i]? = some x) ∧ ∀ ys, k2.its K H ys → ys[i]? = some y,
    fun i H => ∃ xs ys : List V, k1.its K H xs ∧ k2.its K H ys ∧ min xs.length ys.length = i⟩
theorem turn_zipS {P : Program} {w : World} {K : PySem.W.Frag} {elts : List Expr} {kk : Nat} {tpos : Pos} {z TI TO i1 i2 : Addr} {k1 k2 : Sk} (Z : ZipSep2 z TI TO i1 i2 (i1 :: k1.fp) (i2 :: k2.fp)) (n1 : i1 ∉ k1.fp) (n2 : i2 ∉ k2.fp) :
    Turn P w K (.Tuple elts kk tpos) (ItZS K k1 k2) [z, TI, TO, i1, i2] z (fun i h => IsZip h z TI TO .none ∧ IsTupOf2 h TI (.ref i1) (.ref i2) ∧ (∃ x y, IsTupOf2 h TO x y) ∧ k1.at h i1 i ∧ k2.at h i2 i) where
  mem := by simp
  obj := fun i h st b hb => by
    obtain ⟨hz, hTI, ⟨x, y, hTO⟩, a1, a2⟩ := st
    rcases (show b = z ∨ b = TI ∨ b = TO ∨ b = i1 ∨ b = i2 by simpa using hb) with rfl | rfl | rfl | rfl | rfl
    · exact ⟨_, hz, fun v q => nomatch q⟩
    · exact ⟨_, hTI, fun v q => nomatch q⟩
    · exact ⟨_, hTO, fun v q => nomatch q⟩
    · exact Sk.at_obj a1
    · exact Sk.at_obj a2
  keep := fun i h h' st f => by
    obtain ⟨hz, hTI, ⟨x, y, hTO⟩, a1, a2⟩ := st
    exact ⟨f z (by simp) _ hz, f TI (by simp) _ hTI, ⟨x, y, f TO (by simp) _ hTO⟩, Sk.at_mono a1 fun o q => f i1 (by simp) o q, Sk.at_mono a2 fun o q => f i2 (by simp) o q⟩
  item := by
    intro X hP hw hK hc i pins s σ H E I hf st hg
    subst hP hw hK
    obtain ⟨hz, hTI, hTO, a1, a2⟩ := st
    obtain ⟨xs, ys, x, y, hq1, hq2, hx, hy⟩ := hg
    obtain ⟨m1, P1, S1, D1, e1, u1, v1, w1⟩ := Sk.draws (A := X.A.in1) (it := i1) (I.ok.hd hc) I hq1 (fun b hb q => n1 (q ▸ hb))
    obtain ⟨m2, P2, S2, D2, e2, u2, v2, w2⟩ := Sk.draws (A := X.A.in1) (it := i2) (I.ok.hd hc) I hq2 (fun b hb q => n2 (q ▸ hb))
    have W := WalksT.zipD2 Z D1 D2
    have hi : i < min m1 m2 := by
      rw [e1, e2]
      have q1 := (List.getElem?_eq_some_iff.mp hx).1
      have q2 := (List.getElem?_eq_some_iff.mp hy).1
      omega
    refine W.item i s _ _ hi ⟨hz, hTI, hTO, u1 i a1, u2 i a2⟩ fun T vals h' tk hv hT hTu mid hk => ⟨.ref T, rfl, W.go elts kk tpos i T _ _ _ mid fun h2 st2 hk2 => ?_⟩
    obtain ⟨p, q, hp, hq, rfl⟩ := hv
    obtain ⟨x', hx', rp⟩ := w1 i p hp
    rw [hx] at hx'; cases hx'
    obtain ⟨y', hy', rq⟩ := w2 i q hq
    rw [hy] at hy'; cases hy'
    have hTw := W.apart i T h' mid
    have hTu2 : h2.IsTuple T #[p, q] := hTu.at fun o q => hk2 T o hTw q
    have sub : ∀ b, b ∉ [z, TI, TO, i1, i2] → b ∉ [z, TO, i1, i2] := fun b hb q => hb (by
      simp only [List.mem_cons, List.not_mem_nil, or_false] at q ⊢
      rcases q with q | q | q | q
      · exact .inl q
      · exact .inr (.inr (.inl q))
      · exact .inr (.inr (.inr (.inl q)))
      · exact .inr (.inr (.inr (.inr q))))
    have I1 : Inv X pins σ (upd H T (.tup [x, y])) { s with heap := h2, toks := tk } :=
      I.turnedNew (ch := [z, TI, TO, i1, i2]) (fun b o hb q => hk2 b o (sub b hb) (hk b o (sub b hb) q)) hf hT (new_pair hTu2 rp rq)
    refine ⟨.ref T, _, I1, rfl, ⟨T, x, y, rfl, I.hok.fresh hT, rfl, fun l hl => by rw [Sk.its_inj I hl hq1]; exact hx, fun l hl => by rw [Sk.its_inj I hl hq2]; exact hy⟩, ⟨st2.1, st2.2.1, st2.2.2.1, v1 _ _ st2.2.2.2.1, v2 _ _ st2.2.2.2.2⟩, fun b hb => ?_⟩
    have hbl : b < s.heap.objs.size := by
      obtain ⟨x0, y0, hTO⟩ := hTO
      rcases (show b = z ∨ b = TI ∨ b = TO ∨ b = i1 ∨ b = i2 by simpa using hb) with rfl | rfl | rfl | rfl | rfl
      · exact Heap.lt_size hz
      · exact Heap.lt_size hTI
      · exact Heap.lt_size hTO
      · obtain ⟨o, ho, _⟩ := Sk.at_obj a1; exact Heap.lt_size ho
      · obtain ⟨o, ho, _⟩ := Sk.at_obj a2; exact Heap.lt_size ho
    rw [upd_ne (Nat.ne_of_lt (Nat.lt_of_lt_of_le hbl hT))]
    exact (hf b hb).1
  done := by
    intro X hP hw hK hc i pins s σ H E I hf st hg
    subst hP hw hK
    obtain ⟨hz, hTI, hTO, a1, a2⟩ := st
    obtain ⟨xs, ys, hq1, hq2, hl⟩ := hg
    obtain ⟨m1, P1, S1, D1, e1, u1, v1, w1⟩ := Sk.draws (A := X.A.in1) (it := i1) (I.ok.hd hc) I hq1 (fun b hb q => n1 (q ▸ hb))
    obtain ⟨m2, P2, S2, D2, e2, u2, v2, w2⟩ := Sk.draws (A := X.A.in1) (it := i2) (I.ok.hd hc) I hq2 (fun b hb q => n2 (q ▸ hb))
    have W := WalksT.zipD2 Z D1 D2
    obtain rfl : min m1 m2 = i := by rw [e1, e2]; exact hl
    refine W.done s _ _ ⟨hz, hTI, hTO, u1 _ a1, u2 _ a2⟩ fun h' tk hk => ⟨rfl, I.turnedL (t' := tk) (ch := [z, TI, TO, i1, i2]) (fun b o hb q => hk b o (fun r => hb ?_) q) hf⟩
    simp only [List.mem_cons, List.not_mem_nil, or_false] at r ⊢
    rcases r with r | r | r | r
    · exact .inl r
    · exact .inr (.inr (.inl r))
    · exact .inr (.inr (.inr (.inl r)))
    · exact .inr (.inr (.inr (.inr r)))
  self := fun A i s Q E st h => wpAny_pyIter_zip st.1 h
end Mi

set_option Elab.async false
set_option linter.all false
set_option maxRecDepth 100000
namespace Mi
open PySem L2
/-! ### enumerate(v) begins, v by how its iterator begins -/
abbrev enObj (it : Addr) : Obj := { cls := .type "enumerate", data := .fields #[.none, .bool false, .ref it, rawInt 0, .none, .none] }
theorem meets_en1 {v : Value} {ob : Obj} {OK : Heap → Prop} (B : Begins v ob OK) :
    Meets (Builtin.«enumerate.__new__» ⟨[.type "enumerate", v], []⟩) (fun _ R s0 => OK s0.heap ∧ R (.ok (.ret (.ref (s0.heap.push ob).objs.size))) { s0 with heap := (s0.heap.push ob).push (enObj s0.heap.objs.size) }) :=
  .of_wp fun pr wd ar RR st hyp => by
    obtain ⟨h0, g0, d0, t0, o0⟩ := st; obtain ⟨ok, hyp⟩ := hyp
    have hsub := sub_enumerate
    have go : ∀ {A' : Around} {EE QQ : Value → Shared → Prop}, QQ (.ref h0.objs.size) ⟨h0.push ob, g0, d0, t0, o0⟩ → wpAny (model pr wd) A' (pyIter v) QQ EE ⟨h0, g0, d0, t0, o0⟩ :=
      fun z => B.iter pr wd _ _ ⟨h0, g0, d0, t0, o0⟩ _ ok z
    wp_walk using go
    refine wpAny_stack_any fun _ => wpAny_pure ?_
    split
    · rename_i cc _ _ _ _ _
      cases (cc == Value.type "enumerate")
      · wp_walk using go
        exact ⟨_, rfl, hyp⟩
      · wp_walk using go
        exact ⟨_, rfl, hyp⟩
    · wp_walk using go
      exact ⟨_, rfl, hyp⟩
theorem call_en1 {pr : Program} {wd : World} {A : Around} {E : Value → Shared → Prop} {s : Shared} {v : Value} {ob : Obj} {OK : Heap → Prop} {Q : Value → Shared → Prop} (B : Begins v ob OK) (ok : OK s.heap)
    (k : ∀ h1, IsEnum h1 (s.heap.objs.size + 1) s.heap.objs.size 0 .none → h1.get? s.heap.objs.size = some ob → (∀ b o, s.heap.get? b = some o → h1.get? b = some o) → Q (.ref (s.heap.objs.size + 1)) { s with heap := h1 }) :
    wpAny (model pr wd) A (call (.type "enumerate") [v]) Q E s := by
  refine callType_new F.called_enumerate (by decide) (F.typeCall_enumerate_1 _) (F.newCall_enumerate_1 _) (fun z => F.args_object_init_2 z _) F.entry_enumerate_new (meets_en1 B) ⟨ok, ?_⟩
  have sz : (s.heap.push ob).objs.size = s.heap.objs.size + 1 := Heap.size_push ..
  have e1 : ((s.heap.push ob).push (enObj s.heap.objs.size)).get? (s.heap.push ob).objs.size = some (enObj s.heap.objs.size) := Heap.get?_push_size _ rfl
  show _ ∧ _
  rw [sz] at e1 ⊢
  exact ⟨⟨_, e1, rfl⟩, k _ e1 (Heap.get?_push_of_some _ (Heap.get?_push_size _ B.free)) fun b o z => Heap.get?_push_of_some _ (Heap.get?_push_of_some _ z)⟩

/-! ### sources by values -/
def signT (z : Str) : List T := z.cps.toList.map fun c => T.str ⟨#[c]⟩
def srcT (G : Gp) (t : T) (ts : List T) : Prop := t = .tup ts ∨ isL G t ts ∨ ∃ z, t = .str z ∧ ts = signT z
def heldT : T → List T → List (Addr × List T)
  | .ref a, ts => [(a, ts)]
  | _, _ => []
theorem sign_rp {K : PySem.W.Frag} {H : Hp} (z : Str) : Rps K H (signV z) (signT z) := by
  unfold signV signT
  generalize z.cps.toList = l
  induction l with
  | nil => rfl
  | cons c r ih => exact ⟨_, _, rfl, rfl, ih⟩
/-- the source of a value, as long as what is held stands -/
theorem srcT.sk {K : PySem.W.Frag} {H : Hp} {G : Gp} {t : T} {ts : List T} {x : V} {u : Value} (hg : RG K H G) (h : srcT G t ts) (rx : Rp K H x t) (ru : RelV x u) :
    ∃ k : Sk, k.val = u ∧ ∀ H' G', Le H H' → RG K H' G' → Held G' (heldT t ts) → ∃ vs, k.its K H' vs ∧ Rps K H' vs ts := by
  rcases h with rfl | (rfl | ⟨a, rfl, h⟩) | ⟨z, rfl, rfl⟩
  · obtain ⟨p, vs, rfl, hq, hz, rv⟩ := rx.tupSq
    cases ru
    exact ⟨.tup p, rfl, fun H' G' l _ _ => ⟨vs, l.seq hq, rv.le l⟩⟩
  · obtain ⟨p, vs, rfl, hq, hz, rv⟩ := rx
    cases ru
    exact ⟨.lst p, rfl, fun H' G' l _ _ => ⟨vs, (l.sqc hq).seq, rv.le l⟩⟩
  · cases rx
    cases ru
    refine ⟨.lst a, rfl, fun H' G' l g hh => ?_⟩
    have e := hh (a, ts) (by simp [heldT])
    obtain ⟨vs, e, rv⟩ := lst_of g e
    exact ⟨vs, SqL.of e, rv⟩
  · cases rx
    obtain ⟨tk, rfl⟩ := ru
    exact ⟨.txt z tk, rfl, fun H' G' l _ _ => ⟨signV z, rfl, sign_rp z⟩⟩
theorem srcT.held {G : Gp} {t : T} {ts : List T} (h : srcT G t ts) : Held G (heldT t ts) := by
  rcases h with rfl | (rfl | ⟨a, rfl, h⟩) | ⟨z, rfl, rfl⟩
  · intro p hp; cases hp
  · intro p hp; cases hp
  · intro p hp
    have e : p = (a, ts) := by simpa [heldT] using hp
    subst e; exact h
  · intro p hp; cases hp
/-- the iterator of one source -/
def ItS (K : PySem.W.Frag) : Sk → It
  | .lst a => Itl K a
  | .tup a => Itt K a
  | .txt z _ => Its z
section
variable {X : Cx} {e e2 : Expr} {m m2 : ME} {pos : Pos} {tg : Expr}
def miSeq (m : ME) : MI := fun r G N => m r G fun t G1 => ∃ ts, srcT G1 t ts ∧ N ⟨ts, heldT t ts⟩ G1
theorem walks_one {K : PySem.W.Frag} {H : Hp} {k : Sk} {held : List (Addr × List T)} {ts : List T} (h : ∀ H' G', Le H H' → RG K H' G' → Held G' held → ∃ vs, k.its K H' vs ∧ Rps K H' vs ts) : Walks K H (ItS K k) ⟨ts, held⟩ := by
  intro H' G' l g hh
  obtain ⟨vs, hq, rv⟩ := h H' G' l g hh
  have hl := rv.length
  refine ⟨fun i t ht => ?_, ?_⟩
  · obtain ⟨v, hv, r⟩ := rv.get ht
    cases k with
    | lst a =>
      refine ⟨⟨vs, v, hq, hv⟩, fun x H2 ⟨e1, y⟩ => ?_⟩
      subst e1
      have := y vs hq
      rw [hv] at this; cases this
      exact ⟨Le.refl _, g, r⟩
    | tup a =>
      refine ⟨⟨vs, v, hq, hv⟩, fun x H2 ⟨e1, y⟩ => ?_⟩
      subst e1
      have := y vs hq
      rw [hv] at this; cases this
      exact ⟨Le.refl _, g, r⟩
    | txt z tk =>
      cases hq
      have hi : i < z.cps.size := by
        have := (List.getElem?_eq_some_iff.mp hv).1
        simpa [signV] using this
      refine ⟨hi, fun x H2 ⟨e1, c, hc, ex⟩ => ?_⟩
      subst e1 ex
      unfold signV at hv
      rw [List.getElem?_map, Array.getElem?_toList, hc] at hv
      cases hv
      exact ⟨Le.refl _, g, r⟩
  · cases k with
    | lst a => exact ⟨vs, hq, by rw [hl]; exact Nat.le_refl _⟩
    | tup a => exact ⟨vs, hq, by rw [hl]; exact Nat.le_refl _⟩
    | txt z tk =>
      cases hq
      show z.cps.size ≤ ts.length
      rw [← hl]
      simp [signV]
theorem turn_S {P : Program} {w : World} {K : PySem.W.Frag} {tg : Expr} (k : Sk) (it : Addr) : Turn P w K tg (ItS K k) [it] it (fun i h => k.at h it i) := by
  cases k with
  | lst a => exact turn_list a it
  | tup a => exact turn_tuple a it
  | txt z tk =>
    refine turn_str it z tk (strIterType z) ?_
    unfold strIterType
    cases z.cps.all (· < 128)
    · exact .inr rfl
    · exact .inl rfl
theorem i_seq (he : OE X e m) : OI X tg e (miSeq m) := by
  refine ⟨⟨fun pins s σ H R I q => ?_⟩⟩
  obtain ⟨r, G, N, hs, hg, k, f⟩ := q
  refine thn (he.ok.run pins s σ H (fun x H1 => ∃ t G1 ts, Rp X.K H1 x t ∧ RG X.K H1 G1 ∧ Le H H1 ∧ srcT G1 t ts ∧ N ⟨ts, heldT t ts⟩ G1) I ⟨r, G, _, hs, hg, k, fun t G1 H1 x k1 l1 g1 r1 => ?_⟩) fun v s1 ⟨x, H1, I1, rv, t, G1, ts, rx, g1, l1, hsrc, hN⟩ => ?_
  · obtain ⟨ts, h1, h2⟩ := k1
    exact ⟨t, G1, ts, r1, g1, l1, h1, h2⟩
  obtain ⟨sk, rfl, stay⟩ := hsrc.sk g1 rx rv
  obtain ⟨vs, hq, _⟩ := stay H1 G1 (Le.refl _) g1 hsrc.held
  obtain ⟨OK, B, ok⟩ := Sk.begins I1 hq
  refine B.iter _ _ _ _ _ _ ok ?_
  exact pi_one (tk := s1.toks) I1 _ (turn_S sk _) (sk.at_new (Heap.get?_push_size _ B.free)) (f _ G1 H1 _ hN l1 g1 (walks_one stay))

/-- for k, x in enumerate(e) -/
def enumT (c : Int) (ts : List T) : List T := ts.mapIdx fun i t => .tup [.int (c + i), t]
def miEnum (m : ME) : MI := fun r G N => m r G fun t G1 => ∃ ts, srcT G1 t ts ∧ N ⟨enumT 0 ts, heldT t ts⟩ G1
theorem walks_enum {K : PySem.W.Frag} {H : Hp} {k : Sk} {held : List (Addr × List T)} {ts : List T} {c : Int} (h : ∀ H' G', Le H H' → RG K H' G' → Held G' held → ∃ vs, k.its K H' vs ∧ Rps K H' vs ts) : Walks K H (ItES K k c) ⟨enumT c ts, held⟩ := by
  intro H' G' l g hh
  obtain ⟨vs, hq, rv⟩ := h H' G' l g hh
  have hl := rv.length
  refine ⟨fun i t ht => ?_, ⟨vs, hq, by rw [hl]; simp [enumT]⟩⟩
  unfold enumT at ht
  rw [List.getElem?_mapIdx] at ht
  cases e0 : ts[i]? with
  | none => rw [e0] at ht; cases ht
  | some t0 =>
    rw [e0] at ht; cases ht
    obtain ⟨v, hv, r⟩ := rv.get e0
    refine ⟨⟨vs, v, hq, hv⟩, fun x H2 ⟨Tt, y, ex, hT, eH, hy⟩ => ?_⟩
    subst ex eH
    have := hy vs hq
    rw [hv] at this; cases this
    have ln := Le.new (o := HO.tup [.int (c + (i : Nat)), v]) hT
    exact ⟨ln, g.out (nt_none hT) (g.fresh hT), Tt, _, rfl, upd_same, by show 2 ≤ sizeLine; decide, Rps.two rfl (r.le ln)⟩
theorem i_enum {p tpos : Pos} {elts : List Expr} {kk : Nat} (hgl : Gl X "enumerate") (hm : X.mg "enumerate" = none) (he : OE X e m) (hst : starEach [e] X.env = (false, eval e X.env) :: starEach [] X.env := by rfl) :
    OI X (.Tuple elts kk tpos) (.Call (.Name "enumerate" p) [e] [] pos) (miEnum m) := by
  refine ⟨⟨fun pins s σ H R I q => ?_⟩⟩
  obtain ⟨r, G, N, hs, hg, k, f⟩ := q
  refine PyProof.Rows.Call_ (ld_blt I hgl hm PyProof.Rows.boot_enumerate (PyProof.Rows.callWith_type1 (PyProof.Rows.args_cons (thn (he.ok.run pins s σ H (fun x H1 => ∃ t G1 ts, Rp X.K H1 x t ∧ RG X.K H1 G1 ∧ Le H H1 ∧ srcT G1 t ts ∧ N ⟨enumT 0 ts, heldT t ts⟩ G1) I ⟨r, G, _, hs, hg, k, fun t G1 H1 x k1 l1 g1 r1 => ?_⟩) fun v s1 ⟨x, H1, I1, rv, t, G1, ts, rx, g1, l1, hsrc, hN⟩ => PyProof.Rows.args_nil ?_) hst) hst rfl))
  · obtain ⟨ts, h1, h2⟩ := k1
    exact ⟨t, G1, ts, r1, g1, l1, h1, h2⟩
  obtain ⟨sk, rfl, stay⟩ := hsrc.sk g1 rx rv
  obtain ⟨vs, hq, _⟩ := stay H1 G1 (Le.refl _) g1 hsrc.held
  obtain ⟨OK, B, ok⟩ := Sk.begins I1 hq
  have lt := Sk.lt I1 hq
  refine call_en1 B ok fun h1 he1 hit hk => wpAny_pyIter_enum he1 ?_
  have I2 : Inv X pins σ H1 { s1 with heap := h1 } := I1.kept (t' := s1.toks) hk
  refine ⟨s1.heap.objs.size + 1, [s1.heap.objs.size + 1, s1.heap.objs.size], _, ItES X.K sk 0, H1, rfl, I2, turn_enumS (k := sk) (c := 0) (Nat.succ_ne_self _) (fun z => absurd (lt _ z) (Nat.not_lt.mpr (Nat.le_succ _))) (fun z => absurd (lt _ z) (Nat.lt_irrefl _)), ⟨⟨_, he1⟩, sk.at_new hit⟩, fun b hb => ?_, f _ G1 H1 _ hN l1 g1 (walks_enum stay)⟩
  have hle : s1.heap.objs.size ≤ b := by
    rcases (show b = s1.heap.objs.size + 1 ∨ b = s1.heap.objs.size by simpa using hb) with q | q
    · rw [q]; exact Nat.le_succ _
    · rw [q]; exact Nat.le_refl _
  exact I1.fpOk hle (I1.hok.fresh hle)

/-- for x, y in zip(e, e2) -/
def miZip (m m2 : ME) : MI := fun r G N => m r G fun t G1 => m2 r G1 fun u G2 => ∃ ts us, srcT G2 t ts ∧ srcT G2 u us ∧ N ⟨List.zipWith (fun a b => T.tup [a, b]) ts us, heldT t ts ++ heldT u us⟩ G2
theorem Held.left {G : Gp} {a b : List (Addr × List T)} (h : Held G (a ++ b)) : Held G a := fun p hp => h p (List.mem_append_left _ hp)
theorem Held.right {G : Gp} {a b : List (Addr × List T)} (h : Held G (a ++ b)) : Held G b := fun p hp => h p (List.mem_append_right _ hp)
theorem walks_zip {K : PySem.W.Frag} {H : Hp} {k k2 : Sk} {held held2 : List (Addr × List T)} {ts us : List T} (h : ∀ H' G', Le H H' → RG K H' G' → Held G' held → ∃ vs, k.its K H' vs ∧ Rps K H' vs ts)
    (h2 : ∀ H' G', Le H H' → RG K H' G' → Held G' held2 → ∃ vs, k2.its K H' vs ∧ Rps K H' vs us) : Walks K H (ItZS K k k2) ⟨List.zipWith (fun a b => T.tup [a, b]) ts us, held ++ held2⟩ := by
  intro H' G' l g hh
  obtain ⟨vs, hq, rv⟩ := h H' G' l g hh.left
  obtain ⟨ws, hq2, rw⟩ := h2 H' G' l g hh.right
  refine ⟨fun i t ht => ?_, ⟨vs, ws, hq, hq2, by rw [rv.length, rw.length]; simp⟩⟩
  rw [List.getElem?_zipWith] at ht
  cases e0 : ts[i]? with
  | none => rw [e0] at ht; cases ht
  | some t0 =>
    cases e1 : us[i]? with
    | none => rw [e0, e1] at ht; cases ht
    | some u0 =>
      rw [e0, e1] at ht; cases ht
      obtain ⟨v, hv, r⟩ := rv.get e0
      obtain ⟨w, hw, r2⟩ := rw.get e1
      refine ⟨⟨vs, ws, v, w, hq, hq2, hv, hw⟩, fun x H2 ⟨Tt, y, y2, ex, hT, eH, hy, hy2⟩ => ?_⟩
      subst ex eH
      have a1 := hy vs hq
      rw [hv] at a1; cases a1
      have a2 := hy2 ws hq2
      rw [hw] at a2; cases a2
      have ln := Le.new (o := HO.tup [v, w]) hT
      exact ⟨ln, g.out (nt_none hT) (g.fresh hT), Tt, _, rfl, upd_same, by show 2 ≤ sizeLine; decide, Rps.two (r.le ln) (r2.le ln)⟩
theorem i_zip {p tpos : Pos} {elts : List Expr} {kk : Nat} (hgl : Gl X "zip") (hm : X.mg "zip" = none) (he : OE X e m) (he2 : OE X e2 m2)
    (hst : starEach [e, e2] X.env = (false, eval e X.env) :: starEach [e2] X.env := by rfl) (hst2 : starEach [e2] X.env = (false, eval e2 X.env) :: starEach [] X.env := by rfl) (hpl : (backTo pos (starEach [e2] X.env)).any (·.1) = false := by rfl) :
    OI X (.Tuple elts kk tpos) (.Call (.Name "zip" p) [e, e2] [] pos) (miZip m m2) := by
  refine ⟨⟨fun pins s σ H R I q => ?_⟩⟩
  obtain ⟨r, G, N, hs, hg, k, f⟩ := q
  refine PyProof.Rows.Call_ (ld_blt I hgl hm PyProof.Rows.boot_zip (PyProof.Rows.callWith_type1 (PyProof.Rows.args_cons (thn (he.ok.run pins s σ H (fun x H1 => ∃ t G1, Rp X.K H1 x t ∧ RG X.K H1 G1 ∧ Le H H1 ∧ m2 r G1 fun u G2 => ∃ ts us, srcT G2 t ts ∧ srcT G2 u us ∧ N ⟨List.zipWith (fun a b => T.tup [a, b]) ts us, heldT t ts ++ heldT u us⟩ G2) I ⟨r, G, _, hs, hg, k, fun t G1 H1 x k1 l1 g1 r1 => ⟨t, G1, r1, g1, l1, k1⟩⟩) fun v s1 ⟨x, H1, I1, rv, t, G1, rx, g1, l1, k1⟩ => ?_) hst) hst hpl))
  refine PyProof.Rows.args_cons (thn (he2.ok.run pins s1 σ H1 (fun y H2 => ∃ u G2 ts us, Rp X.K H2 y u ∧ RG X.K H2 G2 ∧ Le H1 H2 ∧ srcT G2 t ts ∧ srcT G2 u us ∧ N ⟨List.zipWith (fun a b => T.tup [a, b]) ts us, heldT t ts ++ heldT u us⟩ G2) I1 ⟨r, G1, _, hs.le l1, g1, k1, fun u G2 H2 y k2 l2 g2 r2 => ?_⟩) fun v2 s2 ⟨y, H2, I2, rv2, u, G2, ts, us, ry, g2, l2, hsrc, hsrc2, hN⟩ => PyProof.Rows.args_nil ?_) hst2
  · obtain ⟨ts, us, h1, h2, h3⟩ := k2
    exact ⟨u, G2, ts, us, r2, g2, l2, h1, h2, h3⟩
  obtain ⟨sk, rfl, stay⟩ := hsrc.sk g2 (rx.le l2) rv
  obtain ⟨sk2, rfl, stay2⟩ := hsrc2.sk g2 ry rv2
  obtain ⟨vs, hq, _⟩ := stay H2 G2 (Le.refl _) g2 hsrc.held
  obtain ⟨ws, hq2, _⟩ := stay2 H2 G2 (Le.refl _) g2 hsrc2.held
  obtain ⟨OK, B, ok⟩ := Sk.begins I2 hq
  obtain ⟨OK2, B2, ok2⟩ := Sk.begins I2 hq2
  have lt := Sk.lt I2 hq
  have lt2 := Sk.lt I2 hq2
  refine zip_begins2 B B2 ok ok2 fun h1 hz hTI hTO hi1 hi2 _ hk => wpAny_pyIter_zip hz ?_
  have I3 : Inv X pins σ H2 { s2 with heap := h1 } := I2.kept (t' := s2.toks) hk
  refine ⟨s2.heap.objs.size + 4, [s2.heap.objs.size + 4, s2.heap.objs.size + 2, s2.heap.objs.size + 3, s2.heap.objs.size, s2.heap.objs.size + 1], _, ItZS X.K sk sk2, H2, rfl, I3, turn_zipS (zip_sep2 lt lt2) (fun z => absurd (lt _ z) (Nat.lt_irrefl _)) (fun z => absurd (lt2 _ z) (Nat.not_lt.mpr (Nat.le_succ _))),
    ⟨hz, hTI, ⟨_, _, hTO⟩, sk.at_new hi1, sk2.at_new hi2⟩, fun b hb => ?_, f _ G2 H2 _ hN (l1.trans l2) g2 (walks_zip stay stay2)⟩
  have hle : s2.heap.objs.size ≤ b := by
    rcases (show b = s2.heap.objs.size + 4 ∨ b = s2.heap.objs.size + 2 ∨ b = s2.heap.objs.size + 3 ∨ b = s2.heap.objs.size ∨ b = s2.heap.objs.size + 1 by simpa using hb) with q | q | q | q | q
    · rw [q]; exact Nat.le_add_right _ _
    · rw [q]; exact Nat.le_add_right _ _
    · rw [q]; exact Nat.le_add_right _ _
    · rw [q]; exact Nat.le_refl _
    · rw [q]; exact Nat.le_add_right _ _
  exact I2.fpOk hle (I2.hok.fresh hle)
end
end Mi

set_option Elab.async false
set_option linter.all false
set_option maxRecDepth 100000
namespace Mi
open PySem L2
section
variable {X : Cx}
/-! ### built-ins by values -/
theorem Rps.get1 {K : PySem.W.Frag} {H : Hp} {vs : List V} {t : T} (h : Rps K H vs [t]) : ∃ v, vs = [v] ∧ Rp K H v t := by
  obtain ⟨v, r, rfl, r1, r2⟩ := h
  cases r2
  exact ⟨v, rfl, r1⟩
theorem Rps.get2 {K : PySem.W.Frag} {H : Hp} {vs : List V} {t u : T} (h : Rps K H vs [t, u]) : ∃ v w, vs = [v, w] ∧ Rp K H v t ∧ Rp K H w u := by
  obtain ⟨v, r, rfl, r1, w, q, rfl, r2, r3⟩ := h
  cases r3
  exact ⟨v, w, rfl, r1, r2⟩
/-- len -/
def omLen : Sm := fun ts G R => ∃ t, ts = [t] ∧ ((∃ us, isSq G t us ∧ R (.int us.length) G) ∨ (∃ z, t = .str z ∧ z.length ≤ sizeLine ∧ R (.int z.length) G) ∨ ∃ a kvs, t = .ref a ∧ G a = some (.dK kvs) ∧ R (.int kvs.length) G)
theorem c_len : CallR X (.builtin "len") (liC X.K omLen) := ((call_len_seq (X := X)).or (call_len_str.or call_lenD)).imp fun xs H Q h => by
  obtain ⟨ts, G, R, rv, hg, ⟨t, rfl, k⟩, f⟩ := h
  obtain ⟨v, rfl, r⟩ := rv.get1
  rcases k with ⟨us, h1, k⟩ | ⟨z, rfl, hz, k⟩ | ⟨a, kvs, rfl, h1, k⟩
  · obtain ⟨p, vs, rfl, hq, ru⟩ := h1.seq hg r
    exact .inl ⟨p, vs, rfl, hq, f.val hg k (by show _ = _; rw [ru.length])⟩
  · cases r
    exact .inr (.inl ⟨z, rfl, hz, f.val hg k rfl⟩)
  · cases r
    obtain ⟨vs, e, rk, _⟩ := hg _ _ h1
    have hl := congrArg List.length rk
    simp only [List.length_map] at hl
    exact .inr (.inr ⟨a, vs, rfl, e, f.val hg k (by show _ = _; rw [hl])⟩)
def omAbs : Sm := fun ts G R => ∃ i, ts = [.int i] ∧ R (.int (if i < 0 then -i else i)) G
theorem c_abs : CallR X (.builtin "abs") (liC X.K omAbs) := call_abs.imp fun xs H Q h => by
  obtain ⟨ts, G, R, rv, hg, ⟨i, rfl, k⟩, f⟩ := h
  obtain ⟨v, rfl, r⟩ := rv.get1
  cases r
  exact ⟨i, rfl, f.val hg k rfl⟩
def omMax2 : Sm := fun ts G R => ∃ i j, ts = [.int i, .int j] ∧ R (.int (if j > i then j else i)) G
theorem c_max2 (hc : X.calm = true) : CallR X (.builtin "max") (liC X.K omMax2) := (call_max2 hc).imp fun xs H Q h => by
  obtain ⟨ts, G, R, rv, hg, ⟨i, j, rfl, k⟩, f⟩ := h
  obtain ⟨v, w, rfl, r, r2⟩ := rv.get2
  cases r; cases r2
  exact ⟨i, j, rfl, f.val hg k rfl⟩
def omMin2 : Sm := fun ts G R => ∃ i j, ts = [.int i, .int j] ∧ R (.int (if j < i then j else i)) G
theorem c_min2 (hc : X.calm = true) : CallR X (.builtin "min") (liC X.K omMin2) := (call_min2 hc).imp fun xs H Q h => by
  obtain ⟨ts, G, R, rv, hg, ⟨i, j, rfl, k⟩, f⟩ := h
  obtain ⟨v, w, rfl, r, r2⟩ := rv.get2
  cases r; cases r2
  exact ⟨i, j, rfl, f.val hg k rfl⟩
def omInt : Sm := fun ts G R => (∃ i, ts = [.int i] ∧ R (.int i) G) ∨ ∃ k, ts = [.bl k] ∧ R (.int (if k then 1 else 0)) G
theorem c_int : CallR X (.type "int") (liC X.K omInt) := call_int1.imp fun xs H Q h => by
  obtain ⟨ts, G, R, rv, hg, k, f⟩ := h
  rcases k with ⟨i, rfl, k⟩ | ⟨b, rfl, k⟩
  · obtain ⟨v, rfl, r⟩ := rv.get1
    cases r
    exact .inl ⟨i, rfl, f.val hg k rfl⟩
  · obtain ⟨v, rfl, r⟩ := rv.get1
    cases r
    exact .inr ⟨b, rfl, f.val hg k rfl⟩
def omDivmod : Sm := fun ts G R => ∃ i j, ts = [.int i, .int j] ∧ CDiv i j ∧ R (.tup [.int (i / j), .int (i % j)]) G
theorem c_divmod : CallR X (.builtin "divmod") (liC X.K omDivmod) := call_divmod.imp fun xs H Q h => by
  obtain ⟨ts, G, R, rv, hg, ⟨i, j, rfl, hc, k⟩, f⟩ := h
  obtain ⟨v, w, rfl, r, r2⟩ := rv.get2
  cases r; cases r2
  exact ⟨i, j, rfl, hc, fun p hp => f.newT hg hp k (Rps.two rfl rfl) (by show 2 ≤ sizeLine; decide)⟩
/-- all, any of a list of bools -/
def omAll : Sm := fun ts G R => ∃ (t : T) (bs : List Bool), ts = [t] ∧ isL G t (bs.map T.bl) ∧ R (.bl (bs.all id)) G
def omAny : Sm := fun ts G R => ∃ (t : T) (bs : List Bool), ts = [t] ∧ isL G t (bs.map T.bl) ∧ R (.bl (bs.any id)) G
theorem bls_rp {K : PySem.W.Frag} {H : Hp} : ∀ {bs : List Bool} {vs : List V}, Rps K H vs (bs.map T.bl) → vs = bs.map V.bl
  | [], vs, h => h
  | b :: bs, vs, h => by
    obtain ⟨v, r, rfl, r1, r2⟩ := h
    cases r1
    rw [bls_rp r2]; rfl
theorem ints_rp {K : PySem.W.Frag} {H : Hp} : ∀ {bs : List Int} {vs : List V}, Rps K H vs (bs.map T.int) → vs = bs.map V.int
  | [], vs, h => h
  | b :: bs, vs, h => by
    obtain ⟨v, r, rfl, r1, r2⟩ := h
    cases r1
    rw [ints_rp r2]; rfl
theorem strs_rp {K : PySem.W.Frag} {H : Hp} : ∀ {bs : List Str} {vs : List V}, Rps K H vs (bs.map T.str) → vs = bs.map V.str
  | [], vs, h => h
  | b :: bs, vs, h => by
    obtain ⟨v, r, rfl, r1, r2⟩ := h
    cases r1
    rw [strs_rp r2]; rfl
theorem rp_strs {K : PySem.W.Frag} {H : Hp} : ∀ {bs : List Str}, Rps K H (bs.map V.str) (bs.map T.str)
  | [] => rfl
  | b :: bs => ⟨_, _, rfl, rfl, rp_strs⟩
theorem rp_ints {K : PySem.W.Frag} {H : Hp} : ∀ {bs : List Int}, Rps K H (bs.map V.int) (bs.map T.int)
  | [] => rfl
  | b :: bs => ⟨_, _, rfl, rfl, rp_ints⟩
theorem c_all (hc : X.calm = true) : CallR X (.builtin "all") (liC X.K omAll) := (cr_all hc).imp fun xs H Q h => by
  obtain ⟨ts, G, R, rv, hg, ⟨t, bs, rfl, h1, k⟩, f⟩ := h
  obtain ⟨v, rfl, r⟩ := rv.get1
  obtain ⟨a, vs, rfl, hq, ru⟩ := h1.seq hg r
  rw [bls_rp ru] at hq
  exact ⟨a, bs, rfl, hq, f.val hg k rfl⟩
theorem c_any (hc : X.calm = true) : CallR X (.builtin "any") (liC X.K omAny) := (cr_any hc).imp fun xs H Q h => by
  obtain ⟨ts, G, R, rv, hg, ⟨t, bs, rfl, h1, k⟩, f⟩ := h
  obtain ⟨v, rfl, r⟩ := rv.get1
  obtain ⟨a, vs, rfl, hq, ru⟩ := h1.seq hg r
  rw [bls_rp ru] at hq
  exact ⟨a, bs, rfl, hq, f.val hg k rfl⟩
def omSum : Sm := fun ts G R => ∃ (t : T) (ns : List Int), ts = [t] ∧ isL G t (ns.map T.int) ∧ R (.int ns.sum) G
theorem c_sum (hc : X.calm = true) : CallR X (.builtin "sum") (liC X.K omSum) := (cr_sum hc).imp fun xs H Q h => by
  obtain ⟨ts, G, R, rv, hg, ⟨t, bs, rfl, h1, k⟩, f⟩ := h
  obtain ⟨v, rfl, r⟩ := rv.get1
  obtain ⟨a, vs, rfl, hq, ru⟩ := h1.seq hg r
  rw [ints_rp ru] at hq
  exact ⟨a, bs, rfl, hq, f.val hg k rfl⟩
/-- sorted, of texts -/
def omSortS : Sm := fun ts G R => ∃ (t : T) (xs : List Str), ts = [t] ∧ isL G t (xs.map T.str) ∧ xs.length < 64 ∧ ∀ (ys : List Str) p, ys.Perm xs → PyProof.Rows.sortedS ys = true → G p = none → R (.ref p) (put G p (.lst (ys.map T.str)))
theorem c_sortS : CallR X (.builtin "sorted") (liC X.K omSortS) := cr_sortedS.imp fun xs H Q h => by
  obtain ⟨ts, G, R, rv, hg, ⟨t, bs, rfl, h1, hz, k⟩, f⟩ := h
  obtain ⟨v, rfl, r⟩ := rv.get1
  obtain ⟨a, vs, rfl, hq, ru⟩ := h1.seq hg r
  rw [strs_rp ru] at hq
  exact ⟨a, bs, rfl, hq, hz, fun ys p e1 e2 hp => f.newL hg hp (k ys p e1 e2 (hg.fresh hp)) rp_strs⟩
/-- sorted, of ints -/
def omSortI : Sm := fun ts G R => ∃ (t : T) (xs : List Int), ts = [t] ∧ isL G t (xs.map T.int) ∧ xs.length < 64 ∧ ∀ (ys : List Int) p, ys.Perm xs → ys.Pairwise (· ≤ ·) → G p = none → R (.ref p) (put G p (.lst (ys.map T.int)))
theorem c_sortI : CallR X (.builtin "sorted") (liC X.K omSortI) := cr_sorted.imp fun xs H Q h => by
  obtain ⟨ts, G, R, rv, hg, ⟨t, bs, rfl, h1, hz, k⟩, f⟩ := h
  obtain ⟨v, rfl, r⟩ := rv.get1
  obtain ⟨a, vs, rfl, hq, ru⟩ := h1.seq hg r
  rw [ints_rp ru] at hq
  exact ⟨a, bs, rfl, hq, hz, fun ys p e1 e2 hp => f.newL hg hp (k ys p e1 e2 (hg.fresh hp)) rp_ints⟩
/-- list(..), tuple(..) of a list or a tuple -/
def omList : Sm := fun ts G R => ∃ t us, ts = [t] ∧ isSq G t us ∧ ∀ p, G p = none → R (.ref p) (put G p (.lst us))
theorem c_list : CallR X (.type "list") (liC X.K omList) := call_list_of.imp fun xs H Q h => by
  obtain ⟨ts, G, R, rv, hg, ⟨t, us, rfl, h1, k⟩, f⟩ := h
  obtain ⟨v, rfl, r⟩ := rv.get1
  obtain ⟨p, vs, rfl, hq, ru⟩ := h1.seq hg r
  exact ⟨p, vs, rfl, hq, fun l hl => f.newL hg hl (k l (hg.fresh hl)) ru⟩
def omTuple : Sm := fun ts G R => ∃ t us, ts = [t] ∧ isSq G t us ∧ us.length ≤ sizeLine ∧ R (.tup us) G
theorem c_tuple : CallR X (.type "tuple") (liC X.K omTuple) := call_tuple_of.imp fun xs H Q h => by
  obtain ⟨ts, G, R, rv, hg, ⟨t, us, rfl, h1, hz, k⟩, f⟩ := h
  obtain ⟨v, rfl, r⟩ := rv.get1
  rcases h1 with rfl | h1
  · have r0 := r
    obtain ⟨p, vs, rfl, hq, _, ru⟩ := r.tupSq
    exact ⟨p, vs, rfl, .inr ⟨hq, f.val hg k r0⟩⟩
  · obtain ⟨p, vs, rfl, hq, ru⟩ := h1.seq hg r
    exact ⟨p, vs, rfl, .inl ⟨hq, fun l hl => f.newT hg hl k ru hz⟩⟩

/-! ### isinstance -/
def tyN (G : Gp) : T → Option String
  | .non => some "NoneType"
  | .bl _ => some "bool"
  | .int _ => some "int"
  | .str _ => some "str"
  | .tup _ => some "tuple"
  | .cl _ => some "list"
  | .ref a => match G a with
    | some (.lst _) => some "list"
    | some (.dK _) => some "dict"
    | some (.dT _) => some "dict"
    | none => none
  | .ty _ => none
def isKind (a b : String) : Bool := a == b || (a == "bool" && b == "int")
def knownTy (b : String) : Prop := b ∈ ["int", "bool", "str", "list", "tuple", "dict"]
theorem kit_known {a b : String} {G : Gp} {t : T} (h : tyN G t = some a) (hb : knownTy b) : kitB a b = some (isKind a b) := by
  have ha : a ∈ ["NoneType", "bool", "int", "str", "tuple", "list", "dict"] := by
    cases t with
    | ref p =>
      unfold tyN at h
      cases e : G p with
      | none => simp [e] at h
      | some c => cases c <;> (simp [e] at h; subst h; simp)
    | ty n => simp [tyN] at h
    | _ => (simp [tyN] at h; subst h; simp)
  have all : (["NoneType", "bool", "int", "str", "tuple", "list", "dict"].all fun x => ["int", "bool", "str", "list", "tuple", "dict"].all fun y => decide (kitB x y = some (isKind x y))) = true := by decide +kernel
  have h1 := List.all_eq_true.mp all a ha
  have h2 := List.all_eq_true.mp h1 b hb
  exact of_decide_eq_true h2
theorem tyX_rp {K : PySem.W.Frag} {H : Hp} {G : Gp} {x : V} {t : T} {a : String} (hg : RG K H G) (r : Rp K H x t) (h : tyN G t = some a) : TyX K H x (.type a) := by
  cases t with
  | non => cases r; cases h; exact .base .non
  | bl b => cases r; cases h; exact .base (.bl b)
  | int i => cases r; cases h; exact .base (.int i)
  | str z => cases r; cases h; exact .base (.str z)
  | tup ts =>
    cases h
    obtain ⟨p, vs, rfl, hq, _⟩ := r
    exact .base (.tup hq)
  | cl ts =>
    cases h
    obtain ⟨p, vs, rfl, hq, _⟩ := r
    rcases hq with ⟨o, hq⟩ | ⟨o, its, n, e, c, _⟩
    · exact .base (.frz hq)
    · exact .kList e c
  | ty n => cases h
  | ref p =>
    cases r
    unfold tyN at h
    cases e : G p with
    | none => simp [e] at h
    | some c =>
      cases c with
      | lst ts => simp [e] at h; subst h; obtain ⟨vs, q, _⟩ := hg _ _ e; exact .base (.lst q)
      | dK kvs => simp [e] at h; subst h; obtain ⟨vs, q, _⟩ := hg _ _ e; exact .base (.dK q)
      | dT kvs => simp [e] at h; subst h; obtain ⟨vs, q, _⟩ := hg _ _ e; exact .base (.dT q)
/-- one type, or a written tuple of them -/
def tysOf : T → Option (List String)
  | .ty n => some [n]
  | .tup ts => ts.mapM fun t => match t with
    | .ty n => some n
    | _ => none
  | _ => none
def omIsi : Sm := fun ts G R => ∃ t c a, ts = [t, .ty c] ∧ knownTy c ∧ tyN G t = some a ∧ R (.bl (isKind a c)) G
theorem c_isi : CallR X (.builtin "isinstance") (liC X.K omIsi) := call_isi.imp fun xs H Q h => by
  obtain ⟨ts, G, R, rv, hg, ⟨t, c, a, rfl, hc, ha, k⟩, f⟩ := h
  obtain ⟨v, w, rfl, r, r2⟩ := rv.get2
  cases r2
  exact ⟨v, .ty c, .type a, .type c, isKind a c, rfl, .ty c, tyX_rp hg r ha, kit_ty (kit_known ha hc), f.val hg k rfl⟩
theorem kit_two {K : PySem.W.Frag} {a b c : String} {G : Gp} {t : T} (h : tyN G t = some a) (hb : knownTy b) (hc : knownTy c) : PySem.W.kitAny K (.type a) [.type b, .type c] = some (isKind a b || isKind a c) := by
  have h1 : PySem.W.kitOne K (.type a) (.type b) = some (isKind a b) := kit_ty (kit_known h hb)
  have h2 : PySem.W.kitOne K (.type a) (.type c) = some (isKind a c) := kit_ty (kit_known h hc)
  unfold PySem.W.kitAny
  rw [h1]
  cases isKind a b with
  | true => rfl
  | false =>
    show PySem.W.kitAny K (.type a) [.type c] = _
    unfold PySem.W.kitAny
    rw [h2]
    cases isKind a c <;> rfl
/-- isinstance(e, (T1, T2)), the tuple written there -/
def mIsi2 (m : ME) (b c : String) : ME := fun r G R => m r G fun t G1 => ∃ a, knownTy b ∧ knownTy c ∧ tyN G1 t = some a ∧ R (.bl (isKind a b || isKind a c)) G1
theorem o_isi2 {e e1 e2 : Expr} {m : ME} {b c : String} {k : Nat} {p pos tpos : Pos} (he : OE X e m) (h1 : PE X e1 (tC (.ty b))) (h2 : PE X e2 (tC (.ty c))) (hg : Gl X "isinstance") (hm : X.mg "isinstance" = none)
    (hs1 : starEach [e, .Tuple [e1, e2] k tpos] X.env = (false, eval e X.env) :: starEach [.Tuple [e1, e2] k tpos] X.env := by rfl) (hs2 : starEach [.Tuple [e1, e2] k tpos] X.env = (false, eval (.Tuple [e1, e2] k tpos) X.env) :: starEach [] X.env := by rfl)
    (hs3 : starEach [e1, e2] X.env = (false, eval e1 X.env) :: starEach [e2] X.env := by rfl) (hs4 : starEach [e2] X.env = (false, eval e2 X.env) :: starEach [] X.env := by rfl)
    (hpl : (backTo pos (starEach [.Tuple [e1, e2] k tpos] X.env)).any (·.1) = false := by rfl) : OE X (.Call (.Name "isinstance" p) [e, .Tuple [e1, e2] k tpos] [] pos) (mIsi2 m b c) :=
  ⟨(pe_callB call_isiT hg hm PyProof.Rows.boot_isinstance (pa_cons he.ok (pa_cons (pe_tup (pa_cons h1 (pa_cons h2 pa_nil hs4) hs3)) pa_nil hs2) hs1) (by decide) (by decide) hs1 hpl).imp fun σ H Q q => by
    obtain ⟨r, G, R, hs, hg0, k, f⟩ := q
    refine ⟨r, G, _, hs, hg0, k, fun t G1 H1 x k1 l1 g1 r1 => ?_⟩
    obtain ⟨a, hb, hc, ha, k2⟩ := k1
    refine ⟨by show 2 ≤ sizeLine; decide, fun p0 hp => ?_⟩
    have ln := Le.new (o := HO.tup [.ty b, .ty c]) hp
    have g2 := g1.out (o := HO.tup [.ty b, .ty c]) (nt_none hp) (g1.fresh hp)
    exact ⟨x, p0, [.ty b, .ty c], .type a, [.type b, .type c], _, rfl, upd_same, .cons (.ty b) (.cons (.ty c) .nil), tyX_rp g2 (r1.le ln) ha, kit_two ha hb hc, f _ G1 _ _ k2 (l1.trans ln) g2 rfl⟩⟩

/-! ### a text times an int -/
def repS (x : Str) (n : Nat) : Str := ⟨(List.replicate n x.cps.toList).flatten.toArray⟩
theorem repS_fold (x : Str) : ∀ n : Nat, (⟨(List.replicate n x.cps).foldl (· ++ ·) #[]⟩ : Str) = repS x n := fun n => by
  have key : ∀ (n : Nat) (acc : Array Nat), (List.replicate n x.cps).foldl (· ++ ·) acc = acc ++ (List.replicate n x.cps.toList).flatten.toArray := by
    intro n
    induction n with
    | zero => intro acc; simp
    | succ n ih =>
      intro acc
      rw [List.replicate_succ, List.foldl_cons, ih, List.replicate_succ, List.flatten_cons]
      apply Array.ext'
      simp
  unfold repS
  rw [key]
  simp
theorem repS_length (x : Str) (n : Nat) : (repS x n).length = n * x.length := by
  unfold repS Str.length
  simp [List.length_flatten]
def oMulS : O2 := fun s t G R => ∃ x k, s = .str x ∧ t = .int k ∧ k < 2 ^ 63 ∧ -(2 ^ 63) ≤ k ∧ x.length * k.toNat ≤ sizeLine ∧ R (.str (repS x k.toNat)) G
theorem op_oMulS : OpR X (binaryOp .Mult) (liO2 X.K oMulS) := by
  intro pins s σ H x y v u Q I rx ry h
  obtain ⟨st, tt, G, R, r1, r2, hg, ⟨z, k, rfl, rfl, h1, h0, hz, hk⟩, f⟩ := h
  cases r1; cases r2
  obtain ⟨t, rfl⟩ := rx
  obtain ⟨t', rfl⟩ := ry
  have q := f.val hg hk (v := .str (repS z k.toNat)) rfl
  have e1 : decide (k < -(2 ^ 63 : Int)) = false := decide_eq_false (by omega)
  have e2 : decide (k ≥ 2 ^ 63) = false := decide_eq_false (by omega)
  refine PySem.P.mul_str (by rw [e1, e2]; rfl) (fun a b => ?_) (fun a b => decide_eq_false (by omega)) ?_
  · have hzz : (z.length : Int) * k ≤ 2 ^ 24 := by
      have : ((z.length * k.toNat : Nat) : Int) ≤ ((2 ^ 24 : Nat) : Int) := by exact_mod_cast hz
      rw [Int.natCast_mul, Int.toNat_of_nonneg (by omega)] at this
      exact this
    have hk1 : (1 : Int) ≤ k := by omega
    intro hc
    have : (2 ^ 63 - 1 : Int) / k < z.length := by omega
    have h3 := Int.lt_mul_of_ediv_lt (by omega : 0 < k) this
    omega
  · by_cases hn : k < 1
    · rw [if_pos hn]
      have : k.toNat = 0 := by omega
      rw [this] at q
      exact ⟨by decide, ⟨.str (repS z 0), H, I.tok _, ⟨_, rfl⟩, q⟩⟩
    · rw [if_neg hn]
      by_cases hb : (k == 1 || z.length == 0) = true
      · rw [if_pos hb]
        have e : repS z k.toNat = z := by
          rcases Bool.or_eq_true_iff.mp hb with b | b
          · have : k = 1 := by simpa using b
            subst this
            unfold repS
            simp
          · have hl : z.length = 0 := by simpa using b
            have hz0 : z.cps = #[] := Array.eq_empty_of_size_eq_zero hl
            unfold repS
            cases z with
            | mk c => simp only at hz0; subst hz0; simp
        rw [e] at q
        exact ⟨.str z, H, I, ⟨_, rfl⟩, q⟩
      · rw [if_neg hb, repS_fold]
        refine ⟨?_, ⟨.str (repS z k.toNat), H, I.tok _, ⟨_, rfl⟩, q⟩⟩
        rw [repS_length, Nat.mul_comm]
        exact hz
end
end Mi

set_option Elab.async false
set_option linter.all false
set_option maxRecDepth 100000
namespace Mi
open PySem L2
/-! ### what a dict holds -/
section
variable {κ : Type} [DecidableEq κ]
def lookT (kvs : List (κ × T)) (k : κ) : Option T := (kvs.find? fun kv => decide (kv.1 = k)).map (·.2)
def putT (kvs : List (κ × T)) (k : κ) (t : T) : List (κ × T) :=
  if (kvs.any fun kv => decide (kv.1 = k)) = true then kvs.map (fun kv => if kv.1 = k then (kv.1, t) else kv) else kvs ++ [(k, t)]
def RpO (K : PySem.W.Frag) (H : Hp) : Option V → Option T → Prop
  | some v, some t => Rp K H v t
  | none, none => True
  | _, _ => False
variable {K : PySem.W.Frag} {H : Hp}
theorem Rkv.nil_r {vs : List (κ × V)} (h : Rkv K H vs []) : vs = [] := by
  have := h.1
  simpa using this
theorem Rkv.cons_r {vs : List (κ × V)} {k : κ} {t : T} {ts : List (κ × T)} (h : Rkv K H vs ((k, t) :: ts)) : ∃ v r, vs = (k, v) :: r ∧ Rp K H v t ∧ Rkv K H r ts := by
  obtain ⟨h1, h2⟩ := h
  cases vs with
  | nil => simp at h1
  | cons p r =>
    obtain ⟨k', v⟩ := p
    simp only [List.map_cons, List.cons.injEq] at h1
    obtain ⟨rfl, h1⟩ := h1
    obtain ⟨v', q, e, r1, r2⟩ := h2
    simp only [List.map_cons, List.cons.injEq] at e
    obtain ⟨rfl, rfl⟩ := e
    exact ⟨v, r, rfl, r1, h1, r2⟩
theorem Rkv.cons {vs : List (κ × V)} {k : κ} {v : V} {t : T} {ts : List (κ × T)} (h : Rp K H v t) (h2 : Rkv K H vs ts) : Rkv K H ((k, v) :: vs) ((k, t) :: ts) :=
  ⟨by simp [h2.1], ⟨v, _, rfl, h, h2.2⟩⟩
theorem Rkv.len {vs : List (κ × V)} {ts : List (κ × T)} (h : Rkv K H vs ts) : vs.length = ts.length := by
  have := congrArg List.length h.1
  simpa using this
theorem Rkv.look (k : κ) : ∀ {ts : List (κ × T)} {vs : List (κ × V)}, Rkv K H vs ts → RpO K H (valV vs k) (lookT ts k)
  | [], vs, h => by rw [h.nil_r]; exact trivial
  | (k', t) :: ts, vs, h => by
    obtain ⟨v, r, rfl, r1, r2⟩ := h.cons_r
    unfold valV lookT
    by_cases e : k' = k
    · simp only [List.find?_cons, e, decide_true, Option.map_some]
      exact r1
    · have ih := Rkv.look k r2
      unfold valV lookT at ih
      simp only [List.find?_cons, e, decide_false]
      exact ih
theorem Rkv.any (k : κ) : ∀ {ts : List (κ × T)} {vs : List (κ × V)}, Rkv K H vs ts → (vs.any fun kv => decide (kv.1 = k)) = ts.any fun kv => decide (kv.1 = k)
  | [], vs, h => by rw [h.nil_r]; rfl
  | (k', t) :: ts, vs, h => by
    obtain ⟨v, r, rfl, r1, r2⟩ := h.cons_r
    simp only [List.any_cons]
    rw [Rkv.any k r2]
theorem Rkv.mapset (k : κ) {v : V} {t : T} (hv : Rp K H v t) : ∀ {ts : List (κ × T)} {vs : List (κ × V)}, Rkv K H vs ts → Rkv K H (vs.map fun kv => if kv.1 = k then (kv.1, v) else kv) (ts.map fun kv => if kv.1 = k then (kv.1, t) else kv)
  | [], vs, h => by rw [h.nil_r]; exact ⟨rfl, rfl⟩
  | (k', t') :: ts, vs, h => by
    obtain ⟨v', r, rfl, r1, r2⟩ := h.cons_r
    simp only [List.map_cons]
    by_cases e : k' = k
    · simp only [e, if_true]
      exact Rkv.cons hv (Rkv.mapset k hv r2)
    · simp only [e, if_false]
      exact Rkv.cons r1 (Rkv.mapset k hv r2)
theorem Rkv.app {vs ws : List (κ × V)} {ts us : List (κ × T)} (h : Rkv K H vs ts) (h2 : Rkv K H ws us) : Rkv K H (vs ++ ws) (ts ++ us) := by
  refine ⟨by rw [List.map_append, List.map_append, h.1, h2.1], ?_⟩
  rw [List.map_append, List.map_append]
  exact h.2.append h2.2
theorem Rkv.put {vs : List (κ × V)} {ts : List (κ × T)} {v : V} {t : T} (h : Rkv K H vs ts) (k : κ) (hv : Rp K H v t) : Rkv K H (putK vs k v) (putT ts k t) := by
  unfold putK putT
  rw [h.any k]
  split
  · exact h.mapset k hv
  · exact h.app ⟨rfl, ⟨v, [], rfl, hv, rfl⟩⟩
end
def kT : Key → T
  | .inl i => .int i
  | .inr x => .str x
theorem kT_rp {K : PySem.W.Frag} {H : Hp} {x : V} {k : Key} (h : Rp K H x (kT k)) : x = kV k := by
  cases k <;> exact h
theorem kTs_rp {K : PySem.W.Frag} {H : Hp} : ∀ {ks : List Key} {vs : List V}, Rps K H vs (ks.map kT) → vs = ks.map kV
  | [], vs, h => h
  | k :: ks, vs, h => by
    obtain ⟨v, r, rfl, r1, r2⟩ := h
    rw [kT_rp r1, kTs_rp r2]; rfl
/-- what the dict at a holds at t -/
def gtT (G : Gp) (a : Addr) (t : T) (o : Option T) : Prop :=
  (∃ kvs k, G a = some (.dK kvs) ∧ t = kT k ∧ o = lookT kvs k) ∨ ∃ kvs ks, G a = some (.dT kvs) ∧ t = .tup (ks.map kT) ∧ o = lookT kvs ks
theorem gtT.get {K : PySem.W.Frag} {H : Hp} {G : Gp} {a : Addr} {t : T} {o : Option T} {y : V} (hg : RG K H G) (h : gtT G a t o) (ry : Rp K H y t) : ∃ ov, DGet H a y ov ∧ RpO K H ov o := by
  rcases h with ⟨kvs, k, e, rfl, rfl⟩ | ⟨kvs, ks, e, rfl, rfl⟩
  · obtain ⟨vs, e1, rk⟩ := hg _ _ e
    rw [kT_rp ry]
    exact ⟨_, DGet.k e1, rk.look k⟩
  · obtain ⟨vs, e1, rk⟩ := hg _ _ e
    obtain ⟨p, ws, rfl, hp, _, rw⟩ := ry
    rw [kTs_rp rw] at hp
    exact ⟨_, DGet.t e1 hp, rk.look ks⟩
/-- the mini heap behind a[t] = u -/
def ptT (G : Gp) (a : Addr) (t u : T) (G' : Gp) : Prop :=
  (∃ kvs k, G a = some (.dK kvs) ∧ t = kT k ∧ kvs.length < sizeLine ∧ G' = put G a (.dK (putT kvs k u))) ∨ ∃ kvs ks, G a = some (.dT kvs) ∧ t = .tup (ks.map kT) ∧ kvs.length < sizeLine ∧ G' = put G a (.dT (putT kvs ks u))
theorem ptT.put {K : PySem.W.Frag} {H : Hp} {G G' : Gp} {a : Addr} {t u : T} {y v : V} (hg : RG K H G) (h : ptT G a t u G') (ry : Rp K H y t) (rv : Rp K H v u) : ∃ H', DPut H a y v H' ∧ Le H H' ∧ RG K H' G' := by
  rcases h with ⟨kvs, k, e, rfl, hz, rfl⟩ | ⟨kvs, ks, e, rfl, hz, rfl⟩
  · obtain ⟨vs, e1, rk⟩ := hg _ _ e
    rw [kT_rp ry]
    have l := Le.wr (o := .dK (putK vs k v)) (hg.notup e)
    exact ⟨_, DPut.k e1 (by rw [rk.len]; exact hz), l, hg.wr (hg.notup e) ⟨_, upd_same, (rk.put k rv).le l⟩⟩
  · obtain ⟨vs, e1, rk⟩ := hg _ _ e
    obtain ⟨p, ws, rfl, hp, _, rw⟩ := ry
    rw [kTs_rp rw] at hp
    have l := Le.wr (o := .dT (putK vs ks v)) (hg.notup e)
    exact ⟨_, DPut.t e1 hp (by rw [rk.len]; exact hz), l, hg.wr (hg.notup e) ⟨_, upd_same, (rk.put ks rv).le l⟩⟩
section
variable {X : Cx} {o i e f value : Expr} {mo mi me mf mv : ME} {pos pos' apos cpos : Pos}
def mDGet (mo mi : ME) : ME := fun r G R => mo r G fun s G1 => mi r G1 fun t G2 => ∃ a u, s = .ref a ∧ gtT G2 a t (some u) ∧ R u G2
theorem o_dget (hu : X.A.units + 1 < cLine) (ho : OE X o mo) (hi : OE X i mi) (hs : NoSl i) : OE X (.Subscript o i pos) (mDGet mo mi) := ⟨(pe_dget hu ho.ok hi.ok hs).imp fun σ H Q q => by
  obtain ⟨r, G, R, hs, hg, k, f⟩ := q
  refine ⟨r, G, _, hs, hg, k, fun s G1 H1 x k1 l1 g1 r1 => ⟨r, G1, _, hs.le l1, g1, k1, fun t G2 H2 y k2 l2 g2 r2 => ?_⟩⟩
  obtain ⟨a, u, rfl, h, k3⟩ := k2
  obtain ⟨ov, d, ro⟩ := h.get g2 r2
  cases ov with
  | none => exact ro.elim
  | some v => exact ⟨a, v, r1, d, (f.le (l1.trans l2)).val g2 k3 ro⟩⟩
def mDIn (neg : Bool) (mi mo : ME) : ME := fun r G R => mi r G fun t G1 => mo r G1 fun s G2 => ∃ a u, s = .ref a ∧ gtT G2 a t u ∧ R (.bl (if neg then !u.isSome else u.isSome)) G2
theorem din_li {K : PySem.W.Frag} {mi mo : ME} {σ : St} {H : Hp} {Q : VK} (h : liE K (mDIn false mi mo) σ H Q) : tDIn (liE K mi) (liE K mo) σ H Q := by
  obtain ⟨r, G, R, hs, hg, k, f⟩ := h
  refine ⟨r, G, _, hs, hg, k, fun t G1 H1 y k1 l1 g1 r1 => ⟨r, G1, _, hs.le l1, g1, k1, fun s G2 H2 x k2 l2 g2 r2 => ?_⟩⟩
  obtain ⟨a, u, rfl, h, k3⟩ := k2
  obtain ⟨ov, d, ro⟩ := h.get g2 (r1.le l2)
  refine ⟨a, ov, r2, d, ?_⟩
  have e : ov.isSome = u.isSome := by cases ov <;> cases u <;> first | rfl | exact ro.elim
  rw [e]
  exact (f.le (l1.trans l2)).val g2 k3 rfl
theorem dnin_li {K : PySem.W.Frag} {mi mo : ME} {σ : St} {H : Hp} {Q : VK} (h : liE K (mDIn true mi mo) σ H Q) : tDNotIn (liE K mi) (liE K mo) σ H Q := by
  obtain ⟨r, G, R, hs, hg, k, f⟩ := h
  refine ⟨r, G, _, hs, hg, k, fun t G1 H1 y k1 l1 g1 r1 => ⟨r, G1, _, hs.le l1, g1, k1, fun s G2 H2 x k2 l2 g2 r2 => ?_⟩⟩
  obtain ⟨a, u, rfl, h, k3⟩ := k2
  obtain ⟨ov, d, ro⟩ := h.get g2 (r1.le l2)
  refine ⟨a, ov, r2, d, ?_⟩
  have e : ov.isSome = u.isSome := by cases ov <;> cases u <;> first | rfl | exact ro.elim
  rw [e]
  exact (f.le (l1.trans l2)).val g2 k3 rfl
theorem tB_li {K : PySem.W.Frag} {m : ME} {te : TE} (h : ∀ σ H Q, liE K m σ H Q → te σ H Q) {σ : St} {H : Hp} {Q : Bool → Hp → Prop} (q : liT K (mB m) σ H Q) : tB te σ H Q := h _ _ _ (test_li q)
theorem o_din (hu : X.A.units + 1 < cLine) (hi : OE X i mi) (ho : OE X o mo) (hb : behindInMarks .In o = false := by rfl) : OE X (.Compare i [.In] [o] pos) (mDIn false mi mo) := ⟨(pe_cmp (pc_din hu hi.ok ho.ok) hb).imp fun _ _ _ q => din_li q⟩
theorem t_din (hu : X.A.units + 1 < cLine) (hi : OE X i mi) (ho : OE X o mo) (hb : behindInMarks .In o = false := by rfl) : OT X (.Compare i [.In] [o] pos) (mB (mDIn false mi mo)) := ⟨(pt_cmp (pc_din hu hi.ok ho.ok) hb).imp fun _ _ _ q => tB_li (fun _ _ _ z => din_li z) q⟩
theorem o_dnin (hu : X.A.units + 1 < cLine) (hi : OE X i mi) (ho : OE X o mo) (hb : behindInMarks .NotIn o = false := by rfl) : OE X (.Compare i [.NotIn] [o] pos) (mDIn true mi mo) := ⟨(pe_cmp (pc_dnotin hu hi.ok ho.ok) hb).imp fun _ _ _ q => dnin_li q⟩
theorem t_dnin (hu : X.A.units + 1 < cLine) (hi : OE X i mi) (ho : OE X o mo) (hb : behindInMarks .NotIn o = false := by rfl) : OT X (.Compare i [.NotIn] [o] pos) (mB (mDIn true mi mo)) := ⟨(pt_cmp (pc_dnotin hu hi.ok ho.ok) hb).imp fun _ _ _ q => tB_li (fun _ _ _ z => dnin_li z) q⟩
def msDPut (mo mi mv : ME) : MS := fun M r G => mv r G fun u G1 => mo r G1 fun s G2 => mi r G2 fun t G3 => ∃ a G4, s = .ref a ∧ ptT G3 a t u G4 ∧ M.nx r G4
theorem s_dput (hu : X.A.units + 1 < cLine) (ho : OE X o mo) (hi : OE X i mi) (hv : OE X value mv) (hs : swapsWith value (some (.Subscript o i pos')) pos.line X.env = pure false := by rfl) :
    OS X (.Assign [.Subscript o i pos'] value pos) (msDPut mo mi mv) := ⟨(ps_dput hu ho.ok hi.ok hv.ok hs).imp fun D σ H q => by
  obtain ⟨r, G, M, hs, hg, k, f, _⟩ := q
  refine ⟨r, G, _, hs, hg, k, fun u G1 H1 v k1 l1 g1 r1 => ⟨r, G1, _, hs.le l1, g1, k1, fun s G2 H2 x k2 l2 g2 r2 => ⟨r, G2, _, hs.le (l1.trans l2), g2, k2, fun t G3 H3 y k3 l3 g3 r3 => ?_⟩⟩⟩
  obtain ⟨a, G4, rfl, h, k4⟩ := k3
  obtain ⟨H4, d, l4, g4⟩ := h.put g3 r3 (r1.le (l2.trans l3))
  have la := l1.trans (l2.trans (l3.trans l4))
  exact ⟨a, H4, r2, d, f r G4 σ H4 k4 la (hs.le la) g4⟩⟩
def osDct : OSt := fun s t u G R => ∃ a G4, s = .ref a ∧ ptT G a t u G4 ∧ R G4
theorem set_osDct (hu : X.A.units + 1 < cLine) : PSet X (liSt X.K osDct) := PSet.imp (r := rSetD) (set_dict hu) fun x y v H Q h => by
  obtain ⟨s, t, u, G, R, rx, ry, rv, hg, ⟨a, G4, rfl, h, k⟩, f⟩ := h
  obtain ⟨H4, d, l4, g4⟩ := h.put hg ry rv
  exact ⟨a, H4, rx, d, f G4 H4 k l4 g4⟩
def isDct (G : Gp) (a : Addr) : Prop := (∃ kvs, G a = some (.dK kvs)) ∨ ∃ kvs, G a = some (.dT kvs)
theorem isDct.isD {K : PySem.W.Frag} {H : Hp} {G : Gp} {a : Addr} (hg : RG K H G) (h : isDct G a) : IsD H a := by
  rcases h with ⟨kvs, e⟩ | ⟨kvs, e⟩
  · obtain ⟨vs, e, _⟩ := hg _ _ e; exact .inl ⟨vs, .inl e⟩
  · obtain ⟨vs, e, _⟩ := hg _ _ e; exact .inr ⟨vs, .inl e⟩
def mGet1 (mo me : ME) : ME := fun r G R => mo r G fun s G1 => ∃ a, s = .ref a ∧ isDct G1 a ∧ me r G1 fun t G2 => ∃ u, gtT G2 a t u ∧ R (u.getD .non) G2
theorem o_get1 (hu : X.A.units + 1 < cLine) (ho : OE X o mo) (he : OE X e me) (m : M1 X o "get" apos e cpos) : OE X (.Call (.Attribute o "get" apos) [e] [] cpos) (mGet1 mo me) := ⟨(pe_dget1 hu ho.ok he.ok m).imp fun σ H Q q => by
  obtain ⟨r, G, R, hs, hg, k, f⟩ := q
  refine ⟨r, G, _, hs, hg, k, fun s G1 H1 x k1 l1 g1 r1 => ?_⟩
  obtain ⟨a, rfl, hd, k1⟩ := k1
  refine ⟨a, r1, hd.isD g1, r, G1, _, hs.le l1, g1, k1, fun t G2 H2 y k2 l2 g2 r2 => ?_⟩
  obtain ⟨u, h, k3⟩ := k2
  obtain ⟨ov, d, ro⟩ := h.get g2 r2
  refine ⟨ov, d, (f.le (l1.trans l2)).val g2 k3 ?_⟩
  cases ov <;> cases u <;> first | exact ro | exact ro.elim | rfl⟩
def mGet2 (mo me mf : ME) : ME := fun r G R => mo r G fun s G1 => ∃ a, s = .ref a ∧ isDct G1 a ∧ me r G1 fun t G2 => mf r G2 fun w G3 => ∃ u, gtT G3 a t u ∧ R (u.getD w) G3
theorem o_get2 (hu : X.A.units + 1 < cLine) (ho : OE X o mo) (he : OE X e me) (hf : OE X f mf) (m : M2 X o "get" apos e f cpos) : OE X (.Call (.Attribute o "get" apos) [e, f] [] cpos) (mGet2 mo me mf) := ⟨(pe_dget2 hu ho.ok he.ok hf.ok m).imp fun σ H Q q => by
  obtain ⟨r, G, R, hs, hg, k, f⟩ := q
  refine ⟨r, G, _, hs, hg, k, fun s G1 H1 x k1 l1 g1 r1 => ?_⟩
  obtain ⟨a, rfl, hd, k1⟩ := k1
  refine ⟨a, r1, hd.isD g1, r, G1, _, hs.le l1, g1, k1, fun t G2 H2 y k2 l2 g2 r2 => ?_⟩
  refine ⟨r, G2, _, hs.le (l1.trans l2), g2, k2, fun w G3 H3 z k3 l3 g3 r3 => ?_⟩
  obtain ⟨u, h, k4⟩ := k3
  obtain ⟨ov, d, ro⟩ := h.get g3 (r2.le l3)
  refine ⟨ov, d, (f.le (l1.trans (l2.trans l3))).val g3 k4 ?_⟩
  cases ov <;> cases u <;> first | exact ro | exact ro.elim | exact r3⟩
def mSetd (mo me mf : ME) : ME := fun r G R => mo r G fun s G1 => ∃ a, s = .ref a ∧ isDct G1 a ∧ me r G1 fun t G2 => mf r G2 fun w G3 => ∃ kvs k, G3 a = some (.dK kvs) ∧ t = kT k ∧ kvs.length < sizeLine ∧
  (∀ u, lookT kvs k = some u → R u G3) ∧ (lookT kvs k = none → R w (put G3 a (.dK (putT kvs k w))))
theorem o_setd (ho : OE X o mo) (he : OE X e me) (hf : OE X f mf) (m : M2 X o "setdefault" apos e f cpos) : OE X (.Call (.Attribute o "setdefault" apos) [e, f] [] cpos) (mSetd mo me mf) := ⟨(pe_dsetd ho.ok he.ok hf.ok m).imp fun σ H Q q => by
  obtain ⟨r, G, R, hs, hg, k, f⟩ := q
  refine ⟨r, G, _, hs, hg, k, fun s G1 H1 x k1 l1 g1 r1 => ?_⟩
  obtain ⟨a, rfl, hd, k1⟩ := k1
  refine ⟨a, r1, hd.isD g1, r, G1, _, hs.le l1, g1, k1, fun t G2 H2 y k2 l2 g2 r2 => ?_⟩
  refine ⟨r, G2, _, hs.le (l1.trans l2), g2, k2, fun w G3 H3 z k3 l3 g3 r3 => ?_⟩
  obtain ⟨kvs, kk, e, rfl, hz, k4, k5⟩ := k3
  obtain ⟨vs, e1, rk⟩ := g3 _ _ e
  have ro := rk.look kk
  have f3 := f.le (l1.trans (l2.trans l3))
  refine ⟨vs, kk, e1, kT_rp r2, by rw [rk.len]; exact hz, fun v hv => ?_, fun hv => ?_⟩
  · rw [hv] at ro
    cases hl : lookT kvs kk with
    | none => rw [hl] at ro; exact ro.elim
    | some u => rw [hl] at ro; exact f3.val g3 (k4 u hl) ro
  · rw [hv] at ro
    cases hl : lookT kvs kk with
    | some u => rw [hl] at ro; exact ro.elim
    | none =>
      have l := Le.wr (o := .dK (putK vs kk z)) (g3.notup e)
      exact f3.wr g3 e (k5 hl) ⟨_, upd_same, (rk.put kk r3).le l⟩ r3⟩
def mDNew : ME := fun _ G R => ∀ p, G p = none → R (.ref p) (put G p (.dK []))
theorem o_dnew : OE X (.Dict [] [] pos) mDNew := ⟨pe_dnewK.imp fun σ H Q q => by
  obtain ⟨r, G, R, hs, hg, k, f⟩ := q
  exact fun p hp => f.newC hg hp (k p (hg.fresh hp)) ⟨[], upd_same, rfl, rfl⟩⟩
def mDNewT : ME := fun _ G R => ∀ p, G p = none → R (.ref p) (put G p (.dT []))
theorem o_dnewT : OE X (.Dict [] [] pos) mDNewT := ⟨pe_dnewT.imp fun σ H Q q => by
  obtain ⟨r, G, R, hs, hg, k, f⟩ := q
  exact fun p hp => f.newC hg hp (k p (hg.fresh hp)) ⟨[], upd_same, rfl, rfl⟩⟩
/-- {k: v, ..}, the keys written texts -/
def mPairs : List (Str × ME) → Env → Gp → (List (Key × T) → Gp → Prop) → Prop
  | [], _, G, R => R [] G
  | (k, m) :: ps, r, G, R => m r G fun t G1 => mPairs ps r G1 fun kvs G2 => R ((.inr k, t) :: kvs) G2
def mergeT (kvs more : List (Key × T)) : List (Key × T) := more.foldl (fun acc kv => putT acc kv.1 kv.2) kvs
def mDisp (ps : List (Str × ME)) : ME := fun r G R => ∀ p, G p = none → mPairs ps r (put G p (.dK [])) fun kvs G2 => G2 p = some (.dK []) ∧ kvs.length ≤ 15 ∧ R (.ref p) (put G2 p (.dK (mergeT [] kvs)))
/-- the terms of a display, one by one -/
structure OPs (X : Cx) (pos : Pos) (keys : List (Option Expr)) (values : List Expr) (ps : List (Str × ME)) (trs : List (TE × TE)) : Prop where
  ok : PPs X pos keys values trs
  imp : ∀ σ H (Q : List (V × V) → Hp → Prop) r G R, RS X.K H σ r → RG X.K H G → mPairs ps r G R → (∀ kvs G' H' vs, R kvs G' → Le H H' → RG X.K H' G' → Rkv X.K H' vs kvs → Q (vs.map fun kv => (kV kv.1, kv.2)) H') → tPairs trs σ H Q
theorem ops_nil : OPs X pos [] [] [] [] := ⟨pps_nil, fun σ H Q r G R hs hg k f => f [] G H [] k (Le.refl H) hg ⟨rfl, rfl⟩⟩
theorem ops_cons {k v : Expr} {x : Str} {ks : List (Option Expr)} {vs : List Expr} {m : ME} {ps : List (Str × ME)} {trs : List (TE × TE)} (hk : PE X k (tC (.str x))) (hv : OE X v m) (h : OPs X pos ks vs ps trs) :
    OPs X pos (some k :: ks) (v :: vs) ((x, m) :: ps) ((tC (.str x), liE X.K m) :: trs) :=
  ⟨pps_cons hk hv.ok h.ok, fun σ H Q r G R hs hg k f => ⟨r, G, _, hs, hg, k, fun t G1 H1 v k1 l1 g1 r1 => h.imp σ H1 _ r G1 _ (hs.le l1) g1 k1 fun kvs G2 H2 ws k2 l2 g2 r2 => f ((.inr x, t) :: kvs) G2 H2 ((.inr x, v) :: ws) k2 (l1.trans l2) g2 (Rkv.cons (r1.le l2) r2)⟩⟩
theorem Rkv.merge {K : PySem.W.Frag} {H : Hp} : ∀ {more : List (Key × T)} {mv : List (Key × V)} {vs : List (Key × V)} {ts : List (Key × T)}, Rkv K H mv more → Rkv K H vs ts → Rkv K H (mergeK vs mv) (mergeT ts more)
  | [], mv, vs, ts, h, h2 => by rw [h.nil_r]; exact h2
  | (k, t) :: more, mv, vs, ts, h, h2 => by
    obtain ⟨v, r, rfl, r1, r2⟩ := h.cons_r
    show Rkv K H (mergeK (putK vs k v) r) (mergeT (putT ts k t) more)
    exact Rkv.merge (more := more) r2 (h2.put k r1)
theorem o_disp {keys : List (Option Expr)} {values : List Expr} {ps : List (Str × ME)} {trs : List (TE × TE)} (h : OPs X pos keys values ps trs) (hall : keys.all (·.isSome) = true := by rfl) (hl : keys.length = values.length := by rfl) (h0 : keys ≠ [] := by simp) (h15 : keys.length ≤ 15 := by decide) :
    OE X (.Dict keys values pos) (mDisp ps) := ⟨(pe_disp h.ok hall hl h0 h15).imp fun σ H Q q => by
  obtain ⟨r, G, R, hs, hg, k, f⟩ := q
  intro p hp
  have ln := Le.new (o := HO.dK []) hp
  refine h.imp σ _ _ r _ _ (hs.le ln) (hg.wr (nt_none hp) (c := .dK []) ⟨[], upd_same, rfl, rfl⟩) (k p (hg.fresh hp)) fun kvs G2 H2 vs k2 l2 g2 r2 => ?_
  obtain ⟨e, hz, k3⟩ := k2
  obtain ⟨ws, e1, rk⟩ := g2 _ _ e
  have : ws = [] := rk.nil_r
  subst this
  refine ⟨e1, vs, rfl, by rw [r2.len]; exact hz, ?_⟩
  have l := Le.wr (o := .dK (mergeK [] vs)) (g2.notup e)
  exact (f.le (ln.trans l2)).wr g2 e k3 ⟨_, upd_same, (Rkv.merge (vs := []) (ts := []) r2 ⟨rfl, rfl⟩).le l⟩ rfl⟩
/-- dict(d) -/
def omDictD : Sm := fun ts G R => ∃ a kvs, ts = [.ref a] ∧ G a = some (.dK kvs) ∧ ∀ p, G p = none → R (.ref p) (put G p (.dK kvs))
theorem c_dictD : CallR X (.type "dict") (liC X.K omDictD) := call_dictD.imp fun xs H Q h => by
  obtain ⟨ts, G, R, rv, hg, ⟨a, kvs, rfl, e, k⟩, f⟩ := h
  obtain ⟨v, rfl, r⟩ := rv.get1
  cases r
  obtain ⟨vs, e1, rk⟩ := hg _ _ e
  exact ⟨a, vs, rfl, .inl e1, fun p hp => f.newC hg hp (k p (hg.fresh hp)) ⟨vs, upd_same, rk.le (Le.new hp)⟩⟩
end
end Mi

set_option Elab.async false
set_option linter.all false
set_option maxRecDepth 100000
namespace Mi
open PySem L2
section
variable {X : Cx} {a b e : Expr} {ma mb m : ME} {mas : MA} {pos p : Pos} {tg : Expr} {rest : List Expr}
/-! ### and, or, not as values, by truth -/
def mOrV (ma mb : ME) : ME := fun r G R => ma r G fun t G1 => ∃ k, truT G1 t k ∧ if k = true then R t G1 else mb r G1 R
def mAndV (ma mb : ME) : ME := fun r G R => ma r G fun t G1 => ∃ k, truT G1 t k ∧ if k = true then mb r G1 R else R t G1
def mNotV (ma : ME) : ME := fun r G R => ma r G fun t G1 => ∃ k, truT G1 t k ∧ R (.bl (!k)) G1
theorem o_or (ha : OE X a ma) (hb : OE X (.BoolOp .Or (b :: rest) pos) mb) : OE X (.BoolOp .Or (a :: b :: rest) pos) (mOrV ma mb) := ⟨(pe_orT ha.ok hb.ok).imp fun σ H Q q => by
  obtain ⟨r, G, R, hs, hg, k, f⟩ := q
  refine ⟨r, G, _, hs, hg, k, fun t G1 H1 x k1 l1 g1 r1 => ?_⟩
  obtain ⟨c, h, k2⟩ := k1
  refine ⟨c, tru_rp g1 r1 h, ?_⟩
  cases c with
  | true => rw [if_pos rfl] at k2; exact iteT ((f.le l1).val g1 k2 r1)
  | false => rw [if_neg Bool.false_ne_true] at k2; exact iteF ⟨r, G1, R, hs.le l1, g1, k2, f.le l1⟩⟩
theorem o_and (ha : OE X a ma) (hb : OE X (.BoolOp .And (b :: rest) pos) mb) : OE X (.BoolOp .And (a :: b :: rest) pos) (mAndV ma mb) := ⟨(pe_andT ha.ok hb.ok).imp fun σ H Q q => by
  obtain ⟨r, G, R, hs, hg, k, f⟩ := q
  refine ⟨r, G, _, hs, hg, k, fun t G1 H1 x k1 l1 g1 r1 => ?_⟩
  obtain ⟨c, h, k2⟩ := k1
  refine ⟨c, tru_rp g1 r1 h, ?_⟩
  cases c with
  | true => rw [if_pos rfl] at k2; exact iteT ⟨r, G1, R, hs.le l1, g1, k2, f.le l1⟩
  | false => rw [if_neg Bool.false_ne_true] at k2; exact iteF ((f.le l1).val g1 k2 r1)⟩
theorem o_one {op : BoolOp} (h : OE X a ma) : OE X (.BoolOp op [a] pos) ma := ⟨pe_one h.ok⟩
theorem o_not (ha : OE X a ma) : OE X (.UnaryOp .Not a pos) (mNotV ma) := ⟨(pe_notT ha.ok).imp fun σ H Q q => by
  obtain ⟨r, G, R, hs, hg, k, f⟩ := q
  refine ⟨r, G, _, hs, hg, k, fun t G1 H1 x k1 l1 g1 r1 => ?_⟩
  obtain ⟨c, h, k2⟩ := k1
  exact ⟨c, tru_rp g1 r1 h, (f.le l1).val g1 k2 rfl⟩⟩
def mNeg (m : ME) : ME := fun r G R => m r G fun t G1 => ∃ i, t = .int i ∧ R (.int (-i)) G1
theorem o_neg (h : OE X a ma) : OE X (.UnaryOp .USub a pos) (mNeg ma) := ⟨(pe_un un_neg h.ok).imp fun σ H Q q => by
  obtain ⟨r, G, R, hs, hg, k, f⟩ := q
  refine ⟨r, G, _, hs, hg, k, fun t G1 H1 x k1 l1 g1 r1 => ?_⟩
  obtain ⟨i, rfl, k2⟩ := k1
  cases r1
  exact ⟨i, rfl, (f.le l1).val g1 k2 rfl⟩⟩

/-! ### range, reversed -/
def rangeT (lo : Int) (n : Nat) : List T := (List.range n).map fun i => T.int (lo + (i : Nat))
def miRange (m : ME) : MI := fun r G N => m r G fun t G1 => ∃ j, t = .int j ∧ -(2 ^ 62) ≤ j ∧ j < 2 ^ 62 ∧ N ⟨rangeT 0 j.toNat, []⟩ G1
theorem walks_range {K : PySem.W.Frag} {H : Hp} {lo : Int} {n : Nat} : Walks K H (Itr lo n) ⟨rangeT lo n, []⟩ := by
  intro H' G' l g _
  refine ⟨fun i t ht => ?_, ?_⟩
  · have hi : i < n := by
      have := (List.getElem?_eq_some_iff.mp ht).1
      simpa [rangeT] using this
    have e : t = .int (lo + (i : Nat)) := by
      simp [rangeT, hi] at ht
      exact ht.symm
    subst e
    exact ⟨hi, fun x H2 ⟨e1, e2⟩ => by subst e1 e2; exact ⟨Le.refl _, g, rfl⟩⟩
  · show n ≤ (rangeT lo n).length
    simp [rangeT]
theorem i_range (hg : Gl X "range") (hm : X.mg "range" = none) (ha : OE X a ma) (hs : starEach [a] X.env = [(false, eval a X.env)] := by rfl) : OI X tg (.Call (.Name "range" p) [a] [] pos) (miRange ma) :=
  ⟨(pi_range1 hg hm (pa_cons ha.ok pa_nil hs) hs).imp fun σ H R q => by
    obtain ⟨r, G, N, hs, hg, k, f⟩ := q
    refine ⟨r, G, _, hs, hg, k, fun t G1 H1 v k1 l1 g1 r1 => ?_⟩
    obtain ⟨j, rfl, h1, h2, k2⟩ := k1
    cases r1
    exact ⟨j, rfl, h1, h2, f _ G1 H1 _ k2 l1 g1 walks_range⟩⟩
def miRange2 (m m2 : ME) : MI := fun r G N => m r G fun t G1 => m2 r G1 fun u G2 => ∃ i j, t = .int i ∧ u = .int j ∧ (-(2 ^ 62) ≤ i ∧ i < 2 ^ 62 ∧ -(2 ^ 62) ≤ j ∧ j < 2 ^ 62) ∧ N ⟨rangeT i (j - i).toNat, []⟩ G2
theorem i_range2 (hg : Gl X "range") (hm : X.mg "range" = none) (ha : OE X a ma) (hb : OE X b mb) (hs : starEach [a, b] X.env = [(false, eval a X.env), (false, eval b X.env)] := by rfl) (hs2 : starEach [b] X.env = [(false, eval b X.env)] := by rfl) :
    OI X tg (.Call (.Name "range" p) [a, b] [] pos) (miRange2 ma mb) :=
  ⟨(pi_range2 hg hm (pa_cons ha.ok (pa_cons hb.ok pa_nil hs2) (by rw [hs, hs2])) hs hs2).imp fun σ H R q => by
    obtain ⟨r, G, N, hs, hg, k, f⟩ := q
    refine ⟨r, G, _, hs, hg, k, fun t G1 H1 v k1 l1 g1 r1 => ⟨r, G1, _, hs.le l1, g1, k1, fun u G2 H2 w k2 l2 g2 r2 => ?_⟩⟩
    obtain ⟨i, j, rfl, rfl, h1, k3⟩ := k2
    cases r1; cases r2
    exact ⟨i, j, rfl, h1, f _ G2 H2 _ k3 (l1.trans l2) g2 walks_range⟩⟩
theorem isL.stay {K : PySem.W.Frag} {H : Hp} {G : Gp} {t : T} {ts : List T} {x : V} (hg : RG K H G) (h : isL G t ts) (rx : Rp K H x t) : ∃ a, x = .ref a ∧ (∀ H' G', Le H H' → RG K H' G' → Held G' (heldT t ts) → ∃ vs, SqL K H' a vs ∧ Rps K H' vs ts) ∧ Held G (heldT t ts) := by
  rcases h with rfl | ⟨a, rfl, h⟩
  · obtain ⟨p, vs, rfl, hq, hz, rv⟩ := rx
    exact ⟨p, rfl, fun H' G' l _ _ => ⟨vs, (l.sqc hq).seq, rv.le l⟩, fun p hp => by cases hp⟩
  · cases rx
    refine ⟨a, rfl, fun H' G' l g hh => ?_, fun p hp => ?_⟩
    · obtain ⟨vs, e, rv⟩ := lst_of g (hh (a, ts) (by simp [heldT]))
      exact ⟨vs, SqL.of e, rv⟩
    · have e : p = (a, ts) := by simpa [heldT] using hp
      subst e; exact h
/-- reversed(xs), xs a list -/
def miRev (m : ME) : MI := fun r G N => m r G fun t G1 => ∃ ts, isL G1 t ts ∧ N ⟨ts.reverse, heldT t ts⟩ G1
theorem walks_rev {K : PySem.W.Frag} {H : Hp} {a : Addr} {held : List (Addr × List T)} {ts : List T} (h : ∀ H' G', Le H H' → RG K H' G' → Held G' held → ∃ vs, SqL K H' a vs ∧ Rps K H' vs ts) : Walks K H (Itv K a ts.length) ⟨ts.reverse, held⟩ := by
  intro H' G' l g hh
  obtain ⟨vs, hq, rv⟩ := h H' G' l g hh
  have hl := rv.length
  refine ⟨fun i t ht => ?_, ?_⟩
  · have hi : i < ts.length := by
      have := (List.getElem?_eq_some_iff.mp ht).1
      simpa using this
    rw [List.getElem?_reverse hi] at ht
    obtain ⟨v, hv, r⟩ := rv.get ht
    refine ⟨⟨hi, vs, v, hq, hv⟩, fun x H2 ⟨e1, y⟩ => ?_⟩
    subst e1
    have := y vs hq
    rw [hv] at this; cases this
    exact ⟨Le.refl _, g, r⟩
  · show ts.length ≤ ts.reverse.length
    simp
theorem i_rev (hg : Gl X "reversed") (hm : X.mg "reversed" = none) (ha : OE X a ma) (hs : starEach [a] X.env = [(false, eval a X.env)] := by rfl) : OI X tg (.Call (.Name "reversed" p) [a] [] pos) (miRev ma) :=
  ⟨(pi_reversed hg hm (pa_cons ha.ok pa_nil hs) hs).imp fun σ H R q => by
    obtain ⟨r, G, N, hs, hg, k, f⟩ := q
    refine ⟨r, G, _, hs, hg, k, fun t G1 H1 v k1 l1 g1 r1 => ?_⟩
    obtain ⟨ts, h1, k2⟩ := k1
    obtain ⟨a, rfl, stay, held⟩ := h1.stay g1 r1
    obtain ⟨vs, hq, rv⟩ := stay H1 G1 (Le.refl _) g1 held
    refine ⟨a, vs, rfl, hq, ?_⟩
    rw [rv.length]
    exact f _ G1 H1 _ k2 l1 g1 (walks_rev stay)⟩
end
end Mi

set_option Elab.async false
set_option linter.all false
set_option maxRecDepth 100000
namespace Mi
open PySem L2
/-! ### a def, whole -/
/-- forgetting at a return -/
def fwdT (R : KT) : KT := fun t G' => ∃ G, Sub G G' ∧ R t G
theorem fwdT.of {R : KT} {t : T} {G : Gp} (h : R t G) : fwdT R t G := ⟨G, Sub.refl G, h⟩
def spOf (n p : Nat) (b : MS) : Sm := fun ts G R => ts.length = p ∧ b { nx := fun _ G' => fwdT R .non G', rt := fwdT R } (ts.map some ++ List.replicate (n - p) none) G
def noSp : Sm := fun _ _ _ => False
theorem start_rs {K : PySem.W.Frag} {H : Hp} {N : List Str} {vs : List V} {ts : List T} (h : Rps K H vs ts) : RS K H (L2.start N vs) (ts.map some ++ List.replicate (N.length - ts.length) none) := by
  have hl := h.length
  refine ⟨by unfold L2.start; simp [hl], fun i t e => ?_⟩
  by_cases hi : i < ts.length
  · rw [List.getElem?_append_left (by simpa using hi), List.getElem?_map] at e
    cases e0 : ts[i]? with
    | none => rw [e0] at e; cases e
    | some u =>
      rw [e0] at e; cases e
      obtain ⟨v, hv, r⟩ := h.get e0
      refine ⟨v, ?_, r⟩
      unfold L2.start
      rw [List.getElem?_append_left (by simpa [hl] using hi), List.getElem?_map, hv]
      rfl
  · rw [List.getElem?_append_right (by simpa using Nat.le_of_not_lt hi)] at e
    rw [List.getElem?_replicate] at e
    split at e <;> cases e
section
variable {P : Program} {w : World} {K : PySem.W.Frag} {mg : Str → Option Value} {base : Heap}
theorem fn_ok {x qual : Str} {st : Stmt} {f : Addr} {fd : FuncData} {N ps : List Str} {k : Nat} {b : MS} (F : Fun K x qual st f fd) (S : FnScope N ps (defScope st))
    (hb : ∀ (cdv : Value) (A : Around) (outer : List PySem.Env) (s : Shared) (H : Hp) (E : XK), Room k (A.deeper (PyProof.Rows.envOfC qual (defScope st) s.heap.objs.size f cdv)) → OSs (cxOf CX0 P w K mg base N qual (defScope st) f cdv A outer s H E).nox (defBody st) b) :
    FnOk P w K mg base CX0 (k + 1) f fd ps (liM K (spOf N.length ps.length b)) := by
  refine F.ok S (fun vs H Q E h => ?_) (fun cdv A outer s H vs Q E hr h => ?_)
  · obtain ⟨ts, G, R, r, hg, ⟨hl, _⟩, _⟩ := h
    rw [r.length]; exact hl
  · obtain ⟨ts, G, R, r, hg, ⟨hl, hbody⟩, f⟩ := h
    have give : Gives K H (fwdT R) Q := fun t G' H' v ⟨G2, e, k⟩ l g rv => f t G2 H' v k l (g.sub e) rv
    have rs := start_rs (N := N) r
    rw [hl] at rs
    exact ⟨_, (hb cdv A outer s H E hr).ok, _, G, _, rs, hg, hbody, fun r' G' σ' H' k l hs g => give .non G' H' .non k l g rfl, give, fun _ _ _ _ z => z.elim, fun _ _ _ _ z => z.elim⟩
theorem fn_none {f : Addr} {fd : FuncData} {ps : List Str} : FnOk P w K mg base CX0 0 f fd ps (liM K noSp) :=
  have no : ∀ vs H Q E, ¬ liM K noSp vs H Q E := fun vs H Q E ⟨_, _, _, _, _, z, _⟩ => z
  ⟨fun vs H Q E h => absurd h (no vs H Q E), fun A outer s H args us vs Q E _ _ _ _ h => absurd h (no vs H Q E)⟩
end
end Mi

set_option Elab.async false
set_option linter.all false
set_option maxRecDepth 100000
namespace Mi
open PySem L2
theorem hu65 {A : Around} {k : Nat} (hr : Room k A) : A.units + 65 < cLine := by have := hr.un; omega
section
variable {X : Cx}
def oMulU : O2 := fun s t G R => oMul s t G R ∨ oMulS s t G R
theorem O2.or_ok {f : Value → Value → Sem Value} {o o' : O2} (h : OpR X f (liO2 X.K o)) (h' : OpR X f (liO2 X.K o')) : OpR X f (liO2 X.K fun s t G R => o s t G R ∨ o' s t G R) :=
  (h.or h').imp fun x y H Q q => by
    obtain ⟨s, t, G, R, rx, ry, hg, k, f⟩ := q
    rcases k with k | k
    · exact .inl ⟨s, t, G, R, rx, ry, hg, k, f⟩
    · exact .inr ⟨s, t, G, R, rx, ry, hg, k, f⟩
theorem op_oMulU : OpR X (binaryOp .Mult) (liO2 X.K oMulU) := O2.or_ok op_oMul op_oMulS
def oInT (neg : Bool) : O2 := fun s t G R => ∃ (c : Nat) (z : Str), s = .str ⟨#[c]⟩ ∧ t = .str z ∧ R (.bl (if neg then !decide (c ∈ z.cps.toList) else decide (c ∈ z.cps.toList))) G
theorem op_oInT : OpR X (compareOp .In) (liO2 X.K (oInT false)) := op_in_sign.imp fun x y H Q q => by
  obtain ⟨s, t, G, R, rx, ry, hg, ⟨c, z, rfl, rfl, k⟩, f⟩ := q
  cases rx; cases ry
  exact ⟨c, z, rfl, rfl, f.val hg k rfl⟩
theorem op_oNotInT : OpR X (compareOp .NotIn) (liO2 X.K (oInT true)) := op_notIn_sign.imp fun x y H Q q => by
  obtain ⟨s, t, G, R, rx, ry, hg, ⟨c, z, rfl, rfl, k⟩, f⟩ := q
  cases rx; cases ry
  exact ⟨c, z, rfl, rfl, f.val hg k rfl⟩
def oInA (neg : Bool) : O2 := fun s t G R => oInF neg s t G R ∨ oInD neg s t G R ∨ oInT neg s t G R
theorem op_oInA (hu : X.A.units + 65 < cLine) : OpR X (compareOp .In) (liO2 X.K (oInA false)) := O2.or_ok op_oInF (O2.or_ok (op_oInD hu) op_oInT)
theorem op_oNotInA (hu : X.A.units + 65 < cLine) : OpR X (compareOp .NotIn) (liO2 X.K (oInA true)) := O2.or_ok op_oNotInF (O2.or_ok (op_oNotInD hu) op_oNotInT)
/-- sep.join(texts) -/
def omJoin : OM := fun t ts G R => ∃ (a : Str) (u : T) (ys : List Str), t = .str a ∧ ts = [u] ∧ isSq G u (ys.map T.str) ∧ (ys.map (·.length)).sum + ys.length * a.length ≤ 16777216 ∧ R (.str (Txt.join a ys)) G
theorem mt_oJoin : MtR X "str.join" (liB X.K omJoin) := MtR.imp mt_join fun x vs H Q h => by
  obtain ⟨t, ts, G, R, rx, rv, hg, ⟨a, u, ys, rfl, rfl, h1, hz, k⟩, f⟩ := h
  cases rx
  obtain ⟨v, rfl, r⟩ := rv.get1
  obtain ⟨p, ws, rfl, hq, rw⟩ := h1.seq hg r
  rw [strs_rp rw] at hq
  exact ⟨a, p, ys, rfl, rfl, hq, hz, f.val hg k rfl⟩
theorem Rps.erase {K : PySem.W.Frag} {H : Hp} : ∀ {vs : List V} {ts : List T} (k : Nat), Rps K H vs ts → Rps K H (vs.eraseIdx k) (ts.eraseIdx k)
  | vs, [], k, h => by cases h; exact rfl
  | vs, t :: ts, 0, h => by
    obtain ⟨v, r, rfl, r1, r2⟩ := h
    exact r2
  | vs, t :: ts, k + 1, h => by
    obtain ⟨v, r, rfl, r1, r2⟩ := h
    exact ⟨v, _, rfl, r1, Rps.erase k r2⟩
def omPopAt : OM := fun t ts G R => ∃ a xs i k u, t = .ref a ∧ ts = [.int i] ∧ G a = some (.lst xs) ∧ -(2 ^ 63) ≤ i ∧ i < 2 ^ 63 ∧ seqIndex? i xs.length = some k ∧ xs[k]? = some u ∧ R u (put G a (.lst (xs.eraseIdx k)))
theorem mt_oPopAt : MtR X "list.pop" (liB X.K omPopAt) := MtR.imp (r := rPopAt) mt_popAt fun x vs H Q h => by
  obtain ⟨t, ts, G, R, rx, rv, hg, ⟨a, xs, i, k, u, rfl, rfl, h1, h2, h3, h4, h5, kk⟩, f⟩ := h
  cases rx
  obtain ⟨v, rfl, r⟩ := rv.get1
  cases r
  obtain ⟨ws, e, rw⟩ := lst_of hg h1
  obtain ⟨w, hw, rwu⟩ := rw.get h5
  exact ⟨a, ws, i, k, w, rfl, rfl, e, h2, h3, by rw [rw.length]; exact h4, hw, f.wrL hg h1 kk (rw.erase k) rwu⟩
/-- d.update(d2) -/
theorem mergeK_len (more : List (Key × V)) : ∀ kvs : List (Key × V), (mergeK kvs more).length ≤ kvs.length + more.length := by
  induction more with
  | nil => intro kvs; exact Nat.le_refl _
  | cons p r ih =>
    intro kvs
    have h1 := ih (putK kvs p.1 p.2)
    have h2 := length_putK kvs p.1 p.2
    show (mergeK (putK kvs p.1 p.2) r).length ≤ _
    rw [List.length_cons]
    omega
def rUpd : V → List V → Hp → VK → Prop := fun x xs H Q => ∃ a b kvs more, x = .ref a ∧ xs = [.ref b] ∧ a ≠ b ∧ H a = some (.dK kvs) ∧ H b = some (.dK more) ∧ kvs.length + more.length ≤ sizeLine ∧ Q .non (upd H a (.dK (mergeK kvs more)))
theorem mt_dupd : MtR X "dict.update" rUpd := by
  intro pins s σ H x xs v us Q I rx rs q
  obtain ⟨a, b, kvs, more, rfl, rfl, ne, ea, eb, hz, k⟩ := q
  cases rx
  cases rs with
  | cons r1 rs =>
    cases rs
    cases r1
    obtain ⟨za, sa, va, ra, da⟩ := dk_of I.hok ea
    obtain ⟨zb, sb, vb, rb, db⟩ := dk_of I.hok eb
    have la : va.length = kvs.length := ra.length.symm
    have lb : vb.length = more.length := rb.length.symm
    refine call_meetsIn F.slot_dict_update da.typeIs F.entry_dict_update (F.args_dict_update_2 _ _) (meets_dict_update (mixKind X.prog X.w) a b ne sb) ⟨va, vb, da, db, by rw [la, lb]; exact hz, fun h' d1 d2 hs => ?_⟩
    have he : ∃ q, h'.get? a = some q := let ⟨q, _, _, hq, _⟩ := d1; ⟨q, hq⟩
    exact ⟨.non, _, d_write I (by rw [ea]; exact True.intro) hs he (dk_new (Nat.le_trans (mergeK_len more kvs) hz) sa (KV.merge rb ra) d1), rfl, k⟩
def omUpdate : OM := fun t ts G R => ∃ a b kvs more, t = .ref a ∧ ts = [.ref b] ∧ a ≠ b ∧ G a = some (.dK kvs) ∧ G b = some (.dK more) ∧ kvs.length + more.length ≤ sizeLine ∧ R .non (put G a (.dK (mergeT kvs more)))
theorem mt_oUpdate : MtR X "dict.update" (liB X.K omUpdate) := MtR.imp mt_dupd fun x vs H Q h => by
  obtain ⟨t, ts, G, R, rx, rv, hg, ⟨a, b, kvs, more, rfl, rfl, ne, e1, e2, hz, k⟩, f⟩ := h
  cases rx
  obtain ⟨v, rfl, r⟩ := rv.get1
  cases r
  obtain ⟨va, ea, ra⟩ := hg _ _ e1
  obtain ⟨vb, eb, rb⟩ := hg _ _ e2
  have l := Le.wr (o := .dK (mergeK va vb)) (hg.notup e1)
  exact ⟨a, b, va, vb, rfl, rfl, ne, ea, eb, by rw [ra.len, rb.len]; exact hz, f.wr hg e1 k ⟨_, upd_same, (Rkv.merge rb ra).le l⟩ rfl⟩
end
section
variable {X : Cx} {a b c : Expr} {mas : MA} {pos : Pos}
def msPar3 (i j l : Nat) (k : MA) : MS := fun M r G => k r G fun ts G1 => ∃ s t u, ts = [s, t, u] ∧ M.nx (((r.set i (some s)).set j (some t)).set l (some u)) G1
theorem s_par3 {i j l : Nat} {x y z : Str} {px py pz pt : Pos} {kt k2 pt2} (hc : X.calm = true) (hN : X.N.Nodup) (hi : X.N[i]? = some x) (hj : X.N[j]? = some y) (hl : X.N[l]? = some z) (hij : i ≠ j) (hil : i ≠ l) (hjl : j ≠ l)
    (hx : X.env.scope.names.lookup x = some .local) (hy : X.env.scope.names.lookup y = some .local) (hz : X.env.scope.names.lookup z = some .local) (ha : OA X [a, b, c] mas)
    (hw : swappedStores [.Tuple [.Name x px, .Name y py, .Name z pz] kt pt] (.Tuple [a, b, c] k2 pt2) X.env = pure (some [x, y, z]) := by rfl)
    (hs : swapsWithSole [.Tuple [.Name x px, .Name y py, .Name z pz] kt pt] (.Tuple [a, b, c] k2 pt2) pos.line X.env = pure false := by rfl) :
    OS X (.Assign [.Tuple [.Name x px, .Name y py, .Name z pz] kt pt] (.Tuple [a, b, c] k2 pt2) pos) (msPar3 i j l mas) :=
  ⟨(ps_par3 hc hN hi hj hl hij hil hjl hx hy hz ha.ok hw hs).imp fun D σ H q => by
    obtain ⟨r, G, M, hs, hg, k, f, _⟩ := q
    refine ⟨r, G, _, hs, hg, k, fun ts G1 H1 vs k1 l1 g1 r1 => ?_⟩
    obtain ⟨s, t, u, rfl, k2⟩ := k1
    obtain ⟨v, q1, rfl, a1, w, q2, rfl, a2, x3, q3, rfl, a3, e3⟩ := r1
    cases e3
    exact ⟨v, w, x3, rfl, f _ G1 _ H1 k2 l1 ((((hs.le l1).set i a1).set j a2).set l a3) g1⟩⟩

/-! ### two fors in a comprehension -/
def mLc2 (w : MI) (g : MG) (tt : MT) (w1 : MI) (g1 : MG) (tt1 : MT) (te : ME) (vs vs1 : List Nat) : ME := fun r G R => w r G fun m G1 => ∀ D, G1 D = none → ∃ W : Nat → Gp → Prop, W 0 (put G1 D (.lst [])) ∧ (∀ i G, W i G → Held G m.held) ∧
  (∀ i t G, m.its[i]? = some t → W i G → g t (wipeT r vs) G fun r2 G2 => tt r2 G2 fun b G3 => if b = true then
    w1 r2 G3 fun m1 G4 => ∃ W1 : Nat → Gp → Prop, W1 0 G4 ∧ (∀ j G, W1 j G → Held G m1.held) ∧
      (∀ j u G, m1.its[j]? = some u → W1 j G → g1 u (wipeT r2 vs1) G fun r3 G5 => tt1 r3 G5 fun b G6 => if b = true then te r3 G6 fun y G7 => ∃ acc, G7 D = some (.lst acc) ∧ acc.length < sizeLine ∧ fwdG (W1 (j + 1)) (put G7 D (.lst (acc ++ [y]))) else fwdG (W1 (j + 1)) G6) ∧
      ∀ G, W1 m1.its.length G → fwdG (W (i + 1)) G
    else fwdG (W (i + 1)) G3) ∧ ∀ G, W m.its.length G → R (.ref D) G
theorem wipe_idem (σ : St) (vs : List Nat) : wipe (wipe σ vs) vs = wipe σ vs := by
  apply List.ext_getElem?
  intro j
  rw [wipe_at, wipe_at, wipe_length]
  by_cases c : j ∈ vs ∧ j < σ.length
  · rw [if_pos c, if_pos c]
  · rw [if_neg c]
theorem lc2_li {wi w1 : MI} {g g1 : MG} {gt gt1 : TG} {tt tt1 : MT} {te : ME} {vs vs1 : List Nat} {K : PySem.W.Frag} (hg : Gimp K g vs gt) (hg1 : Gimp K g1 vs1 gt1) {σ : St} {H : Hp} {Q : VK} (h : liE K (mLc2 wi g tt w1 g1 tt1 te vs vs1) σ H Q) :
    tLc2 (liI K wi) gt (liT K tt) (liI K w1) gt1 (liT K tt1) (liE K te) vs vs1 σ H Q := by
  obtain ⟨r, G, R, hs, hg0, k, f⟩ := h
  refine ⟨r, G, _, hs, hg0, k, fun m G1 H1 J k1 l1 g1 hw => ?_⟩
  intro D hD
  obtain ⟨W, w0, wh, turn, done⟩ := k1 D (g1.fresh hD)
  have lD := Le.new (o := HO.lst []) hD
  refine ⟨fun i n H' => n = m.its.length - i ∧ i ≤ m.its.length ∧ ∃ G', RG K H' G' ∧ Le H1 H' ∧ W i G', ⟨m.its.length, by simp, Nat.zero_le _, _, g1.wr (nt_none hD) (RCell.l upd_same (ts := []) rfl), lD, w0⟩, ?_⟩
  rintro i n H2 ⟨rfl, hi, G2, g2, l2, w2⟩
  obtain ⟨hgo, hst⟩ := hw H2 G2 l2 g2 (wh i G2 w2)
  by_cases hlt : i < m.its.length
  · obtain ⟨go, yl⟩ := hgo i m.its[i] (by simp [hlt])
    refine .inr ⟨go, _, fun H' z => ⟨m.its.length - (i + 1), by omega, z⟩, fun x H3 y => ?_⟩
    obtain ⟨l3, g3, r3⟩ := yl x H3 y
    have la3 : Le H H3 := l1.trans (l2.trans l3)
    have back : ∀ H' G', Le H3 H' → RG K H' G' → fwdG (W (i + 1)) G' → m.its.length - (i + 1) = m.its.length - (i + 1) ∧ i + 1 ≤ m.its.length ∧ ∃ G', RG K H' G' ∧ Le H1 H' ∧ W (i + 1) G' := fun H' G' l' g' ⟨G6, e2, w6⟩ =>
      ⟨rfl, hlt, G6, g'.sub e2, l2.trans (l3.trans l'), w6⟩
    refine hg x _ H3 _ m.its[i] (wipeT r vs) G2 _ r3 ((hs.le la3).wipe vs) g3 (turn i _ G2 (by simp [hlt]) w2) fun r4 G4 σ4 H4 k4 l4 hs4 g4 e4 => ?_
    refine ⟨e4.trans (wipe_idem σ vs), r4, G4, _, hs4, g4, k4, fun b G5 H5 k5 l5 g5 => ?_⟩
    cases b with
    | false =>
      rw [if_neg Bool.false_ne_true] at k5
      exact iteF (back _ _ (l4.trans l5) g5 k5)
    | true =>
      rw [if_pos rfl] at k5
      refine iteT ⟨r4, G5, _, hs4.le l5, g5, k5, fun m1 G6 H6 J1 k6 l6 g6 hw1 => ?_⟩
      obtain ⟨W1, v0, vh, turn1, done1⟩ := k6
      refine ⟨fun j n H' => n = m1.its.length - j ∧ j ≤ m1.its.length ∧ ∃ G', RG K H' G' ∧ Le H6 H' ∧ W1 j G', ⟨m1.its.length, by simp, Nat.zero_le _, G6, g6, Le.refl _, v0⟩, ?_⟩
      rintro j n H7 ⟨rfl, hj, G7, g7, l7, v7⟩
      obtain ⟨hgo1, hst1⟩ := hw1 H7 G7 l7 g7 (vh j G7 v7)
      have lb : Le H3 H7 := l4.trans (l5.trans (l6.trans l7))
      by_cases hlt1 : j < m1.its.length
      · obtain ⟨go1, yl1⟩ := hgo1 j m1.its[j] (by simp [hlt1])
        refine .inr ⟨go1, _, fun H' z => ⟨m1.its.length - (j + 1), by omega, z⟩, fun x8 H8 y8 => ?_⟩
        obtain ⟨l8, g8, r8⟩ := yl1 x8 H8 y8
        have back1 : ∀ H' G', Le H8 H' → RG K H' G' → fwdG (W1 (j + 1)) G' → m1.its.length - (j + 1) = m1.its.length - (j + 1) ∧ j + 1 ≤ m1.its.length ∧ ∃ G', RG K H' G' ∧ Le H6 H' ∧ W1 (j + 1) G' := fun H' G' l' g' ⟨G6, e2, w6⟩ =>
          ⟨rfl, hlt1, G6, g'.sub e2, l7.trans (l8.trans l'), w6⟩
        refine hg1 x8 _ H8 _ m1.its[j] (wipeT r4 vs1) G7 _ r8 ((hs4.le (l5.trans (l6.trans (l7.trans l8)))).wipe vs1) g8 (turn1 j _ G7 (by simp [hlt1]) v7) fun r9 G9 σ9 H9 k9 l9 hs9 g9 e9 => ?_
        refine ⟨e9.trans (wipe_idem σ4 vs1), r9, G9, _, hs9, g9, k9, fun b G10 H10 k10 l10 g10 => ?_⟩
        cases b with
        | false =>
          rw [if_neg Bool.false_ne_true] at k10
          exact iteF (back1 _ _ (l9.trans l10) g10 k10)
        | true =>
          rw [if_pos rfl] at k10
          refine iteT ⟨r9, G10, _, hs9.le l10, g10, k10, fun u G11 H11 v k11 l11 g11 r11 => ?_⟩
          obtain ⟨acc, ha, hz, k11⟩ := k11
          obtain ⟨ws, ew, rw⟩ := lst_of g11 ha
          have l12 := Le.wr (o := .lst (ws ++ [v])) (g11.notup ha)
          exact ⟨ws, ew, by rw [rw.length]; exact hz, back1 _ _ (l9.trans (l10.trans (l11.trans l12))) (g11.wr (g11.notup ha) (RCell.l upd_same ((rw.append (Rps.one r11)).le l12))) k11⟩
      · have e : j = m1.its.length := by omega
        subst e
        exact .inl ⟨hst1, back _ _ lb g7 (done1 G7 v7)⟩
  · have e : i = m.its.length := by omega
    subst e
    exact .inl ⟨hst, f (.ref D) G2 H2 (.ref D) (done G2 w2) (l1.trans l2) g2 rfl⟩
section
variable {elt tg iter tg1 iter1 : Expr} {ifs ifs1 : List Expr} {scope : PySem.Scope} {own : List (Str × Nat)} {vs1 : List Nat} {wi wi1 : MI} {g g1 : MG} {gt gt1 : TG} {tt tt1 : MT} {te : ME}
theorem o_lc2 (hc : X.calm = true) (hN : X.N.Nodup) (hi : OI X tg iter wi) (ok : BlkOk X.N X.env.scope scope own) (hv : ∀ i ∈ vs1, i ∈ own.map (·.2))
    (hg : ∀ (s : Shared) (H : Hp) (C : Addr) (cl : List (Str × Addr)) (fp : List Addr), OGv (X.blk s H scope (compEnvC scope cl C X.env) fp) tg g (own.map (·.2)) gt) (ht : ∀ (s : Shared) (H : Hp) (C : Addr) (cl : List (Str × Addr)) (fp : List Addr), OTs (X.blk s H scope (compEnvC scope cl C X.env) fp) ifs tt)
    (hi1 : ∀ (s : Shared) (H : Hp) (C : Addr) (cl : List (Str × Addr)) (fp : List Addr), OI (X.blk s H scope (compEnvC scope cl C X.env) fp) tg1 iter1 wi1)
    (hg1 : ∀ (s : Shared) (H : Hp) (C : Addr) (cl : List (Str × Addr)) (fp : List Addr), OGv (X.blk s H scope (compEnvC scope cl C X.env) fp) tg1 g1 vs1 gt1) (ht1 : ∀ (s : Shared) (H : Hp) (C : Addr) (cl : List (Str × Addr)) (fp : List Addr), OTs (X.blk s H scope (compEnvC scope cl C X.env) fp) ifs1 tt1)
    (he : ∀ (s : Shared) (H : Hp) (C : Addr) (cl : List (Str × Addr)) (fp : List Addr), OE (X.blk s H scope (compEnvC scope cl C X.env) fp) elt te) (hs : ∀ x, foldedSetIterable iter X.env x = pure x := by intro _; rfl) (hs1 : ∀ env x, foldedSetIterable iter1 env x = pure x := by intro _ _; rfl) :
    OE X (.ListComp elt [⟨tg, iter, ifs, 0⟩, ⟨tg1, iter1, ifs1, 0⟩] scope pos) (mLc2 wi g tt wi1 g1 tt1 te (own.map (·.2)) vs1) :=
  ⟨⟨fun pins s σ H Q I q => (pe_lc2 hc hN hi.ok ok hv (fun s H C cl fp => (hg s H C cl fp).ok) (fun s H C cl fp => (ht s H C cl fp).ok) (fun s H C cl fp => (hi1 s H C cl fp).ok) (fun s H C cl fp => (hg1 s H C cl fp).ok) (fun s H C cl fp => (ht1 s H C cl fp).ok) (fun s H C cl fp => (he s H C cl fp).ok) hs hs1).run pins s σ H Q I (lc2_li (hg s H 0 [] []).imp (hg1 s H 0 [] []).imp q)⟩⟩
theorem s_setLc2 {i : Nat} {y : Str} {py spos : Pos} (hc : X.calm = true) (hN : X.N.Nodup) (hy : X.N[i]? = some y) (hyl : X.env.scope.names.lookup y = some .local)
    (hsw : swapsWith (.ListComp elt [⟨tg, iter, ifs, 0⟩, ⟨tg1, iter1, ifs1, 0⟩] scope pos) (some (.Name y py)) spos.line X.env = pure true) (hi : OI X tg iter wi) (ok : BlkOk X.N X.env.scope scope own) (hv : ∀ i ∈ vs1, i ∈ own.map (·.2))
    (hg : ∀ (s : Shared) (H : Hp) (C : Addr) (cl : List (Str × Addr)) (fp : List Addr), OGv (X.blk s H scope (compEnvC scope cl C X.env) fp) tg g (own.map (·.2)) gt) (ht : ∀ (s : Shared) (H : Hp) (C : Addr) (cl : List (Str × Addr)) (fp : List Addr), OTs (X.blk s H scope (compEnvC scope cl C X.env) fp) ifs tt)
    (hi1 : ∀ (s : Shared) (H : Hp) (C : Addr) (cl : List (Str × Addr)) (fp : List Addr), OI (X.blk s H scope (compEnvC scope cl C X.env) fp) tg1 iter1 wi1)
    (hg1 : ∀ (s : Shared) (H : Hp) (C : Addr) (cl : List (Str × Addr)) (fp : List Addr), OGv (X.blk s H scope (compEnvC scope cl C X.env) fp) tg1 g1 vs1 gt1) (ht1 : ∀ (s : Shared) (H : Hp) (C : Addr) (cl : List (Str × Addr)) (fp : List Addr), OTs (X.blk s H scope (compEnvC scope cl C X.env) fp) ifs1 tt1)
    (he : ∀ (s : Shared) (H : Hp) (C : Addr) (cl : List (Str × Addr)) (fp : List Addr), OE (X.blk s H scope (compEnvC scope cl C X.env) fp) elt te) (hs : ∀ x, foldedSetIterable iter X.env x = pure x := by intro _; rfl) (hs1 : ∀ env x, foldedSetIterable iter1 env x = pure x := by intro _ _; rfl) :
    OS X (.Assign [.Name y py] (.ListComp elt [⟨tg, iter, ifs, 0⟩, ⟨tg1, iter1, ifs1, 0⟩] scope pos) spos) (msAsg (mLc2 wi g tt wi1 g1 tt1 te (own.map (·.2)) vs1) (mgName i)) :=
  ⟨⟨fun pins s σ H D I q => (ps_setLc2 hc hN hy hyl hsw hi.ok ok hv (fun s H C cl fp => (hg s H C cl fp).ok) (fun s H C cl fp => (ht s H C cl fp).ok) (fun s H C cl fp => (hi1 s H C cl fp).ok) (fun s H C cl fp => (hg1 s H C cl fp).ok) (fun s H C cl fp => (ht1 s H C cl fp).ok) (fun s H C cl fp => (he s H C cl fp).ok) hs hs1).run pins s σ H D I (by
    obtain ⟨r, G, M, hs, hg0, k, f, _⟩ := q
    refine lc2_li (hg s H 0 [] []).imp (hg1 s H 0 [] []).imp ⟨r, G, _, hs, hg0, k, fun t G1 H1 v k1 l1 g1 r1 => ?_⟩
    exact f _ G1 _ H1 k1 l1 ((hs.le l1).set i r1) g1)⟩⟩
end
end
end Mi

set_option Elab.async false
set_option linter.all false
set_option maxRecDepth 100000
namespace Mi
open PySem L2
open SkE (call_str_str)
open PySem.W (dataLt alike minD maxD AlikeAll min_list_data max_list_data)
section
variable {X : Cx} {a b c e : Expr} {ma mb mc me : ME} {pos : Pos}
/-! ### chains of two comparisons -/
def mChain (o o' : O2) (ma mb mc : ME) : ME := fun r G R => ma r G fun s G1 => mb r G1 fun t G2 => o s t G2 fun z G3 => ∃ k, z = .bl k ∧ (if k = true then mc r G3 fun u G4 => o' t u G4 R else R (.bl false) G3)
theorem chain_li {K : PySem.W.Frag} {o o' : O2} {σ : St} {H : Hp} {Q : VK} (h : liE K (mChain o o' ma mb mc) σ H Q) : tChain (liO2 K o) (liO2 K o') (liE K ma) (liE K mb) (liE K mc) σ H Q := by
  obtain ⟨r, G, R, hs, hg, k, f⟩ := h
  refine ⟨r, G, _, hs, hg, k, fun s G1 H1 x k1 l1 g1 r1 => ⟨r, G1, _, hs.le l1, g1, k1, fun t G2 H2 y k2 l2 g2 r2 => ⟨s, t, G2, _, r1.le l2, r2, g2, k2, fun z G3 H3 v k3 l3 g3 r3 => ?_⟩⟩⟩
  obtain ⟨q, rfl, k4⟩ := k3
  cases q with
  | true =>
    rw [if_pos rfl] at k4
    refine ⟨true, r3, ?_⟩
    rw [if_pos rfl]
    exact ⟨r, G3, _, hs.le (l1.trans (l2.trans l3)), g3, k4, fun u G4 H4 w k5 l4 g4 r4 => ⟨t, u, G4, R, r2.le (l3.trans l4), r4, g4, k5, f.le (l1.trans (l2.trans (l3.trans l4)))⟩⟩
  | false =>
    rw [if_neg (by decide)] at k4
    refine ⟨false, r3, ?_⟩
    rw [if_neg (by decide)]
    exact f _ G3 H3 _ k4 (l1.trans (l2.trans l3)) g3 rfl
theorem o_chain {op op' : CmpOp} {o o' : O2} (ho : OpR X (compareOp op) (liO2 X.K o)) (ho' : OpR X (compareOp op') (liO2 X.K o')) (ha : OE X a ma) (hb : OE X b mb) (hc : OE X c mc) (hm : lastMarks [op, op'] [b, c] = false := by with_unfolding_all rfl) :
    OE X (.Compare a [op, op'] [b, c] pos) (mChain o o' ma mb mc) := ⟨(pe_chain ho ho' ha.ok hb.ok hc.ok hm).imp fun _ _ _ q => chain_li q⟩
theorem t_chain {op op' : CmpOp} {o o' : O2} (ho : OpR X (compareOp op) (liO2 X.K o)) (ho' : OpR X (compareOp op') (liO2 X.K o')) (ha : OE X a ma) (hb : OE X b mb) (hc : OE X c mc) (hm : lastMarks [op, op'] [b, c] = false := by with_unfolding_all rfl) :
    OT X (.Compare a [op, op'] [b, c] pos) (mB (mChain o o' ma mb mc)) := ⟨(pt_chain ho ho' ha.ok hb.ok hc.ok hm).imp fun _ _ _ q => chain_li (test_li q)⟩
/-! ### comparisons of numbers or of texts -/
def oCmpU (g : Int → Int → Bool) (h : List Nat → List Nat → Bool) : O2
  | .int i, .int j, G, R => R (.bl (g i j)) G
  | .str x, .str y, G, R => R (.bl (h x.cps.toList y.cps.toList)) G
  | _, _, _, _ => False
theorem oCmpU_ok {f : Value → Value → Sem Value} {g : Int → Int → Bool} {h : List Nat → List Nat → Bool} (h1 : OpR X f (rI0 fun i j => .bl (g i j))) (h2 : OpR X f (fun x y H Q => ∃ i j, x = .str i ∧ y = .str j ∧ Q (.bl (h i.cps.toList j.cps.toList)) H)) : OpR X f (liO2 X.K (oCmpU g h)) :=
  (h1.or h2).imp fun x y H Q q => by
    obtain ⟨s, t, G, R, rx, ry, hg, k, f⟩ := q
    cases s with
    | int i => cases t with
      | int j => cases rx; cases ry; exact .inl ⟨i, j, rfl, rfl, f.val hg k rfl⟩
      | _ => exact k.elim
    | str i => cases t with
      | str j => cases rx; cases ry; exact .inr ⟨i, j, rfl, rfl, f.val hg k rfl⟩
      | _ => exact k.elim
    | _ => exact k.elim
abbrev oLtU : O2 := oCmpU (fun i j => decide (i < j)) (fun x y => decide (x < y))
abbrev oLeU : O2 := oCmpU (fun i j => decide (i ≤ j)) (fun x y => !decide (y < x))
abbrev oGtU : O2 := oCmpU (fun i j => decide (j < i)) (fun x y => decide (y < x))
abbrev oGeU : O2 := oCmpU (fun i j => decide (j ≤ i)) (fun x y => !decide (x < y))
theorem op_oLtU : OpR X (compareOp .Lt) (liO2 X.K oLtU) := oCmpU_ok op_lt op_lt_str
theorem op_oLeU : OpR X (compareOp .LtE) (liO2 X.K oLeU) := oCmpU_ok op_le op_le_str
theorem op_oGtU : OpR X (compareOp .Gt) (liO2 X.K oGtU) := oCmpU_ok op_gt op_gt_str
theorem op_oGeU : OpR X (compareOp .GtE) (liO2 X.K oGeU) := oCmpU_ok op_ge op_ge_str
/-! ### min, max of a list of numbers or of texts -/
def strLt (x y : Str) : Bool := dataLt (.str x) (.str y)
def minS (x : Str) (xs : List Str) : Str := xs.foldl (fun a y => if strLt y a then y else a) x
def maxS (x : Str) (xs : List Str) : Str := xs.foldl (fun a y => if strLt a y then y else a) x
theorem minD_strs : ∀ (xs : List Str) (x : Str), minD (.str x) (xs.map PyData.str) = .str (minS x xs) := by
  unfold minD minS
  intro xs
  induction xs with
  | nil => intro x; rfl
  | cons y ys ih =>
    intro x
    rw [List.map_cons, List.foldl_cons, List.foldl_cons, ← ih]
    congr 1
    unfold strLt
    split <;> rfl
theorem maxD_strs : ∀ (xs : List Str) (x : Str), maxD (.str x) (xs.map PyData.str) = .str (maxS x xs) := by
  unfold maxD maxS
  intro xs
  induction xs with
  | nil => intro x; rfl
  | cons y ys ih =>
    intro x
    rw [List.map_cons, List.foldl_cons, List.foldl_cons, ← ih]
    congr 1
    unfold strLt
    split <;> rfl
theorem strs_reads {h : Heap} : ∀ {xs : List Str} {its : List Value}, Vals (xs.map V.str) its → ∃ as, ReadsAll h its (xs.map PyData.str) as
  | [], _, r => by cases r; exact ⟨_, .nil⟩
  | x :: xs, _, r => by
    rw [List.map_cons] at r
    cases r with
    | cons r t =>
      obtain ⟨k, rfl⟩ := r
      obtain ⟨as, q⟩ := strs_reads (h := h) t
      exact ⟨_, .cons (.str x k) q⟩
theorem strs_alike (xs : List Str) : AlikeAll (xs.map PyData.str) := ⟨fun x hx y hy => by
  obtain ⟨a, _, rfl⟩ := List.mem_map.mp hx
  obtain ⟨b, _, rfl⟩ := List.mem_map.mp hy
  simp [alike], fun x hx => by
  obtain ⟨a, _, rfl⟩ := List.mem_map.mp hx
  simp⟩
theorem strs_depth : ∀ xs : List Str, PyData.depthAll (xs.map PyData.str) = 0
  | [] => rfl
  | x :: xs => by rw [List.map_cons]; simp [PyData.depthAll, PyData.depth, strs_depth xs]
def rMinS (K : PySem.W.Frag) : List V → Hp → VK → Prop := fun vs H Q => ∃ (a : Addr) (x : Str) (xs : List Str), vs = [V.ref a] ∧ SqL K H a ((x :: xs).map V.str) ∧ Q (.str (minS x xs)) H
def rMaxS (K : PySem.W.Frag) : List V → Hp → VK → Prop := fun vs H Q => ∃ (a : Addr) (x : Str) (xs : List Str), vs = [V.ref a] ∧ SqL K H a ((x :: xs).map V.str) ∧ Q (.str (maxS x xs)) H
theorem cr_minS (hc : X.calm = true) (hu : X.A.units + 64 < cLine) : CallR X (.builtin "min") (rMinS X.K) := by
  intro pins s σ H vs us Q I r h
  obtain ⟨a, x, xs, rfl, hs, q⟩ := h
  obtain ⟨its, rv, hl, _⟩ := I.list hs
  rw [Vals.ref1 r]
  obtain ⟨as, hr⟩ := strs_reads (h := s.heap) rv
  refine min_list_data (x := .str x) (xs := xs.map PyData.str) (I.ok.hd hc) hl.isList (by simpa using hr) (strs_alike (x :: xs)) (by have := strs_depth (x :: xs); rw [List.map_cons] at this; rw [this]; omega) fun i v h' tk bs hv hrd hk => ?_
  rw [minD_strs] at hrd
  cases hrd
  exact ⟨.str _, H, I.kept hk, ⟨_, rfl⟩, q⟩
theorem cr_maxS (hc : X.calm = true) (hu : X.A.units + 64 < cLine) : CallR X (.builtin "max") (rMaxS X.K) := by
  intro pins s σ H vs us Q I r h
  obtain ⟨a, x, xs, rfl, hs, q⟩ := h
  obtain ⟨its, rv, hl, _⟩ := I.list hs
  rw [Vals.ref1 r]
  obtain ⟨as, hr⟩ := strs_reads (h := s.heap) rv
  refine max_list_data (x := .str x) (xs := xs.map PyData.str) (I.ok.hd hc) hl.isList (by simpa using hr) (strs_alike (x :: xs)) (by have := strs_depth (x :: xs); rw [List.map_cons] at this; rw [this]; omega) fun i v h' tk bs hv hrd hk => ?_
  rw [maxD_strs] at hrd
  cases hrd
  exact ⟨.str _, H, I.kept hk, ⟨_, rfl⟩, q⟩
def omMin1 : Sm := fun ts G R => ∃ t, ts = [t] ∧ ((∃ xs : List Int, isL G t (xs.map T.int) ∧ 0 < xs.length ∧ ∀ m, m ∈ xs → (∀ y, y ∈ xs → m ≤ y) → R (.int m) G) ∨ ∃ x xs, isL G t ((x :: xs).map T.str) ∧ R (.str (minS x xs)) G)
def omMax1 : Sm := fun ts G R => ∃ t, ts = [t] ∧ ((∃ xs : List Int, isL G t (xs.map T.int) ∧ 0 < xs.length ∧ ∀ m, m ∈ xs → (∀ y, y ∈ xs → y ≤ m) → R (.int m) G) ∨ ∃ x xs, isL G t ((x :: xs).map T.str) ∧ R (.str (maxS x xs)) G)
theorem _root_.L2.CallR.or2 {f : Value} {r r' : List V → Hp → VK → Prop} (h : CallR X f r) (h' : CallR X f r') : CallR X f fun xs H Q => r xs H Q ∨ r' xs H Q :=
  fun pins s σ H xs us Q I rv q => q.elim (h pins s σ H xs us Q I rv) (h' pins s σ H xs us Q I rv)
theorem c_min1 (hc : X.calm = true) (hu : X.A.units + 64 < cLine) : CallR X (.builtin "min") (liC X.K omMin1) := ((cr_min hc).or2 (cr_minS hc hu)).imp fun xs H Q h => by
  obtain ⟨ts, G, R, rv, hg, ⟨t, rfl, k⟩, f⟩ := h
  obtain ⟨v, rfl, r⟩ := rv.get1
  rcases k with ⟨zs, h1, hz, k⟩ | ⟨z, zs, h1, k⟩
  · obtain ⟨p, vs, rfl, hq, ru⟩ := h1.seq hg r
    rw [ints_rp ru] at hq
    exact .inl ⟨p, zs, rfl, hq, hz, fun m h1 h2 => f.val hg (k m h1 h2) rfl⟩
  · obtain ⟨p, vs, rfl, hq, ru⟩ := h1.seq hg r
    rw [strs_rp ru] at hq
    exact .inr ⟨p, z, zs, rfl, hq, f.val hg k rfl⟩
theorem c_max1 (hc : X.calm = true) (hu : X.A.units + 64 < cLine) : CallR X (.builtin "max") (liC X.K omMax1) := ((cr_max hc).or2 (cr_maxS hc hu)).imp fun xs H Q h => by
  obtain ⟨ts, G, R, rv, hg, ⟨t, rfl, k⟩, f⟩ := h
  obtain ⟨v, rfl, r⟩ := rv.get1
  rcases k with ⟨zs, h1, hz, k⟩ | ⟨z, zs, h1, k⟩
  · obtain ⟨p, vs, rfl, hq, ru⟩ := h1.seq hg r
    rw [ints_rp ru] at hq
    exact .inl ⟨p, zs, rfl, hq, hz, fun m h1 h2 => f.val hg (k m h1 h2) rfl⟩
  · obtain ⟨p, vs, rfl, hq, ru⟩ := h1.seq hg r
    rw [strs_rp ru] at hq
    exact .inr ⟨p, z, zs, rfl, hq, f.val hg k rfl⟩
/-! ### str(..) of a number, of a text -/
def omStr : Sm := fun ts G R => (∃ i, ts = [.int i] ∧ i.natAbs.log2 < 1920 ∧ R (.str (toString i)) G) ∨ ∃ a, ts = [.str a] ∧ R (.str a) G
theorem c_str : CallR X (.type "str") (liC X.K omStr) := ((call_str_int (X := X)).or2 call_str_str).imp fun xs H Q h => by
  obtain ⟨ts, G, R, rv, hg, k, f⟩ := h
  rcases k with ⟨i, rfl, hi, k⟩ | ⟨z, rfl, k⟩
  · obtain ⟨v, rfl, r⟩ := rv.get1
    cases r
    exact .inl ⟨i, rfl, hi, f.val hg k rfl⟩
  · obtain ⟨v, rfl, r⟩ := rv.get1
    cases r
    exact .inr ⟨z, rfl, f.val hg k rfl⟩
end
end Mi

set_option Elab.async false
set_option linter.all false
set_option maxRecDepth 100000
namespace Mi
open PySem L2
/-! ### a dict that the module writes: text keys -/
def lkT : List (Str × T) → Str → Option T
  | [], _ => none
  | (k, t) :: r, z => if k = z then some t else lkT r z
def KRel (K : PySem.W.Frag) : Option T → Option Value → Prop
  | none, none => True
  | some t, some u => ∃ v, RelV v u ∧ ∀ H, Rp K H v t
  | _, _ => False
structure KD (K : PySem.W.Frag) (w : World) (mg : Str → Option Value) (x : Str) (kvs : List (Str × T)) : Prop where
  ex : ∃ (d : Addr) (es : Array DictEntry) (n : Nat), mg x = some (.ref d) ∧ KDict K w d es n ∧ ∀ z, ∃ r, PySem.W.nsIn K d z = some r ∧ KRel K (lkT kvs z) r
section
variable {X : Cx} {e f : Expr} {me mf : ME} {x : Str} {p apos cpos : Pos} {kvs : List (Str × T)}
def mKGet2 (kvs : List (Str × T)) (me mf : ME) : ME := fun r G R => me r G fun t G1 => ∃ z, t = .str z ∧ mf r G1 fun w G2 => R ((lkT kvs z).getD w) G2
theorem o_kget2 (D : KD X.K X.w X.mg x kvs) (hg : Gl X x) (he : OE X e me) (hf : OE X f mf) (m : M2 X (.Name x p) "get" apos e f cpos) (hd : (x == ("__debug__" : Str)) = false := by decide) :
    OE X (.Call (.Attribute (.Name x p) "get" apos) [e, f] [] cpos) (mKGet2 kvs me mf) := by
  obtain ⟨d, es, n, hm, D, look⟩ := D.ex
  refine ⟨⟨fun pins s σ H Q I h => ?_⟩⟩
  obtain ⟨r, G, R, hs, hgr, k, f'⟩ := h
  refine wpAny_Call_method m.base m.few m.line PySem.F.plainAttrs_dict PySem.F.slot_dict_get PySem.F.type_dict_get (ld_glob I hg hm ?_ hd)
  refine ⟨kd_type D I, fun b q => ?_, ?_⟩
  · cases q
    exact ⟨_, I.kIn _ _ D.at_, rfl⟩
  rw [m.trees]
  have h1 : liE X.K me σ H (fun y H1 => ∃ t G1, (∃ z, t = .str z ∧ mf r G1 fun w G2 => R ((lkT kvs z).getD w) G2) ∧ Le H H1 ∧ RG X.K H1 G1 ∧ Rp X.K H1 y t) :=
    ⟨r, G, _, hs, hgr, k, fun t G1 H1 y k1 l1 g1 r1 => ⟨t, G1, k1, l1, g1, r1⟩⟩
  refine Calls.callWith_builtin rfl (Calls.evalArgs_plain (Calls.spliced_cons (thn (he.ok.run pins s σ H _ I h1) fun iv s2 ⟨y, H2, I2, ry, t, G1, ⟨z, et, k2⟩, l1, g1, r1⟩ => ?_)))
  subst et
  have h2 : liE X.K mf σ H2 (fun v H3 => ∃ w G2, R ((lkT kvs z).getD w) G2 ∧ Le H2 H3 ∧ RG X.K H3 G2 ∧ Rp X.K H3 v w) :=
    ⟨r, G1, _, hs.le l1, g1, k2, fun w G2 H3 v k3 l2 g2 r2 => ⟨w, G2, k3, l2, g2, r2⟩⟩
  refine Calls.spliced_cons (thn (hf.ok.run pins s2 σ H2 _ I2 h2) fun fv s3 ⟨v, H3, I3, rv, w, G2, k3, l2, g2, r2⟩ => Calls.spliced_nil ?_)
  obtain ⟨ro, e0, rel⟩ := look z
  cases (show y = .str z from r1)
  obtain ⟨tk, rfl⟩ := ry
  refine call_meetsIn PySem.F.slot_dict_get (kd_type D I3) PySem.F.entry_dict_get (PySem.F.args_dict_get_3 _ _ _) (meets_dict_get_default (strKind X.prog X.w) d (PySem.strKind_is X.prog X.w z tk) D.low _) ⟨_, PySem.W.mapOf_K (prog := X.prog) I3.kIn D.at_ D.lit, ?_⟩
  rw [PySem.W.find_K D.at_ e0]
  cases hl : lkT kvs z with
  | none =>
    rw [hl] at rel k3
    cases ro with
    | none => exact ⟨v, H3, I3.tok _, rv, f' _ G2 H3 v k3 (l1.trans l2) g2 r2⟩
    | some u => exact rel.elim
  | some t2 =>
    rw [hl] at rel k3
    cases ro with
    | none => exact rel.elim
    | some u =>
      obtain ⟨v2, rv2, rp2⟩ := rel
      exact ⟨v2, H3, I3.tok _, rv2, f' _ G2 H3 v2 k3 (l1.trans l2) g2 (rp2 H3)⟩
/-! x in D, x not in D -/
def mKIn (neg : Bool) (kvs : List (Str × T)) (ma : ME) : ME := fun r G R => ma r G fun t G1 => ∃ z, t = .str z ∧ R (.bl (if neg then !(lkT kvs z).isSome else (lkT kvs z).isSome)) G1
theorem krel_some {K : PySem.W.Frag} : ∀ {o : Option T} {r : Option Value}, KRel K o r → r.isSome = o.isSome
  | none, none, _ => rfl
  | some _, some _, _ => rfl
  | none, some _, h => h.elim
  | some _, none, h => h.elim
theorem kin_li {d : Addr} {σ : St} {H : Hp} {Q : VK} (look : ∀ z, ∃ r, PySem.W.nsIn X.K d z = some r ∧ KRel X.K (lkT kvs z) r) (h : liE X.K (mKIn false kvs me) σ H Q) :
    tOp (fun x y H Q => ∃ (z : Str) (r : Option Value), x = .str z ∧ y = .ref d ∧ PySem.W.nsIn X.K d z = some r ∧ Q (.bl r.isSome) H) (liE X.K me) (tC (.ref d)) σ H Q := by
  obtain ⟨r, G, R, hs, hg, k, f⟩ := h
  refine ⟨r, G, _, hs, hg, k, fun t G1 H1 y k1 l1 g1 r1 => ?_⟩
  obtain ⟨z, rfl, k2⟩ := k1
  obtain ⟨ro, e0, rel⟩ := look z
  refine ⟨z, ro, r1, rfl, e0, f _ G1 H1 _ k2 l1 g1 ?_⟩
  rw [krel_some rel]
  rfl
theorem knin_li {d : Addr} {σ : St} {H : Hp} {Q : VK} (look : ∀ z, ∃ r, PySem.W.nsIn X.K d z = some r ∧ KRel X.K (lkT kvs z) r) (h : liE X.K (mKIn true kvs me) σ H Q) :
    tOp (fun x y H Q => ∃ (z : Str) (r : Option Value), x = .str z ∧ y = .ref d ∧ PySem.W.nsIn X.K d z = some r ∧ Q (.bl (!r.isSome)) H) (liE X.K me) (tC (.ref d)) σ H Q := by
  obtain ⟨r, G, R, hs, hg, k, f⟩ := h
  refine ⟨r, G, _, hs, hg, k, fun t G1 H1 y k1 l1 g1 r1 => ?_⟩
  obtain ⟨z, rfl, k2⟩ := k1
  obtain ⟨ro, e0, rel⟩ := look z
  refine ⟨z, ro, r1, rfl, e0, f _ G1 H1 _ k2 l1 g1 ?_⟩
  rw [krel_some rel]
  rfl
theorem o_kin (D : KD X.K X.w X.mg x kvs) (hg : Gl X x) (he : OE X e me) (hd : (x == ("__debug__" : Str)) = false := by decide) : OE X (.Compare e [.In] [.Name x p] cpos) (mKIn false kvs me) := by
  obtain ⟨d, es, n, hm, D, look⟩ := D.ex
  exact ⟨(pe_cmpR (op_in_kd D) he.ok (pe_glob (v := V.ref d) hg hm rfl hd) (by first | exact nomark _ | rfl)).imp fun _ _ _ q => kin_li look q⟩
theorem o_knin (D : KD X.K X.w X.mg x kvs) (hg : Gl X x) (he : OE X e me) (hd : (x == ("__debug__" : Str)) = false := by decide) : OE X (.Compare e [.NotIn] [.Name x p] cpos) (mKIn true kvs me) := by
  obtain ⟨d, es, n, hm, D, look⟩ := D.ex
  exact ⟨(pe_cmpR (op_notIn_kd D) he.ok (pe_glob (v := V.ref d) hg hm rfl hd) (by first | exact nomark _ | rfl)).imp fun _ _ _ q => knin_li look q⟩
theorem t_kin (D : KD X.K X.w X.mg x kvs) (hg : Gl X x) (he : OE X e me) (hd : (x == ("__debug__" : Str)) = false := by decide) : OT X (.Compare e [.In] [.Name x p] cpos) (mB (mKIn false kvs me)) := by
  obtain ⟨d, es, n, hm, D, look⟩ := D.ex
  exact ⟨(pt_cmpR (op_in_kd D) he.ok (pe_glob (v := V.ref d) hg hm rfl hd) (by first | exact nomark _ | rfl)).imp fun _ _ _ q => kin_li look (test_li q)⟩
theorem t_knin (D : KD X.K X.w X.mg x kvs) (hg : Gl X x) (he : OE X e me) (hd : (x == ("__debug__" : Str)) = false := by decide) : OT X (.Compare e [.NotIn] [.Name x p] cpos) (mB (mKIn true kvs me)) := by
  obtain ⟨d, es, n, hm, D, look⟩ := D.ex
  exact ⟨(pt_cmpR (op_notIn_kd D) he.ok (pe_glob (v := V.ref d) hg hm rfl hd) (by first | exact nomark _ | rfl)).imp fun _ _ _ q => knin_li look (test_li q)⟩
/-! D[x] -/
def mKIx (kvs : List (Str × T)) (me : ME) : ME := fun r G R => me r G fun t G1 => ∃ z u, t = .str z ∧ lkT kvs z = some u ∧ R u G1
theorem o_kix (D : KD X.K X.w X.mg x kvs) (hg : Gl X x) (he : OE X e me) (hs : PlainIx e) (hd : (x == ("__debug__" : Str)) = false := by decide) : OE X (.Subscript (.Name x p) e cpos) (mKIx kvs me) := by
  obtain ⟨d, es, n, hm, D, look⟩ := D.ex
  refine ⟨(pe_ix ix_kdict (pe_glob (v := V.ref d) hg hm rfl hd) he.ok hs).imp fun σ H Q q => ?_⟩
  obtain ⟨r, G, R, hs, hg, k, f⟩ := q
  refine ⟨r, G, _, hs, hg, k, fun t G1 H1 y k1 l1 g1 r1 => ?_⟩
  obtain ⟨z, u, rfl, e1, k2⟩ := k1
  obtain ⟨ro, e0, rel⟩ := look z
  rw [e1] at rel
  cases ro with
  | none => exact rel.elim
  | some u0 =>
    obtain ⟨v, rv, rp⟩ := rel
    exact ⟨d, z, v, rfl, r1, ⟨es, n, u0, D.at_, D.lit, e0, rv⟩, f _ G1 H1 v k2 l1 g1 (rp H1)⟩
/-! for k in D[x], D a dict of the module whose values are tuples -/
def lkL : List (Str × List T) → Str → Option (List T)
  | [], _ => none
  | (k, t) :: r, z => if k = z then some t else lkL r z
def KRelL (K : PySem.W.Frag) : Option (List T) → Option Value → Prop
  | none, none => True
  | some ts, some u => ∃ p vs, u = .ref p ∧ (∀ H, SqT K H p vs) ∧ ∀ H, Rps K H vs ts
  | _, _ => False
structure KDt (K : PySem.W.Frag) (w : World) (mg : Str → Option Value) (x : Str) (kvs : List (Str × List T)) : Prop where
  ex : ∃ (d : Addr) (es : Array DictEntry) (n : Nat), mg x = some (.ref d) ∧ KDict K w d es n ∧ ∀ z, ∃ r, PySem.W.nsIn K d z = some r ∧ KRelL K (lkL kvs z) r
def miKSrc (kvs : List (Str × List T)) (me : ME) : MI := fun r G N => me r G fun t G1 => ∃ z ts, t = .str z ∧ lkL kvs z = some ts ∧ N ⟨ts, []⟩ G1
theorem i_ksrc {kvs : List (Str × List T)} {tg : Expr} (D : KDt X.K X.w X.mg x kvs) (hg : Gl X x) (he : OE X e me) (hs : PlainIx e) (hd : (x == ("__debug__" : Str)) = false := by decide) : OI X tg (.Subscript (.Name x p) e cpos) (miKSrc kvs me) := by
  obtain ⟨d, es, n, hm, D, look⟩ := D.ex
  refine ⟨⟨fun pins s σ H R I q => ?_⟩⟩
  obtain ⟨r, G, N, hs2, hgr, k, f⟩ := q
  refine thn ((pe_ix ix_kdict (pe_glob (v := V.ref d) hg hm rfl hd) he.ok hs).run pins s σ H (fun x H1 => ∃ pt vs ts G1, x = .ref pt ∧ (∀ H, SqT X.K H pt vs) ∧ (∀ H, Rps X.K H vs ts) ∧ RG X.K H1 G1 ∧ Le H H1 ∧ N ⟨ts, []⟩ G1) I ⟨r, G, _, hs2, hgr, k, fun t G1 H1 x k1 l1 g1 r1 => ?_⟩) fun v s1 ⟨x, H1, I1, rv, pt, vs, ts, G1, ex, hq, hr, g1, l1, hN⟩ => ?_
  · obtain ⟨z, ts, rfl, e1, k2⟩ := k1
    obtain ⟨ro, e0, rel⟩ := look z
    rw [e1] at rel
    cases ro with
    | none => exact rel.elim
    | some u0 =>
      obtain ⟨pt, vs, rfl, hq, hr⟩ := rel
      exact ⟨d, z, .ref pt, rfl, r1, ⟨es, n, .ref pt, D.at_, D.lit, e0, rfl⟩, pt, vs, ts, G1, rfl, hq, hr, g1, l1, k2⟩
  subst ex
  cases rv
  obtain ⟨OK, B, ok⟩ := Sk.begins (k := .tup pt) I1 (hq H1)
  refine B.iter _ _ _ _ _ _ ok ?_
  exact pi_one (tk := s1.toks) I1 _ (turn_S (.tup pt) _) (Sk.at_new (.tup pt) (Heap.get?_push_size _ B.free)) (f _ G1 H1 _ hN l1 g1 (walks_one fun H' G' _ _ _ => ⟨vs, hq H', hr H'⟩))
/-! a constant of the module: a number, a text, a truth -/
def litV : T → Value → Prop
  | .int i, u => ∃ t, u = .int i t
  | .str z, u => ∃ t, u = .str z t
  | .bl b, u => u = .bool b
  | .non, u => u = .none
  | _, _ => False
theorem o_const {t : T} (D : ∃ u, X.mg x = some u ∧ litV t u) (hg : Gl X x) (hd : (x == ("__debug__" : Str)) = false := by decide) : OE X (.Name x p) (mC t) := by
  obtain ⟨u, hm, l⟩ := D
  cases t with
  | int i => exact o_c (pe_glob (v := .int i) hg hm l hd)
  | str i => exact o_c (pe_glob (v := .str i) hg hm l hd)
  | bl i => exact o_c (pe_glob (v := .bl i) hg hm l hd)
  | non => exact o_c (pe_glob (v := .non) hg hm l hd)
  | _ => exact l.elim
end
end Mi

set_option Elab.async false
set_option linter.all false
set_option maxRecDepth 100000
namespace Mi
open PySem L2 PyProof.Rows
/-! ### methods of a text -/
section
variable {X : Cx} {id : String}
def omT0 (p : Str → Prop) (f : Str → T) : OM := fun t ts G R => ∃ a, t = .str a ∧ ts = [] ∧ p a ∧ R (f a) G
theorem mt_oT0 {p : Str → Prop} {f : Str → T} {g : Str → V} (h : MtR X id (fun x xs H Q => ∃ a, x = .str a ∧ xs = [] ∧ p a ∧ Q (g a) H)) (e : ∀ a H, Rp X.K H (g a) (f a)) : MtR X id (liB X.K (omT0 p f)) := MtR.imp h fun x vs H Q q => by
  obtain ⟨t, ts, G, R, rx, rv, hg, ⟨a, rfl, rfl, hp, k⟩, f⟩ := q
  cases rx
  cases rv
  exact ⟨a, rfl, rfl, hp, f.val hg k (e a H)⟩
def omT1 (p : Str → Str → Prop) (f : Str → Str → T) : OM := fun t ts G R => ∃ a b, t = .str a ∧ ts = [.str b] ∧ p a b ∧ R (f a b) G
theorem mt_oT1 {p : Str → Str → Prop} {f : Str → Str → T} {g : Str → Str → V} (h : MtR X id (fun x xs H Q => ∃ a b, x = .str a ∧ xs = [.str b] ∧ p a b ∧ Q (g a b) H)) (e : ∀ a b H, Rp X.K H (g a b) (f a b)) : MtR X id (liB X.K (omT1 p f)) := MtR.imp h fun x vs H Q q => by
  obtain ⟨t, ts, G, R, rx, rv, hg, ⟨a, b, rfl, rfl, hp, k⟩, f⟩ := q
  cases rx
  obtain ⟨v, rfl, r⟩ := rv.get1
  cases r
  exact ⟨a, b, rfl, rfl, hp, f.val hg k (e a b H)⟩
abbrev omUpper : OM := omT0 (fun a => a.length ≤ 5592405) fun a => .str (Txt.upper a)
abbrev omLower : OM := omT0 (fun a => a.length ≤ 5592405) fun a => .str (Txt.lower a)
abbrev omStrip : OM := omT0 (fun a => a.length ≤ sizeLine) fun a => .str (Txt.strip a)
abbrev omIsdigit : OM := omT0 (fun _ => True) fun a => .bl (Txt.isdigit a)
abbrev omStripChars : OM := omT1 (fun a _ => a.length ≤ sizeLine) fun a b => .str (Txt.stripChars a b)
abbrev omStarts : OM := omT1 (fun _ _ => True) fun a b => .bl (Txt.startswith a b)
abbrev omEnds : OM := omT1 (fun _ _ => True) fun a b => .bl (Txt.endswith a b)
abbrev omCount : OM := omT1 (fun _ _ => True) fun a b => .int (Txt.count a b)
abbrev omFind : OM := omT1 (fun _ _ => True) fun a b => .int (Txt.find a b)
theorem mt_oUpper : MtR X "str.upper" (liB X.K omUpper) := mt_oT0 mt_upper fun _ _ => rfl
theorem mt_oLower : MtR X "str.lower" (liB X.K omLower) := mt_oT0 mt_lower fun _ _ => rfl
theorem mt_oStrip : MtR X "str.strip" (liB X.K omStrip) := mt_oT0 mt_strip fun _ _ => rfl
theorem mt_oIsdigit : MtR X "str.isdigit" (liB X.K omIsdigit) := mt_oT0 mt_isdigit fun _ _ => rfl
theorem mt_oStripChars : MtR X "str.strip" (liB X.K omStripChars) := mt_oT1 mt_stripChars fun _ _ _ => rfl
theorem tr_in {X : Cx} {id : String} {g : Str → Str → V} (h : MtR X id (fun x xs H Q => ∃ a b, x = .str a ∧ xs = [.str b] ∧ Q (g a b) H)) : MtR X id (fun x xs H Q => ∃ a b, x = .str a ∧ xs = [.str b] ∧ True ∧ Q (g a b) H) :=
  MtR.imp h fun x vs H Q ⟨a, b, e1, e2, _, k⟩ => ⟨a, b, e1, e2, k⟩
theorem mt_oStarts : MtR X "str.startswith" (liB X.K omStarts) := mt_oT1 (tr_in mt_startswith) fun _ _ _ => rfl
theorem mt_oEnds : MtR X "str.endswith" (liB X.K omEnds) := mt_oT1 (tr_in mt_endswith) fun _ _ _ => rfl
theorem mt_oCount : MtR X "str.count" (liB X.K omCount) := mt_oT1 (tr_in mt_count) fun _ _ _ => rfl
theorem mt_oFind : MtR X "str.find" (liB X.K omFind) := mt_oT1 (tr_in mt_find) fun _ _ _ => rfl
/-- a.split(b) -/
def omSplit : OM := fun t ts G R => ∃ a b, t = .str a ∧ ts = [.str b] ∧ (b.length == 0) = false ∧ a.length + 2 ≤ sizeLine ∧ ∀ p, G p = none → R (.ref p) (put G p (.lst ((Txt.split a b).map T.str)))
theorem mt_oSplit : MtR X "str.split" (liB X.K omSplit) := MtR.imp mt_split fun x vs H Q q => by
  obtain ⟨t, ts, G, R, rx, rv, hg, ⟨a, b, rfl, rfl, h1, h2, k⟩, f⟩ := q
  cases rx
  obtain ⟨v, rfl, r⟩ := rv.get1
  cases r
  exact ⟨a, b, rfl, rfl, h1, h2, fun p hp => f.newL hg hp (k p (hg.fresh hp)) rp_strs⟩
def omWords : OM := fun t ts G R => ∃ a, t = .str a ∧ ts = [] ∧ a.length + 2 ≤ sizeLine ∧ ∀ p, G p = none → R (.ref p) (put G p (.lst ((Txt.words a).map T.str)))
theorem mt_oWords : MtR X "str.split" (liB X.K omWords) := MtR.imp mt_words fun x vs H Q q => by
  obtain ⟨t, ts, G, R, rx, rv, hg, ⟨a, rfl, rfl, h2, k⟩, f⟩ := q
  cases rx
  cases rv
  exact ⟨a, rfl, rfl, h2, fun p hp => f.newL hg hp (k p (hg.fresh hp)) rp_strs⟩
/-! ### repr(..) of data, where no repr stands around -/
def omRepr : Sm := fun ts G R => ∃ t d, ts = [t] ∧ Dt G t d ∧ d.showable = true ∧ d.hasDict = false ∧ d.depth ≤ 60 ∧ d.shown.length ≤ sizeLine ∧ R (.str d.shown) G
theorem c_repr (hgd : X.A.guards = some []) (hu : X.A.units + 64 < cLine) : CallR X (.builtin "repr") (liC X.K omRepr) := by
  intro pins s σ H vs us Q I rvs h
  obtain ⟨ts, G, R, rv, hg, ⟨t, d, rfl, hd, h1, h2, h3, h4, k⟩, f⟩ := h
  obtain ⟨v, rfl, r⟩ := rv.get1
  have dp := hd.dp hg d t v r
  obtain ⟨u, rfl, ru⟩ : ∃ u, us = [u] ∧ RelV v u := by
    cases rvs with
    | cons a b => cases b; exact ⟨_, rfl, a⟩
  obtain ⟨as, hr⟩ := Dp.reads I d v u dp ru
  have fin : ∀ h' tk tk2, (∀ b o, s.heap.get? b = some o → h'.get? b = some o) → EP X pins σ Q (.str d.shown tk) { s with heap := h', toks := tk2 } := fun h' tk tk2 hk => ⟨.str d.shown, H, I.kept hk, ⟨_, rfl⟩, f.val hg k rfl⟩
  cases hr with
  | none => exact PySem.P.repr_of_none (fin s.heap _ _ fun _ _ e => e)
  | bool b => exact PySem.P.repr_of_bool (fin s.heap _ _ fun _ _ e => e)
  | int i tk => exact PySem.P.repr_of_int (by simpa [PyData.showable] using h1) (fin s.heap _ _ fun _ _ e => e)
  | str x tk => exact PySem.P.repr_of_str (fin s.heap _ _ fun _ _ e => e) h4
  | list a1 a2 a3 a4 => exact PySem.repr_of_reads' (.list a1 a2 a3 a4) h1 (PyData.noDict_hsm h2) hgd (by omega) (fun _ _ e => e) (fun h' u tk hk => fin h' u tk hk) h4
  | tuple a1 a2 a3 a4 => exact PySem.repr_of_reads' (.tuple a1 a2 a3 a4) h1 (PyData.noDict_hsm h2) hgd (by omega) (fun _ _ e => e) (fun h' u tk hk => fin h' u tk hk) h4
  | dict a1 a2 a3 a4 a5 => simp [PyData.hasDict] at h2
end
end Mi

set_option Elab.async false
set_option linter.all false
set_option maxRecDepth 100000
namespace Mi
open PySem L2 PySem.Spec PyProof.Rows
/-! ### defs that run where no guard of repr stands around -/
section
variable {P : Program} {w : World} {K : PySem.W.Frag} {mg : Str → Option Value} {base : Heap}
/-- the promise of a def, at every place that has no guard around it -/
structure FnG (P : Program) (w : World) (K : PySem.W.Frag) (mg : Str → Option Value) (base : Heap) (n : Nat) (g : Addr) (fd : FuncData) (ps : List Str) (pr : Sp) : Prop where
  arity : ∀ xs H Q E, pr xs H Q E → xs.length = ps.length
  goes : ∀ (B : Around) (out : List PySem.Env) (s : Shared) (H : Hp) (args : Args) (ws : List Value) (xs : List V) (Q : VK) (E : XK),
    Room n B → B.guards = some [] → Env0 P w K mg base B out s H → BindsTo s fd args (ps.zip ws) → Vals xs ws → pr xs H Q E →
    codeAny (model P w) B (.call (.ref g) args) (CR CX0 out P w H s Q E) s
theorem FnG.of {n : Nat} {g : Addr} {fd : FuncData} {ps : List Str} {pr : Sp} (F : FnOk P w K mg base CX0 n g fd ps pr) : FnG P w K mg base n g fd ps pr :=
  ⟨F.len, fun B out s H args ws xs Q E a _ b c d e => F.run B out s H args ws xs Q E a b c d e⟩
/-- by its body -/
theorem fn_okG {x qual : Str} {st : Stmt} {f : Addr} {fd : FuncData} {N ps : List Str} {k : Nat} {b : MS} (F : Fun K x qual st f fd) (S : FnScope N ps (defScope st))
    (hb : ∀ (cdv : Value) (A : Around) (outer : List PySem.Env) (s : Shared) (H : Hp) (E : XK), A.guards = some [] → Room k (A.deeper (envOfC qual (defScope st) s.heap.objs.size f cdv)) → OSs (cxOf CX0 P w K mg base N qual (defScope st) f cdv A outer s H E).nox (defBody st) b) :
    FnG P w K mg base (k + 1) f fd ps (liM K (spOf N.length ps.length b)) := by
  obtain ⟨oc, od, kV, doc, pm, an, cdv, ct, osl, rfl, lk, hcd⟩ := F.ex
  have ar : ∀ xs H Q E, liM K (spOf N.length ps.length b) xs H Q E → xs.length = ps.length := fun xs H Q E h => by
    obtain ⟨ts, G, R, r, hg, ⟨hl, _⟩, _⟩ := h
    rw [r.length]
    exact hl
  refine ⟨ar, ?_⟩
  intro A outer s H args us vs Q E hr hgd e0 bd rv hsp
  have low := fun b o e => (e0.bs b o e).1
  have kin : K.In s.heap := e0.mod.kin.keeps low
  have nolim : s.heap.NoLimit := e0.mod.nolimit.keeps low
  have kinds : ∀ y ∈ ps.zip us, (defScope st).names.lookup y.1 = some .local ∨ ((defScope st).names.lookup y.1 = some .cell ∧ ((cellsFrom (s.heap.objs.size + 1) (defScope st).names []).lookup y.1).isSome = true) := by
    rintro ⟨y, v⟩ hy
    exact (S.par y (List.of_mem_zip hy).1).imp id fun q => ⟨q, PySem.W.cellsFrom_some _ _ _ (.inl q)⟩
  refine codeAny_call_function hr.depth (kin _ _ lk) rfl S.co S.gen rfl (PySem.W.codeRec_of kin hcd) (bd _ _ _ _ (wpAny_newFunctionEnv_cells S.kind kinds ?_))
  intro env he s1 x1
  subst he
  refine ⟨nolim.keeps x1.toInCall.keep, codeAny_func ?_⟩
  have body := ((hb cdv A outer s H E hgd (hr.deeper _)).ok).nox
  have I0 : Inv (cxOf CX0 P w K mg base N qual (defScope st) f cdv A outer s H E) [] (L2.start N vs) H s1 := inv_start S hr.hd e0 (ar vs H Q E hsp) rv x1
  obtain ⟨ts, G, R, r, hg, ⟨hl, hbody⟩, fR⟩ := hsp
  have give : Gives K H (fwdT R) Q := fun t G' H' v ⟨G2, e, k⟩ l g rv => fR t G2 H' v k l (g.sub e) rv
  have rs := start_rs (N := N) r
  rw [hl] at rs
  have run := body.run [] s1 (L2.start N vs) H { nx := fun _ H' => Q .non H', rt := Q } I0 ⟨_, G, _, rs, hg, hbody, fun r' G' σ' H' k l hs g => give .non G' H' .non k l g rfl, give, fun _ _ _ _ z => z.elim, fun _ _ _ _ z => z.elim⟩
  refine wpAny_mono run (fun fl s2 h2 => ?_) fun e s2 h2 => h2
  cases fl with
  | ret u =>
    obtain ⟨v, σ', H', J, rvu, q⟩ := h2
    exact ⟨v, H', J.os, J.bare, J.base, J.hok, rvu, q⟩
  | next =>
    obtain ⟨σ', H', J, q⟩ := h2
    exact ⟨V.non, H', J.os, J.bare, J.base, J.hok, rfl, q⟩
  | brk => obtain ⟨_, _, _, q⟩ := h2; exact q.elim
  | cont => obtain ⟨_, _, _, q⟩ := h2; exact q.elim
end
section
variable {X : Cx} {k : Nat} {f : Addr} {fd : FuncData} {ps : List Str} {sp : Sm} {x : Str} {p pos : Pos} {e : Expr} {es : List Expr} {mas : MA}
theorem o_callG (F : FnG X.prog X.w X.K X.mg X.base k f fd ps (liM X.K sp)) (hr : Room k X.A) (hgd : X.A.guards = some []) (hg : Gl X x) (hm : X.mg x = some (.ref f)) (hk : PySem.W.keepIn X.K (.ref f) = true) (hb : Binds X.K fd ps [])
    (ha : OA X (e :: es) mas) (hdb : (x == ("__debug__" : Str)) = false := by decide) (he : starEach (e :: es) X.env = (false, eval e X.env) :: starEach es X.env := by rfl) (hpl : (backTo pos (starEach es X.env)).any (·.1) = false := by rfl) :
    OE X (.Call (.Name x p) (e :: es) [] pos) (mCall sp mas) := by
  refine ⟨⟨fun pins s σ H Q I h => ?_⟩⟩
  have h0 : tCall (liM X.K sp) [] E0 (liA X.K mas) σ H Q := call_li h
  refine wpAny_Call_Name_kw (ld_glob I hg hm (PySem.W.callWith_K (h₀ := X.base) I.ok.mod.kin hk ?_ he hpl) hdb)
  refine thn (ha.ok.run pos pins s σ H _ I h0) fun us s1 ⟨vs, H1, I1, r, q⟩ => ⟨I1.kIn, ?_⟩
  have q : liM X.K sp vs H1 Q E0 := by
    have q2 : liM X.K sp (vs ++ []) H1 Q E0 := q
    rwa [List.append_nil] at q2
  have hl : (us ++ []).length = ps.length := by rw [List.append_nil, ← r.length]; exact F.arity _ _ _ _ q
  have bd := hb s1 us I1.kIn hl
  rw [List.append_nil] at bd
  refine wpAny_call (codeAny_mono (F.goes X.A X.stack s1 H1 ⟨us, []⟩ us vs Q E0 hr hgd I1.env0 bd r q) fun r2 s2 hq => ?_)
  cases r2 with
  | error e => exact hq.elim
  | ok fl =>
    cases fl with
    | ret u => exact I1.after hq
    | next => exact hq.elim
    | brk => exact hq.elim
    | cont => exact hq.elim
end
/-! ### the head for such a def -/
section
variable {P : Program} {w : World} {K : PySem.W.Frag} {mg mb : Str → Option Value} {k : Nat} {fa a : Addr} {fd : FuncData} {x : Str} {pr : Sp} {z : Shared} {vs : List Value} {ns : List Int}
/-- the def run on a script that is tracked by H -/
theorem head_core (hK : K.In z.heap) (hns : z.heap.Ns mainGlobals mg) (hb : z.heap.Ns builtinsNs mb) (hbb : ∀ x : Str, x ≠ "__name__" → mb x = bootBuiltins x) (hlim : z.heap.NoLimit) (hg : z.gens = #[])
    (ha : z.heap.get? a = some { cls := .type "list", data := .seq vs.toArray }) (hr : Room k callerA)
    (F : ∀ base : Heap, K.In base → base.Ns mainGlobals mg → FnG P w K mg base k fa fd [x] pr) (hbind : ∀ (s : Shared) (u : Value), BindsTo s fd ⟨[u], []⟩ [(x, u)])
    (hsp : ∀ H : Hp, Only H → SqL K H a (ns.map V.int) → pr [.ref a] H (fun v _ => v = .bl true) E0)
    (H : Hp) (hO : Only H) (hS : SqL K H a (ns.map V.int)) (ok : HOk P w H z.heap) (only : ∀ b, H b ≠ none → b = a) (out : H a ≠ none → K.lookup a = none) :
    codeAny (model P w) callerA (.call (.ref fa) ⟨[.ref a], []⟩) (fun r s' => r = .ok (.ret (.bool true)) ∧ OldK z.heap s'.heap ∧ s'.os = z.os ∧ AllBare s'.gens) z := by
  have atA : ∀ {b : Addr} {u : HO}, H b = some u → b = a := fun q => only _ (by rw [q]; exact nofun)
  have nd : ∀ {b : Addr} {o : Obj} {es : Array DictEntry} {ep : Nat}, z.heap.get? b = some o → o.data = .dict es ep → H b = none := by
    intro b o es ep e d
    cases q : H b with
    | none => rfl
    | some u =>
      obtain rfl := atA q
      rw [ha] at e
      cases e
      cases (show Data.seq vs.toArray _ = Data.dict es ep from d)
  have kNs : ∀ {b : Addr} {m : Str → Option Value}, z.heap.Ns b m → (hidT z.heap H).Ns b m := by
    rintro b m ⟨o, es, ep, e, d, r⟩
    exact ⟨o, es, ep, hidT_get e (nd e d), d, r⟩
  have kK : K.In (hidT z.heap H) := by
    intro b o e
    refine hidT_get (hK b o e) ?_
    cases q : H b with
    | none => rfl
    | some u =>
      obtain rfl := atA q
      rw [out (by rw [q]; exact nofun)] at e
      cases e
  obtain ⟨mc, l1, l2⟩ := hlim
  have M : Mod K mg (hidT z.heap H) := ⟨kK, kNs hns, ⟨mb, kNs hb, hbb⟩, ⟨mc, kNs l1, l2⟩⟩
  have e0 : Env0 P w K mg (hidT z.heap H) callerA [] z H :=
    ⟨rfl, M, fun b o e => of_hidT e, Nat.le_of_eq (hidT_size _ _), trivial, fun b hb => (nomatch hb), ok, .of_eq hg⟩
  have run := (F _ kK (kNs hns)).goes callerA [] z H ⟨[.ref a], []⟩ [.ref a] [.ref a] (fun v _ => v = .bl true) E0 hr rfl e0 (hbind z (.ref a)) (.cons rfl .nil) (hsp H hO hS)
  refine codeAny_mono run fun r s' h => ?_
  cases r with
  | error e => exact h.elim
  | ok fl =>
    cases fl with
    | next => exact h.elim
    | brk => exact h.elim
    | cont => exact h.elim
    | ret u =>
      obtain ⟨v, H', os, bare, un, ok', rv, q⟩ := h
      cases (show v = .bl true from q)
      cases (show u = Value.bool true from rv)
      refine ⟨rfl, OldK.of_keep fun b o e => ?_, os, bare⟩
      rcases hO b with n0 | ⟨ob, xs, n1⟩
      · exact un.keep b o e n0 (fun y => nomatch y) (fun y => nomatch y)
      · have h1 := (ok b _ n1).1
        have h2 := (ok' b _ (un.frzs b ob _ n1)).1
        rw [e] at h1
        cases h1
        exact h2
theorem head_call (hK : K.In z.heap) (hns : z.heap.Ns mainGlobals mg) (hb : z.heap.Ns builtinsNs mb) (hbb : ∀ x : Str, x ≠ "__name__" → mb x = bootBuiltins x) (hlim : z.heap.NoLimit) (hg : z.gens = #[])
    (ha : z.heap.get? a = some { cls := .type "list", data := .seq vs.toArray }) (hi : IntsAre vs ns) (hl : ns.length ≤ sizeLine) (hr : Room k callerA)
    (F : ∀ base : Heap, K.In base → base.Ns mainGlobals mg → FnG P w K mg base k fa fd [x] pr) (hbind : ∀ (s : Shared) (u : Value), BindsTo s fd ⟨[u], []⟩ [(x, u)])
    (hsp : ∀ H : Hp, Only H → SqL K H a (ns.map V.int) → pr [.ref a] H (fun v _ => v = .bl true) E0) :
    codeAny (model P w) callerA (.call (.ref fa) ⟨[.ref a], []⟩) (fun r s' => r = .ok (.ret (.bool true)) ∧ OldK z.heap s'.heap ∧ s'.os = z.os ∧ AllBare s'.gens) z := by
  have rel := vals_ints hi
  cases hk : K.lookup a with
  | some o =>
    have e := hK a o hk
    rw [ha] at e
    cases e
    refine head_core (ns := ns) hK hns hb hbb hlim hg ha hr F hbind hsp (fun _ => none) (fun _ => .inl rfl) (.inr ?_) (fun b u n => nomatch n) (fun b n => absurd rfl n) fun n => absurd rfl n
    exact ⟨_, vs.toArray, _, hk, rfl, rfl, rfl, by rw [List.size_toArray, hi.length]; exact hl, by simpa using rel⟩
  | none =>
    let T0 : HO := .frz { cls := .type "list", data := .seq vs.toArray } (.lst (ns.map V.int))
    refine head_core (ns := ns) hK hns hb hbb hlim hg ha hr F hbind hsp (fun b => if b = a then some T0 else none) (fun b => ?_) (.inl (.inr ⟨{ cls := .type "list", data := .seq vs.toArray }, if_pos rfl⟩)) (fun b u n => ?_) (fun b n => ?_) fun _ => hk
    · by_cases q : b = a
      · exact .inr ⟨_, _, if_pos q⟩
      · exact .inl (if_neg q)
    · by_cases q : b = a
      · subst q
        have n' : some T0 = some u := (if_pos rfl).symm.trans n
        cases n'
        exact ⟨ha, by rw [List.length_map]; exact hl, vs, _, rel, ha⟩
      · have n' : none = some u := (if_neg q).symm.trans n
        cases n'
    · by_cases q : b = a
      · exact q
      · exact absurd (if_neg q) n
end
/-- what k_head leaves, from such a promise -/
theorem walk_ofG {l : PySem.W.OpenLaw} {n k : Nat} {q : Program} {loose : List Str} {XP : (Str → Option Value) → Heap → Prop} {YP : World → Heap → Prop} {d : DefRec} {K : Params → PySem.W.Frag} {sp : World → Sp} {x : Str}
    (hn : l.most = some n) (hn2 : n ≤ sizeLine) (hdf : d.params.defaults = []) (hr : Room k callerA) (hY : ∀ (w : World) (h : Heap), YP w h → (K w.params).In h)
    (F : ∀ (w : World) (mg : Str → Option Value) (fa : Addr) (h : Heap), (K w.params).In h → h.Ns mainGlobals mg → mg d.name = some (.ref fa) →
      ∃ fd : FuncData, (∀ (s : Shared) (u : Value), BindsTo s fd ⟨[u], []⟩ [(x, u)]) ∧ ∀ base : Heap, (K w.params).In base → base.Ns mainGlobals mg → FnG l.prog w (K w.params) mg base k fa fd [x] (sp w))
    (hsp : ∀ (w : World) (H : Hp) (a : Addr) (ns : List Int), ns.length ≤ n → Only H → SqL (K w.params) H a (ns.map V.int) → sp w [.ref a] H (fun v _ => v = .bl true) E0) :
    PySem.W.WalkO q loose XP YP l.row.toRowW d [] (fun f vs => PySem.call f vs) :=
  Att.attach_call hn hdf fun w s₀ z mg mb fa o pm cd doc a vs ns G Y ho hd hcd hmg hobj hints hlen hg => by
    have kin := hY w _ Y
    obtain ⟨fd, hb, hF⟩ := F w mg fa _ kin G.T.g hmg
    exact head_call kin G.T.g G.T.b G.T.builtins G.T.nolimit hg hobj hints (Nat.le_trans hlen hn2) hr hF hb fun H hO hS => hsp w H a ns hlen hO hS
end Mi

set_option Elab.async false
set_option linter.all false
set_option maxRecDepth 100000
namespace Mi
open PySem L2
/-! ### going through a mirror: one rule each, read backwards -/
section
variable {r : Env} {G : Gp} {R : KT} {ma mb mc : ME} {k : MA} {M : MEnds} {s t : MS}
theorem x_var {i : Nat} {u : T} (e : r[i]? = some (some u)) (h : R u G) : mVar i r G R := ⟨u, e, h⟩
theorem x_c {u : T} (h : R u G) : mC u r G R := h
theorem x_op {o : O2} (h : ma r G fun s G1 => mb r G1 fun t G2 => o s t G2 R) : mOp o ma mb r G R := h
theorem x_seq (h : s { M with nx := t M } r G) : msSeq s t M r G := h
theorem x_if {c : MT} (h : c r G fun b G1 => if b = true then s M r G1 else t M r G1) : msIf c s t M r G := h
theorem x_ret (h : ma r G M.rt) : msRet ma M r G := h
theorem x_next (h : M.nx r G) : msNext M r G := h
theorem x_expr (h : ma r G fun _ G1 => M.nx r G1) : msExpr ma M r G := h
theorem x_asg {g : MG} (h : ma r G fun t G1 => g t r G1 M.nx) : msAsg ma g M r G := h
theorem x_gname {i : Nat} {u : T} {N : Env → Gp → Prop} (h : N (r.set i (some u)) G) : mgName i u r G N := h
theorem x_gtup {n : Nat} {ms : MGs} {ts : List T} {N : Env → Gp → Prop} (e : ts.length = n) (h : ms ts r G N) : mgTup n ms (.tup ts) r G N := ⟨ts, rfl, e, h⟩
theorem x_gcons {m : MG} {ms : MGs} {u : T} {us : List T} {N : Env → Gp → Prop} (h : m u r G fun r1 G1 => ms us r1 G1 N) : mgCons m ms (u :: us) r G N := ⟨u, us, rfl, h⟩
theorem x_gnil {N : Env → Gp → Prop} (h : N r G) : mgNil [] r G N := ⟨rfl, h⟩
theorem x_gsub {o : OSt} {u : T} {N : Env → Gp → Prop} (h : ma r G fun s G1 => mb r G1 fun t G2 => o s t u G2 fun G3 => N r G3) : mgSub ma mb o u r G N := h
theorem x_call {sp : Sm} (h : k r G fun ts G1 => sp ts G1 R) : mCall sp k r G R := h
theorem x_cons {R : List T → Gp → Prop} (h : ma r G fun t G1 => k r G1 fun ts G2 => R (t :: ts) G2) : maCons ma k r G R := h
theorem x_nil {R : List T → Gp → Prop} (h : R [] G) : maNil r G R := h
theorem x_par {i j : Nat} (h : k r G fun ts G1 => ∃ s t, ts = [s, t] ∧ M.nx ((r.set i (some s)).set j (some t)) G1) : msPar i j k M r G := h
theorem x_tup (h : k r G fun ts G1 => ts.length ≤ sizeLine ∧ R (.tup ts) G1) : mTup k r G R := h
theorem x_lst (h : k r G fun ts G1 => ts.length ≤ sizeLine ∧ ∀ p, G1 p = none → R (.ref p) (put G1 p (.lst ts))) : mLst k r G R := h
theorem x_b {R : Bool → Gp → Prop} (h : ma r G fun t G1 => ∃ k, t = .bl k ∧ R k G1) : mB ma r G R := h
theorem x_bl {R : Bool → Gp → Prop} {b : Bool} (h : R b G) : ∃ k, T.bl b = .bl k ∧ R k G := ⟨b, rfl, h⟩
theorem x_tru {R : Bool → Gp → Prop} (h : ma r G fun t G1 => ∃ k, truT G1 t k ∧ R k G1) : mTru ma r G R := h
theorem x_trub {R : Bool → Gp → Prop} {b : Bool} (h : R b G) : ∃ k, truT G (.bl b) k ∧ R k G := ⟨b, rfl, h⟩
theorem x_not {c : MT} {R : Bool → Gp → Prop} (h : c r G fun c G1 => R (!c) G1) : tmNot c r G R := h
theorem x_or {c d : MT} {R : Bool → Gp → Prop} (h : c r G fun c G1 => if c = true then R true G1 else d r G1 R) : tmOr c d r G R := h
theorem x_and {c d : MT} {R : Bool → Gp → Prop} (h : c r G fun c G1 => if c = true then d r G1 R else R false G1) : tmAnd c d r G R := h
theorem x_ife {c : MT} (h : c r G fun c G1 => if c = true then ma r G1 R else mb r G1 R) : mIf c ma mb r G R := h
theorem x_add {i j : Int} (h : R (.int (i + j)) G) : oAdd (.int i) (.int j) G R := h
theorem x_sub {i j : Int} (h : R (.int (i - j)) G) : oSub (.int i) (.int j) G R := ⟨trivial, h⟩
theorem x_mod {i j : Int} (c : 0 < j) (h : R (.int (i % j)) G) : oMod (.int i) (.int j) G R := ⟨c, h⟩
theorem x_fdiv {i j : Int} (c : CDivW i j) (h : R (.int (i / j)) G) : oFdiv (.int i) (.int j) G R := ⟨c, h⟩
theorem x_pow {i j : Int} (c : CPow i j) (h : R (.int (i ^ j.toNat)) G) : oPow (.int i) (.int j) G R := ⟨c, h⟩
theorem x_mul {i j : Int} (c : CMul i j) (h : R (.int (i * j)) G) : oMulU (.int i) (.int j) G R := .inl ⟨.inl c, h⟩
theorem x_ix {a : Addr} {i : Int} {xs : List T} {u : T} (e : G a = some (.lst xs)) (q : atI xs i = some u) (h : R u G) : oIx (.ref a) (.int i) G R := .inl ⟨xs, u, .inr (.inr ⟨a, rfl, e⟩), q, h⟩
theorem x_ixt {i : Int} {xs : List T} {u : T} (q : atI xs i = some u) (h : R u G) : oIx (.tup xs) (.int i) G R := .inl ⟨xs, u, .inl rfl, q, h⟩
theorem x_ixc {i : Int} {xs : List T} {u : T} (q : atI xs i = some u) (h : R u G) : oIx (.cl xs) (.int i) G R := .inl ⟨xs, u, .inr (.inl rfl), q, h⟩
theorem x_sto {a : Addr} {i : Int} {xs : List T} {u : T} {j : Nat} {K : Gp → Prop} (e : G a = some (.lst xs)) (q : ixN xs.length i = some j) (h : K (put G a (.lst (xs.set j u)))) : osLst (.ref a) (.int i) u G K := ⟨a, i, xs, j, rfl, rfl, e, q, h⟩
theorem x_gtI {i j : Int} (h : R (.bl (decide (j < i))) G) : oGtU (.int i) (.int j) G R := h
theorem x_ltI {i j : Int} (h : R (.bl (decide (i < j))) G) : oLtU (.int i) (.int j) G R := h
theorem x_geI {i j : Int} (h : R (.bl (decide (j ≤ i))) G) : oGeU (.int i) (.int j) G R := h
theorem x_leI {i j : Int} (h : R (.bl (decide (i ≤ j))) G) : oLeU (.int i) (.int j) G R := h
theorem x_divmod {i j : Int} (c : CDiv i j) (h : R (.tup [.int (i / j), .int (i % j)]) G) : omDivmod [.int i, .int j] G R := ⟨i, j, rfl, c, h⟩
theorem x_abs {i : Int} (h : R (.int (if i < 0 then -i else i)) G) : omAbs [.int i] G R := ⟨i, rfl, h⟩
theorem x_intb {b : Bool} (h : R (.int (if b then 1 else 0)) G) : omInt [.bl b] G R := .inr ⟨b, rfl, h⟩
theorem x_ite {b : Bool} {p q : Prop} (h1 : b = true → p) (h2 : b = false → q) : if b = true then p else q := by
  cases b
  · rw [if_neg (by decide)]; exact h2 rfl
  · rw [if_pos rfl]; exact h1 rfl
theorem get_new {p a : Addr} {c d : C} (hp : G p = none) (h : G a = some c) : put G p d a = some c := by
  rw [put_ne (fun e => by rw [e, hp] at h; cases h)]
  exact h
theorem get_ne {p a : Addr} {c d : C} (hp : a ≠ p) (h : G a = some c) : put G p d a = some c := by rw [put_ne hp]; exact h
end
end Mi
namespace Mi
open PySem L2
theorem divw {j : Int} (h : 0 < j) (h2 : j < 9223372036854775808) : CDivW j j := by
  refine ⟨h, ?_⟩
  have e : j.natAbs ≠ 0 := by omega
  have : j.natAbs.log2 < 64 := (Nat.log2_lt e).mpr (by omega)
  omega
theorem x_fdivC {i j : Int} {G : Gp} {R : KT} (c : 0 < j) (c2 : j < 9223372036854775808) (h : R (.int (i / j)) G) : oFdiv (.int i) (.int j) G R := x_fdiv ⟨c, (divw c c2).2⟩ h
theorem x_mulL {i j : Int} {G : Gp} {R : KT} (c : -9223372036854775808 ≤ i) (c2 : i ≤ 9223372036854775808) (h : R (.int (i * j)) G) : oMulU (.int i) (.int j) G R := x_mul (.inl ⟨by omega, by omega⟩) h
theorem x_mulR {i j : Int} {G : Gp} {R : KT} (c : -9223372036854775808 ≤ j) (c2 : j ≤ 9223372036854775808) (h : R (.int (i * j)) G) : oMulU (.int i) (.int j) G R := x_mul (.inr ⟨by omega, by omega⟩) h
end Mi
namespace Mi
open PySem L2
section
variable {r : Env} {G : Gp} {R : KT} {ma mb mc : ME} {k : MA} {M : MEnds} {s t : MS}
theorem x_len {u : T} {us : List T} (e : isSq G u us) (h : R (.int us.length) G) : omLen [u] G R := ⟨u, rfl, .inl ⟨us, e, h⟩⟩
theorem x_for {w : MI} {g : MG} (h : w r G fun m G1 => ∃ W : Nat → Env → Gp → Prop, W 0 r G1 ∧ (∀ i r G, W i r G → Held G m.held) ∧
  (∀ i t r G, m.its[i]? = some t → W i r G → g t r G (s { M with nx := fwd (W (i + 1)), ct := fwd (W (i + 1)), bk := M.nx })) ∧ ∀ r G, W m.its.length r G → M.nx r G) : msFor w g s M r G := h
theorem x_range {j : Int} {N : MIt → Gp → Prop} (c : -4611686018427387904 ≤ j) (c2 : j < 4611686018427387904) (h : N ⟨rangeT 0 j.toNat, []⟩ G) : ∃ j', T.int j = .int j' ∧ -(2 ^ 62) ≤ j' ∧ j' < 2 ^ 62 ∧ N ⟨rangeT 0 j'.toNat, []⟩ G := ⟨j, rfl, by omega, by omega, h⟩
theorem x_irange {N : MIt → Gp → Prop} (h : ma r G fun t G1 => ∃ j, t = .int j ∧ -(2 ^ 62) ≤ j ∧ j < 2 ^ 62 ∧ N ⟨rangeT 0 j.toNat, []⟩ G1) : miRange ma r G N := h
theorem range_at {n i : Nat} {t : T} (h : (rangeT 0 n)[i]? = some t) : t = .int i ∧ i < n := by
  unfold rangeT at h
  rw [List.getElem?_map] at h
  cases e : (List.range n)[i]? with
  | none => rw [e] at h; cases h
  | some j =>
    rw [e] at h
    obtain ⟨h1, h2⟩ := List.getElem?_eq_some_iff.mp e
    rw [List.getElem_range] at h2
    subst h2
    rw [List.length_range] at h1
    have q := Option.some.inj h
    refine ⟨by rw [← q]; show T.int (0 + _) = _; rw [Int.zero_add], h1⟩
theorem x_lc {w : MI} {g : MG} {tt : MT} {te : ME} {vs : List Nat} (h : w r G fun m G1 => ∀ D, G1 D = none → ∃ W : Nat → Gp → Prop, W 0 (put G1 D (.lst [])) ∧ (∀ i G, W i G → Held G m.held) ∧
  (∀ i t G, m.its[i]? = some t → W i G → g t (wipeT r vs) G fun r2 G2 => tt r2 G2 fun b G3 =>
    if b = true then te r2 G3 fun u G4 => ∃ acc, G4 D = some (.lst acc) ∧ acc.length < sizeLine ∧ fwdG (W (i + 1)) (put G4 D (.lst (acc ++ [u]))) else fwdG (W (i + 1)) G3) ∧ ∀ G, W m.its.length G → R (.ref D) G) : mLc w g tt te vs r G R := h
theorem x_yes {R : Bool → Gp → Prop} (h : R true G) : mtYes r G R := h
theorem x_bm {n : String} {o : OM} (h : ma r G fun t G1 => isTy G1 n t ∧ k r G1 fun ts G2 => o t ts G2 R) : mBm n o ma k r G R := h
theorem x_bm0 {n : String} {o : OM} (h : ma r G fun t G1 => isTy G1 n t ∧ o t [] G1 R) : mBm0 n o ma r G R := h
theorem x_tystr {z : Str} {p : Prop} (h : p) : isTy G "str" (.str z) ∧ p := ⟨rfl, h⟩
theorem x_tylst {a : Addr} {ts : List T} {p : Prop} (e : G a = some (.lst ts)) (h : p) : isTy G "list" (.ref a) ∧ p := ⟨.inl ⟨rfl, ts, e⟩, h⟩
theorem x_append {a : Addr} {xs : List T} {u : T} (e : G a = some (.lst xs)) (c : xs.length < sizeLine) (h : R .non (put G a (.lst (xs ++ [u])))) : omAppend (.ref a) [u] G R := ⟨a, xs, u, rfl, rfl, e, c, h⟩
theorem x_andv (h : ma r G fun t G1 => ∃ k, truT G1 t k ∧ if k = true then mb r G1 R else R t G1) : mAndV ma mb r G R := h
theorem x_orv (h : ma r G fun t G1 => ∃ k, truT G1 t k ∧ if k = true then R t G1 else mb r G1 R) : mOrV ma mb r G R := h
theorem x_notv (h : ma r G fun t G1 => ∃ k, truT G1 t k ∧ R (.bl (!k)) G1) : mNotV ma r G R := h
theorem x_eqI {i j : Int} (h : R (.bl (decide (i = j))) G) : oEq (.int i) (.int j) G R := ⟨.int i, .int j, .int i, .int j, rfl, rfl, h⟩
theorem x_eqS {i j : Str} (c : SeqAt.shaped (.str i) = true) (c2 : SeqAt.shaped (.str j) = true) (h : R (.bl (PyData.eqv (.str i) (.str j))) G) : oEq (.str i) (.str j) G R := ⟨.str i, .str j, .str i, .str j, c, c2, h⟩
theorem x_adds {x y : Str} (c : x.length + y.length ≤ sizeLine) (h : R (.str (x ++ y)) G) : oAdd (.str x) (.str y) G R := ⟨c, h⟩
theorem x_muls {z : Str} {i : Int} (c1 : i < 9223372036854775808) (c2 : -9223372036854775808 ≤ i) (l : z.length * i.toNat ≤ sizeLine) (h : R (.str (repS z i.toNat)) G) : oMulU (.str z) (.int i) G R := .inr ⟨z, i, rfl, rfl, by omega, by omega, l, h⟩
theorem x_ixs {z : Str} {i : Int} {c : Nat} (l : z.length ≤ sizeLine) (q : atI z.cps.toList i = some c) (h : R (.str ⟨#[c]⟩) G) : oIx (.str z) (.int i) G R := .inr ⟨z, c, rfl, l, q, h⟩
end
end Mi

set_option Elab.async false
set_option linter.all false
set_option maxRecDepth 100000
namespace Mi
open PySem PySem.Spec PyProof.Rows
/-! ### how many unlike texts stand in a list -/
theorem take_next {zs : List Str} {i : Nat} {z : Str} (h : zs[i]? = some z) : zs.take (i + 1) = zs.take i ++ [z] := by
  rw [List.take_add_one, h]; rfl
theorem any_next {zs : List Str} {i : Nat} {z : Str} (h : zs[i]? = some z) (k : Str) : (zs.take (i + 1)).any (· == k) = ((zs.take i).any (· == k) || decide (k = z)) := by
  rw [take_next h, List.any_append]
  congr 1
  show ((z == k) || false) = _
  rw [Bool.or_false]
  by_cases e : k = z
  · rw [decide_eq_true e, e]; exact beq_self_eq_true z
  · rw [decide_eq_false e]; exact beq_eq_false_iff_ne.mpr (Ne.symm e)
theorem unlike_next {zs : List Str} {i : Nat} {z : Str} (h : zs[i]? = some z) : (zs.take (i + 1)).Nodup ↔ (zs.take i).Nodup ∧ (zs.take i).any (· == z) = false := by
  rw [take_next h, List.nodup_append, List.any_eq_false]
  constructor
  · rintro ⟨a, _, c⟩
    exact ⟨a, fun y hy e => c y hy z (by simp) (beq_iff_eq.mp e)⟩
  · rintro ⟨a, c⟩
    refine ⟨a, by simp, fun y hy x hx e => c y hy ?_⟩
    rw [e, List.mem_singleton.mp hx]
    exact beq_self_eq_true z
/-- so many unlike ones are among the first i -/
def Many (zs : List Str) (i n : Nat) : Prop := n ≤ i ∧ (n = i ↔ (zs.take i).Nodup)
theorem Many.next {zs : List Str} {i n : Nat} {z : Str} (h : Many zs i n) (e : zs[i]? = some z) : Many zs (i + 1) (if (zs.take i).any (· == z) = true then n else n + 1) := by
  obtain ⟨h1, h2⟩ := h
  unfold Many
  rw [unlike_next e, ← h2]
  cases (zs.take i).any (· == z) with
  | true =>
    rw [if_pos rfl]
    exact ⟨by omega, fun q => by omega, fun q => by cases q.2⟩
  | false =>
    rw [if_neg Bool.false_ne_true]
    exact ⟨by omega, fun q => ⟨by omega, rfl⟩, fun q => by omega⟩
theorem Many.nil (zs : List Str) : Many zs 0 0 := ⟨Nat.le_refl 0, fun _ => List.nodup_nil, fun _ => rfl⟩
section
variable {prog : Program} {w : World} {A : Around} {R : Result → Shared → Prop} {I : Addr} {fp wr : List Addr} {Gs : Array GenState → Array GenState → Prop} {n : Nat} {P : Nat → Value → Prop} {St : Nat → Shared → Prop}
/-- the first i of some texts stand in a set -/
def Holds (prog : Program) (w : World) (h : Heap) (D : Addr) (zs : List Str) (i : Nat) : Prop := ∃ c, Many zs i c ∧ h.SetOf (PySem.strKind prog w) D (fun k => (zs.take i).any (· == k)) c
theorem Holds.at {h h' : Heap} {D : Addr} {zs : List Str} {i : Nat} (x : Holds prog w h D zs i) (k : ∀ o, h.get? D = some o → h'.get? D = some o) : Holds prog w h' D zs i := by
  obtain ⟨c, m, o, es, ep, t, ho, r⟩ := x
  exact ⟨c, m, o, es, ep, t, k o ho, r⟩
theorem fill (W : WalksS prog w A.in1 I fp wr Gs n P St) {D : Addr} (hD : D ∉ fp) {zs : List Str} (hn : n < 4000) (hv : ∀ i v, P i v → ∃ z t, zs[i]? = some z ∧ v = .str z t) :
    ∀ (m i : Nat) (s : Shared), n - i = m → i ≤ n → St i s → Holds prog w s.heap D zs i → (∀ s', Moved (D :: wr) Gs s s' → Holds prog w s'.heap D zs n → R (.ok (.ret .none)) s') →
      codeAny (model prog w) A (.builtin "set.update.loop" ⟨[.ref D, .ref I], []⟩) R s := by
  have out : D ∉ wr := fun h => hD (W.sub _ h)
  have wide : ∀ b ∈ wr, b ∈ D :: wr := fun b hb => List.mem_cons_of_mem _ hb
  intro m
  induction m with
  | zero =>
    intro i s hm hi st x fin
    obtain rfl : i = n := by omega
    refine codeAny_builtin PyProof.Rows.F.entry_set_update_loop ?_
    rw [Around.under_plainId PyProof.Rows.F.plain_set_update_loop _]
    show wpAny _ A.in1 (pyNext (.ref I) >>= _) _ _ s
    refine wpAny_bind (W.done s _ _ st fun s1 mv => ?_)
    show wpAny _ A.in1 (ret Value.none) _ _ s1
    exact wpAny_pure (fin s1 (mv.mono wide) (x.at fun o e => mv.heap D o out e))
  | succ m ih =>
    intro i s hm hi st x fin
    refine codeAny_builtin PyProof.Rows.F.entry_set_update_loop ?_
    rw [Around.under_plainId PyProof.Rows.F.plain_set_update_loop _]
    show wpAny _ A.in1 (pyNext (.ref I) >>= _) _ _ s
    refine wpAny_bind (W.item i s _ _ (by omega) st fun v s1 hp st1 mv => ?_)
    obtain ⟨z, t, hz, rfl⟩ := hv i v hp
    obtain ⟨c, many, set⟩ := x.at fun o e => mv.heap D o out e
    show wpAny _ A.in1 (holding [Value.str z t] (setAdd D (.str z t)) >>= _) _ _ s1
    refine wpAny_bind (wpAny_holding ?_)
    unfold setAdd
    refine wpAny_holding ?_
    refine wpAny_bind ((PySem.strKind prog w).pyHash (k := z) (strKind_is _ _ _ _) ?_)
    have room : c + 1 < scanBound := by have := many.1; unfold scanBound; omega
    refine wpAny_setAddHashed_of (knd := PySem.strKind prog w) (s := { s1 with toks := s1.toks + 1 }) (strKind_is _ _ _ _) rfl set room fun h2 but set2 => ?_
    have next : Holds prog w h2 D zs (i + 1) := ⟨_, many.next hz, SetOf_congr set2 (fun k => (any_next hz k).symm) rfl⟩
    have keep : ∀ b, b ≠ D → ∀ o, s1.heap.get? b = some o → h2.get? b = some o := fun b hb o e => by rw [but.2 b hb]; exact e
    refine wpAny_pure ⟨plainId_quiet PyProof.Rows.F.plain_set_update_loop _, ih (i + 1) _ (by omega) (by omega) (W.frame _ s1 _ _ st1 (Nat.le_succ _) fun b hb o e => keep b (fun q => hD (q ▸ hb)) o e) next fun s2 mv2 x2 => ?_⟩
    refine fin s2 (Moved.trans W.gtrans ((mv.mono wide).then_heap (Nat.le_succ _) fun b o hb e => keep b (fun q => hb (q ▸ List.mem_cons_self)) o e) mv2) x2
end
section
variable {prog : Program} {w : World} {A : Around} {E : Value → Shared → Prop} {s : Shared}
set_option maxHeartbeats 3200000 in
theorem set_of_texts {l : Addr} {items : Array Value} {zs : List Str} {Q : Value → Shared → Prop} (hh : A.handled = none) (hl : s.heap.IsList l items) (hi : StrsAre items.toList zs) (hn : zs.length < 4000)
    (k : ∀ (h' : Heap) (tk : Nat), Holds prog w h' s.heap.objs.size zs zs.length → (∀ b o, s.heap.get? b = some o → h'.get? b = some o) → Q (.ref s.heap.objs.size) { s with heap := h', toks := tk }) :
    wpAny (model prog w) A (call (.type "set") [.ref l]) Q E s := by
  have hsz : items.size = zs.length := by rw [← Array.length_toList]; exact StrsAre.len_eq hi
  obtain ⟨c, tl, hmro⟩ := PySem.F.called_set.mro
  have hmade := PySem.F.called_set.made
  have hsub := PySem.F.called_set.sub
  refine wpAny_call (codeAny_of_tree ?_)
  show wpAny _ _ (callAny (.type "set") _) _ _ _
  refine wpAny_pure ⟨Code.quiet_builtin _ (by decide +kernel), codeAny_builtin PySem.F.entry_type_call ?_⟩
  rw [Around.under_plain (weight_type_call_type "set" [.ref l] []) rfl]
  have h1 := PySem.F.called_set.notType
  have h2 := PySem.F.called_set.canCreate
  have hct := PySem.F.typeCall_set_1 (.ref l)
  repeat (any_goals (first | assumption | wp_step))
  refine codeAny_mono (code_set_new_1 (.ref l) (E := E) (Q₁ := fun obj s1 => ∃ led : Bool, obj = .ref s.heap.objs.size ∧ s1 = { s with heap := s.heap.push { cls := .type "set", dict := none, data := .set #[] 0 (.fresh 0 0 led) } }) fun led => ⟨led, rfl, rfl⟩) fun r s1 hr => ?_
  match r, hr with
  | .error _, hr => exact hr
  | .ok .next, hr => exact hr.elim
  | .ok .brk, hr => exact hr.elim
  | .ok .cont, hr => exact hr.elim
  | .ok (.ret obj), hr =>
    obtain ⟨led, rfl, rfl⟩ := hr
    generalize hN : s.heap.push { cls := .type "set", dict := none, data := .set #[] 0 (.fresh 0 0 led) } = hp1
    have fresh : hp1.get? s.heap.objs.size = some { cls := .type "set", dict := none, data := .set #[] 0 (.fresh 0 0 led) } := by rw [← hN]; exact Heap.get?_push_size _ rfl
    have old : ∀ b o, s.heap.get? b = some o → hp1.get? b = some o := fun b o e => by rw [← hN]; exact Heap.get?_push_of_some _ e
    have size1 : hp1.objs.size = s.heap.objs.size + 1 := by rw [← hN]; exact Heap.size_push _ _
    have isSet : Shared.TypeIs { s with heap := hp1 } (.ref s.heap.objs.size) "set" := ⟨_, fresh, rfl⟩
    have hli := PySem.F.called_set.init.lookup
    have hbi := PySem.F.called_set.init.bind (.ref s.heap.objs.size)
    repeat (any_goals (first | assumption | wp_step))
    refine codeAny_mono (codeAny_call_builtin (R := wants (fun r s2 => r = .none ∧ ∃ h' tk, s2 = { s with heap := h', toks := tk } ∧ Holds prog w h' s.heap.objs.size zs zs.length ∧ ∀ b o, s.heap.get? b = some o → h'.get? b = some o) E) PySem.F.called_set.init.plain PySem.F.entry_set_init (check_set_init_1 isSet ?_)) fun r2 s2 hr2 => ?_
    · obtain ⟨ol, hol, hcl, nl, hdl⟩ := hl
      obtain ⟨ocls, odict, odata, oslots⟩ := ol
      simp only at hcl hdl
      subst hcl; subst hdl
      have hol1 := old _ _ hol
      have hsls := PySem.F.sub_list_set
      have hslf := PySem.F.sub_list_frozenset
      have hne : (Value.type "list" == Value.type "dict") = false := by decide
      have hl1 : hp1.IsList l items := ⟨_, hol1, rfl, nl, rfl⟩
      unfold Builtin.«set.__init__» noKeywords Builtin.Frozenset.updateFrom
      generalize hPI : pyIter = PI
      wp_walk
      subst hPI
      refine wpAny_pyIter_list hl1 ?_
      refine wpAny_bind (wpAny_runValue ?_)
      have ll : l < s.heap.objs.size := Heap.lt_size hol
      have hh3 : A.in1.in1.in1.handled = none := by simp [hh]
      have lI : l ≠ hp1.objs.size := by rw [size1]; exact Nat.ne_of_lt (Nat.lt_succ_of_lt ll)
      have DI : s.heap.objs.size ∉ [hp1.objs.size, l] := by
        rw [size1]
        intro h
        rcases List.mem_cons.mp h with h | h
        · exact Nat.ne_of_lt (Nat.lt_succ_self _) h
        · exact Nat.ne_of_gt ll (List.mem_singleton.mp h)
      have val : ∀ (i : Nat) (v : Value), items[i]? = some v → ∃ z t, zs[i]? = some z ∧ v = .str z t := fun i v e => by
        obtain ⟨t, rfl⟩ := SS.strs_at hi i v (by rw [Array.getElem?_toList]; exact e)
        have hi2 : i < zs.length := by
          have := (Array.getElem?_eq_some_iff.mp e).1
          omega
        exact ⟨_, t, by rw [List.getD_eq_getElem?_getD, List.getElem?_eq_getElem hi2]; rfl, rfl⟩
      refine fill ((Walks.list hh3 _ l lI items).toS) DI (by omega) val (items.size - 0) 0 _ rfl (Nat.zero_le _) ⟨⟨_, Heap.get?_push_size _ rfl, rfl, rfl⟩, hl1.push _⟩ ⟨0, Many.nil zs, ?_⟩ fun s3 mv x => ?_
      · refine SetOf_congr ((setObjOf_fresh (knd := PySem.strKind prog w) led).setOf (Heap.get?_push_of_some _ fresh) (by unfold scanBound; omega)) (fun _ => rfl) rfl
      · obtain ⟨h3, g3, d3, tk3, os3⟩ := s3
        have eg : g3 = s.gens := mv.gens
        have ed : d3 = s.drawn := mv.drawn
        have eo : os3 = s.os := mv.os
        subst eg; subst ed; subst eo
        rw [hsz] at x
        show wpAny _ _ _ _ _ _
        refine wpAny_pure ?_
        show wpAny _ _ (ret Value.none) _ _ _
        refine wpAny_pure ⟨rfl, h3, tk3, rfl, x, fun b o e => mv.heap b o (fun h => ?_) (Heap.get?_push_of_some _ (old b o e))⟩
        have lb : (b : Nat) < s.heap.objs.size := Heap.lt_size e
        rcases List.mem_cons.mp h with h | h
        · exact Nat.ne_of_lt lb h
        · exact Nat.ne_of_lt (Nat.lt_succ_of_lt lb) ((List.mem_singleton.mp h).trans size1)
    · match r2, hr2 with
      | .error _, hr2 => exact hr2
      | .ok .next, hr2 => exact hr2.elim
      | .ok .brk, hr2 => exact hr2.elim
      | .ok .cont, hr2 => exact hr2.elim
      | .ok (.ret _), hr2 =>
        obtain ⟨rfl, h3, tk, rfl, x, y⟩ := hr2
        repeat (any_goals (first | assumption | wp_step))
        exact k h3 tk x y
end
end Mi
namespace Mi
open PySem PySem.Spec PyProof.Rows L2
section
variable {X : Cx}
/-- len(set(texts)) -/
def tLenTxt (K : PySem.W.Frag) (ta : TE) : TE := fun σ H Q => ta σ H fun x H1 => ∃ l, ∃ zs : List Str, x = .ref l ∧ SqL K H1 l (zs.map V.str) ∧ zs.length < 4000 ∧ ∀ n : Nat, (n = zs.length ↔ zs.Nodup) → Q (.int n) H1
theorem pe_lenTxt {a : Expr} {ta : TE} {p p2 q pos : Pos} (hc : X.calm = true) (hg : Gl X "len") (hm : X.mg "len" = none) (hg2 : Gl X "set") (hm2 : X.mg "set" = none) (ha : PE X a ta)
    (na : starEach [a] X.env = (false, eval a X.env) :: starEach [] X.env := by rfl) : PE X (.Call (.Name "len" p) [.Call (.Name "set" p2) [a] [] q] [] pos) (tLenTxt X.K ta) := by
  refine ⟨fun pins s σ H Q I h => Call_ (ld_blt I hg hm boot_len ?_)⟩
  refine callWith_builtin1 (args_cons ?_ rfl) rfl rfl
  refine Call_ (ld_blt I hg2 hm2 boot_set ?_)
  refine callWith_type1 (args_cons (thn (ha.run pins s σ H _ I h) fun v s1 ⟨x, H1, I1, r1, q1⟩ => args_nil ?_) na) na rfl
  obtain ⟨l, zs, rfl, hq, hz, q1⟩ := q1
  cases r1
  obtain ⟨its, r, pl, _⟩ := I1.list hq
  refine set_of_texts (I1.ok.hd hc) pl.isList (by simpa using strsAre_of r) hz fun h' tk ⟨c, many, o, es, ep, t, ho, hex, hd, _, _, _, hf, hn⟩ hk => args_nil ?_
  have I2 : Inv X pins σ H1 { s1 with heap := h', toks := tk } := I1.kept hk
  refine call_len_set ho hex hd hf (by have := many.1; rw [hn]; omega) ⟨.int c, H1, I2.tok _, ⟨_, by rw [hn]⟩, q1 c ?_⟩
  have := many.2
  rwa [List.take_length] at this
end
section
variable {X : Cx} {a : Expr} {ma : ME}
def mLenSet (m : ME) : ME := fun r G R => m r G fun t G1 => ∃ zs : List Str, isL G1 t (zs.map T.str) ∧ zs.length < 4000 ∧ ∀ n : Nat, (n = zs.length ↔ zs.Nodup) → R (.int n) G1
theorem o_lenSet {p p2 q pos : Pos} (hc : X.calm = true) (hg : Gl X "len") (hm : X.mg "len" = none) (hg2 : Gl X "set") (hm2 : X.mg "set" = none) (ha : OE X a ma)
    (na : starEach [a] X.env = (false, eval a X.env) :: starEach [] X.env := by rfl) : OE X (.Call (.Name "len" p) [.Call (.Name "set" p2) [a] [] q] [] pos) (mLenSet ma) :=
  ⟨(pe_lenTxt hc hg hm hg2 hm2 ha.ok na).imp fun σ H Q h => by
    obtain ⟨r, G, R, hs, hgg, k, f⟩ := h
    refine ⟨r, G, _, hs, hgg, k, fun t G1 H1 v k1 l1 g1 r1 => ?_⟩
    obtain ⟨zs, e, hz, k2⟩ := k1
    obtain ⟨b, vs, rfl, hq, ru⟩ := e.seq g1 r1
    rw [strs_rp ru] at hq
    exact ⟨b, zs, rfl, hq, hz, fun n hn => f _ G1 H1 _ (k2 n hn) l1 g1 rfl⟩⟩
end
/-! ### a list of texts that rises -/
def ltS (a b : Str) : Bool := decide (a.cps.toList < b.cps.toList)
/-- each is less than the next -/
def up : List Str → Bool
  | x :: y :: r => ltS x y && up (y :: r)
  | _ => true
theorem str_eq {a b : Str} (h : a.cps.toList = b.cps.toList) : a = b := by
  cases a; cases b
  congr 1
  exact Array.toList_inj.mp h
theorem ltS_irr (a : Str) : ltS a a = false := decide_eq_false (List.lt_irrefl _)
theorem ltS_tr {a b c : Str} (h : ltS a b = true) (k : ltS b c = true) : ltS a c = true := decide_eq_true (List.lt_trans (of_decide_eq_true h) (of_decide_eq_true k))
theorem ltS_con {a b : Str} (h : ltS a b = false) (k : ltS b a = false) : a = b := str_eq (List.le_antisymm (List.not_lt.mp (of_decide_eq_false k)) (List.not_lt.mp (of_decide_eq_false h)))
theorem rising_pw : ∀ (p : Str) (l : List Str), risingS p l = true → (p :: l).Pairwise (fun a b => ltS b a = false)
  | p, [], _ => by simp
  | p, x :: r, h => by
    have h : (!ltCps x.cps.toList p.cps.toList && risingS x r) = true := h
    rw [Bool.and_eq_true, ltCps_eq] at h
    have h0 : ltS x p = false := by simpa [ltS] using h.1
    have ih := rising_pw x r h.2
    refine List.pairwise_cons.mpr ⟨fun b hb => ?_, ih⟩
    rcases List.mem_cons.mp hb with rfl | hb
    · exact h0
    · have hx := (List.pairwise_cons.mp ih).1 b hb
      cases e : ltS b p with
      | false => rfl
      | true =>
        cases e2 : ltS p x with
        | true => rw [ltS_tr e e2] at hx; cases hx
        | false => rw [ltS_con e2 h0, hx] at e; cases e
theorem sorted_pw : ∀ (l : List Str), sortedS l = true → l.Pairwise (fun a b => ltS b a = false)
  | [], _ => .nil
  | x :: r, h => rising_pw x r h
theorem up_pw : ∀ (l : List Str), up l = true → l.Pairwise (fun a b => ltS a b = true)
  | [], _ => .nil
  | [x], _ => by simp
  | x :: y :: r, h => by
    have h : (ltS x y && up (y :: r)) = true := h
    rw [Bool.and_eq_true] at h
    have ih := up_pw (y :: r) h.2
    refine List.pairwise_cons.mpr ⟨fun b hb => ?_, ih⟩
    rcases List.mem_cons.mp hb with rfl | hb
    · exact h.1
    · exact ltS_tr h.1 ((List.pairwise_cons.mp ih).1 b hb)
theorem pw_up : ∀ (l : List Str), l.Pairwise (fun a b => ltS a b = true) → up l = true
  | [], _ => rfl
  | [x], _ => rfl
  | x :: y :: r, h => by
    obtain ⟨a, b⟩ := List.pairwise_cons.mp h
    show (ltS x y && up (y :: r)) = true
    rw [a y (by simp), pw_up _ b]
    rfl
theorem up_nodup {l : List Str} (h : up l = true) : l.Nodup := (up_pw l h).imp fun {a b} k e => by rw [e, ltS_irr] at k; cases k
/-- unlike, and the same when sorted: that is to rise -/
theorem up_iff {zs ys : List Str} (hp : ys.Perm zs) (hs : sortedS ys = true) : up zs = true ↔ zs.Nodup ∧ ys = zs := by
  constructor
  · intro h
    refine ⟨up_nodup h, List.Perm.eq_of_pairwise (le := fun a b => ltS b a = false) (fun a b _ _ p q => ltS_con q p) (sorted_pw ys hs) ((up_pw zs h).imp fun {a b} k => ?_) hp⟩
    cases e : ltS b a with
    | false => rfl
    | true => rw [← ltS_irr a, ltS_tr k e]
  · rintro ⟨nd, rfl⟩
    refine pw_up _ ?_
    have both := (sorted_pw ys hs).and nd
    refine both.imp fun {a b} h => ?_
    cases e : ltS a b with
    | true => rfl
    | false => exact absurd (ltS_con e h.1) h.2
end Mi

set_option Elab.async false
set_option linter.all false
set_option maxRecDepth 100000
/-! ### xs.extend(a tuple) -/
namespace Mi
open PySem PySem.SeqAt
open AutoSeq1 (wpAny_loadPart')
open MeetsSeq MeetsSeq2 MeetsSeq3 SeqRoads2
theorem extend_tup (l : Addr) (items : Array Value) (n : Nat) (b : Addr) (more : Array Value) (n2 : Nat) (dd : Option Addr) (sl : Array (Option Value)) (h0 : ¬(!items.isEmpty && Builtin.List.listTooLong (items.size + more.size)) = true) (h1 : items.size ≤ sizeLine) (h2 : items.size + more.size ≤ sizeLine + 1) :
    Meets (Builtin.«list.extend» ⟨[.ref l, .ref b], []⟩) (fun _ R s => s.heap.get? l = some { cls := .type "list", data := .seq items n } ∧ s.heap.get? b = some { cls := .type "tuple", dict := dd, data := .seq more n2, slots := sl } ∧
      R (.ok (.ret Value.none)) { s with heap := s.heap.update l (Obj.mapSeq fun x => x ++ more), toks := s.toks }) :=
  .of_wp fun prog w A R s h => by
    obtain ⟨hp, g, d, tk, os⟩ := s
    obtain ⟨hl, hb, h⟩ := h
    have i1 := AutoSeq1.idx_int
    have i2 := AutoSeq1.sub_tuple_tuple
    have i3 := AutoSeq1.sub_list_list
    have i4 := AutoSeq1.sub_tuple_list
    have i5 := AutoSeq1.sub_list_tuple
    have size : (items ++ more).size ≤ sizeLine + 1 := by rw [Array.size_append]; exact h2
    wp_walk using (wpAny_updateSeq hl rfl (hz := h1) (_hz' := size)), wpAny_loadPart' hl, wpAny_loadPart' hb
    exact ⟨_, rfl, h⟩
end Mi
namespace Mi
open PySem L2
section
variable {X : Cx}
def rExtT (K : PySem.W.Frag) : V → List V → Hp → VK → Prop := fun x vs H Q => ∃ l b xs zs, x = .ref l ∧ vs = [.ref b] ∧ H l = some (.lst xs) ∧ SqT K H b zs ∧ xs.length + zs.length ≤ sizeLine ∧ Q .non (upd H l (.lst (xs ++ zs)))
theorem mt_extT : MtM X "list.extend" (rExtT X.K) := by
  intro pins s σ H x vs v us Q I rx rv h
  obtain ⟨l, b, xs, zs, rfl, rfl, hH, hB, hz, q⟩ := h
  cases rx
  obtain ⟨u, rfl, ru⟩ := rv.one
  cases ru
  obtain ⟨z, its, n, r, hl, e⟩ := I.lstM hH
  obtain ⟨its2, r2, ⟨o, eo, hc, n2, hd⟩, _⟩ := I.tuple hB
  obtain ⟨ocls, odict, odata, oslots⟩ := o
  simp only at hc hd
  subst hc; subst hd
  have hl2 := r2.length
  have fits : its.toArray.size + its2.toArray.size ≤ sizeLine := by rw [List.size_toArray, List.size_toArray]; omega
  have short : ¬ (!its.toArray.isEmpty && Builtin.List.listTooLong (its.toArray.size + its2.toArray.size)) = true := by
    rw [notLongL fits, Bool.and_false]
    exact Bool.false_ne_true
  refine call_meets F.slot_list_extend ⟨_, e, rfl⟩ F.entry_list_extend (F.args_list_extend_2 _ _) (extend_tup l its.toArray n b its2.toArray n2 odict oslots short (by rw [List.size_toArray]; omega) (by omega)) ⟨e, eo, ?_⟩
  refine ⟨.non, _, I.lset (its' := its ++ its2) hH e (by simp) (r.append r2) ?_, rfl, q⟩
  rw [List.length_append]
  omega
def omExtT : OM := fun t ts G R => ∃ a xs ys, t = .ref a ∧ ts = [.tup ys] ∧ G a = some (.lst xs) ∧ xs.length + ys.length ≤ sizeLine ∧ R .non (put G a (.lst (xs ++ ys)))
theorem mt_oExtT : MtR X "list.extend" (liB X.K omExtT) := MtR.imp (r := rExtT X.K) mt_extT fun x vs H Q h => by
  obtain ⟨t, ts, G, R, rx, rv, hg, ⟨a, xs, ys, rfl, rfl, h1, hz, k⟩, f⟩ := h
  cases rx
  obtain ⟨v, r, rfl, r1, r2⟩ := rv
  cases r2
  obtain ⟨ws, e, rw⟩ := lst_of hg h1
  obtain ⟨p, us, rfl, hq, _, ru⟩ := r1.tupSq
  exact ⟨a, p, ws, us, rfl, rfl, e, hq, by rw [rw.length, ru.length]; exact hz, f.wrL hg h1 k (rw.append ru) rfl⟩
/-- extend, by a list or a tuple -/
def omExtendS : OM := fun t ts G R => omExtend t ts G R ∨ omExtT t ts G R
theorem mt_oExtendS : MtR X "list.extend" (liB X.K omExtendS) := (MtR.or mt_oExtend mt_oExtT).imp fun x vs H Q h => by
  obtain ⟨t, ts, G, R, rx, rv, hg, k, f⟩ := h
  rcases k with k | k
  · exact .inl ⟨t, ts, G, R, rx, rv, hg, k, f⟩
  · exact .inr ⟨t, ts, G, R, rx, rv, hg, k, f⟩
end
end Mi

set_option Elab.async false
set_option linter.all false
set_option maxRecDepth 100000
/-! ### {**d, k: v} -/
namespace Mi
open PySem PySem.Spec PyProof.Rows L2
section
variable {prog : Program} {w : World} {A : Around} {E : Value → Shared → Prop} {s : Shared}
theorem key_noref {k : Key} {v : Value} {a : Addr} (h : (mixKind prog w).is k v = true) : v ≠ .ref a := by
  rintro rfl
  rcases keyIs_shape h with ⟨i, t, _, e⟩ | ⟨x, t, _, e⟩ <;> cases e
/-- one more pair -/
theorem put_pair {d : Addr} {kvs : List (Key × Value)} {k : Key} {key v : Value} {Q : Unit → Shared → Prop} (hkey : (mixKind prog w).is k key = true) (hm : s.heap.DictOf (mixKind prog w) d kvs) (hsz : kvs.length ≤ sizeLine)
    (hQ : ∀ h', h'.DictOf (mixKind prog w) d (stored kvs k v) → Heap.SameBut d s.heap h' → Q () { s with heap := h' }) : wpAny (model prog w) A (dictPut d ((mixKind prog w).hash k) key v) Q E s := by
  obtain ⟨o, es, ep, ho, hc, hd, hk, hp, hn⟩ := hm
  have hes : es.size ≤ sizeLine := by
    have := hp.length
    rw [Array.length_toList] at this
    omega
  have hidx : (es.findIdx? fun e => (mixKind prog w).is k e.key) = kvs.findIdx? fun kv => decide (kv.1 = k) := by
    rw [← hp.findIdx k]
    obtain ⟨l⟩ := es
    simp
  unfold dictPut
  refine wpAny_bind (wpAny_dictFind_of hkey ho hd hk ?_)
  cases hi : es.findIdx? fun e => (mixKind prog w).is k e.key with
  | some i =>
    have old : (kvs.any fun kv => decide (kv.1 = k)) = true := any_of_findIdx_some (hidx ▸ hi)
    refine wpAny_updateDict ho hd (hQ _ ⟨_, _, ep, Heap.get?_update_self _ ho (Obj.isFreed_of_dict (Obj.data_mapDict hd _)), hc.mapDict _, Obj.data_mapDict hd _, hk.modify _ _, ?_, ?_⟩ (Heap.SameBut.update ..))
    · have hl : (es.toList.findIdx? fun e => (mixKind prog w).is k e.key) = some i := by
        rw [← hi]
        obtain ⟨l⟩ := es
        simp
      have z := hp.modify hn hl v
      rw [stored, if_pos old]
      obtain ⟨l⟩ := es
      simpa using z
    · rw [stored, if_pos old, keys_map_store]
      exact hn
  | none =>
    have hnot : k ∉ kvs.map (·.1) := not_mem_of_findIdx_none (hidx ▸ hi)
    have new : ¬ (kvs.any fun kv => decide (kv.1 = k)) = true := fun h => by
      obtain ⟨kv, hkv, he⟩ := List.any_eq_true.mp h
      exact hnot (List.mem_map.mpr ⟨kv, hkv, of_decide_eq_true he⟩)
    refine wpAny_updateDictKeys (hz := hes) ho hd (hQ _ ⟨_, _, ep + 1, Heap.get?_update_self _ ho (Obj.isFreed_of_dict (Obj.data_mapDictKeys hd _)), hc.mapDictKeys _, Obj.data_mapDictKeys hd _, hk.push hkey _, ?_, ?_⟩ (Heap.SameBut.update ..))
    · have z := hp.append hkey ((mixKind prog w).hash k) v
      rw [stored, if_neg new]
      obtain ⟨l⟩ := es
      simpa using z
    · rw [stored, if_neg new, List.map_append, List.nodup_append]
      refine ⟨hn, by simp, fun a ha b hb e => ?_⟩
      have : b = k := by simpa using hb
      exact hnot (this ▸ e ▸ ha)
theorem merge_dict {d o : Addr} {kvs more : List (Key × Value)} {Q : Unit → Shared → Prop} (hdo : d ≠ o) (hoS : (o == sysModules) = false) (hd : s.heap.DictOf (mixKind prog w) d kvs) (ho : s.heap.DictOf (mixKind prog w) o more) (hsz : kvs.length + more.length ≤ sizeLine)
    (hQ : ∀ h', h'.DictOf (mixKind prog w) d (merged kvs more) → Heap.SameBut d s.heap h' → Q () { s with heap := h' }) : wpAny (model prog w) A (mergeMapping d (.ref o) false) Q E s := by
  obtain ⟨od, esd, epd, hod, hcd, hdd, hkd, hpd, hnd⟩ := id hd
  obtain ⟨oo, eso, epo, hoo, hco, hdo', hko, hpo, hno⟩ := id ho
  have hlen : more.length = eso.size := by rw [← hpo.length]; simp
  have loop : wpAny (model prog w) A (do
      let n ← dictEntries o
      let epoch ← dictEpoch o
      forIn (List.range n.size) PUnit.unit fun i (_ : PUnit) => (do
        let l ← dictEntries o
        match l[i]? with
        | some e => do
          holding [e.key, e.val] (dictPut d e.hash e.key e.val)
          let ep ← dictEpoch o
          if (ep != epoch) = true then do
            (unsupported "dict.changed-during-merge" : Sem PUnit)
            pure (ForInStep.yield PUnit.unit)
          else pure (ForInStep.yield PUnit.unit)
        | _ => do
          (unsupported "dict.changed-during-merge" : Sem PUnit)
          pure (ForInStep.yield PUnit.unit) : Sem (ForInStep PUnit))
      pure ()) Q E s := by
    refine wpAny_bind (wpAny_dictEntries hoo hdo' ?_)
    refine wpAny_bind (wpAny_dictEpoch hoo hdo' ?_)
    refine wpAny_bind ?_
    refine wpAny_forIn_list _ (fun rest _ s' => ∃ h' i, s' = { s with heap := h' } ∧ rest = (List.range eso.size).drop i ∧ i ≤ eso.size ∧ h'.DictOf (mixKind prog w) d (merged kvs (more.take i)) ∧ h'.get? o = some oo ∧ Heap.SameBut d s.heap h') _ ?_ ?_ _ _ ⟨s.heap, 0, rfl, rfl, Nat.zero_le _, by simpa [merged] using hd, hoo, Heap.SameBut.refl _ _⟩
    · rintro x rest b s' ⟨h', i, rfl, hr, hi, hd', hoo', hs'⟩
      have hlt : i < eso.size := by
        by_cases h : i < eso.size
        · exact h
        · rw [List.drop_of_length_le (by rw [List.length_range]; omega)] at hr
          cases hr
      have hx : x = i ∧ rest = (List.range eso.size).drop (i + 1) := by
        rw [List.drop_eq_getElem_cons (by rw [List.length_range]; exact hlt), List.getElem_range] at hr
        injection hr with h1 h2
        exact ⟨h1, h2⟩
      obtain ⟨rfl, hrest⟩ := hx
      refine wpAny_bind (wpAny_dictEntries hoo' hdo' ?_)
      rw [Array.getElem?_eq_getElem hlt]
      obtain ⟨⟨k, v⟩, hkv⟩ : ∃ kv, more[x]? = some kv := ⟨more[x]'(by rw [hlen]; exact hlt), List.getElem?_eq_getElem _⟩
      obtain ⟨hkey, hval⟩ := hpo.get? (e := eso[x]) (by simp [hlt]) hkv
      obtain ⟨k', hkey', hhash⟩ := hko eso[x] (Array.getElem_mem hlt)
      obtain rfl : k' = k := (mixKind prog w).inj _ _ _ hkey' hkey
      show wpAny _ _ (holding [eso[x].key, eso[x].val] (dictPut d eso[x].hash eso[x].key eso[x].val) >>= _) _ _ _
      rw [hhash, hval]
      have fits : (merged kvs (more.take x)).length ≤ sizeLine := by
        have e1 := merged_length_le kvs (more.take x)
        have e2 : (more.take x).length ≤ more.length := by rw [List.length_take]; omega
        omega
      refine wpAny_bind (wpAny_holding (put_pair hkey hd' fits fun h2 hd2 hs2 => ?_))
      have hoo2 : h2.get? o = some oo := (hs2.2 o (Ne.symm hdo)).trans hoo'
      refine wpAny_bind (wpAny_dictEpoch hoo2 hdo' ?_)
      rw [if_neg (by simp)]
      exact wpAny_pure ⟨h2, x + 1, rfl, hrest, hlt, by rw [merged_take_succ kvs more x (k', v) hkv]; exact hd2, hoo2, hs'.trans hs2⟩
    · rintro b s' ⟨h', i, rfl, hr, hi, hd', hoo', hs'⟩
      have hin : i = eso.size := by
        by_cases h : i < eso.size
        · rw [List.drop_eq_getElem_cons (by rw [List.length_range]; exact h)] at hr
          cases hr
        · omega
      refine wpAny_pure (hQ h' ?_ hs')
      rw [hin, ← hlen, List.take_length] at hd'
      exact hd'
  unfold mergeMapping
  refine wpAny_bind (wpAny_isInstance ho.typeIs isSubtype_dict_dict ?_)
  dsimp only
  rw [if_pos rfl]
  refine wpAny_bind (wpAny_specialOf ho.typeIs F.slot_dict_iter.lookup ?_)
  refine wpAny_bind (wpAny_pure ?_)
  simp only [beq_self_eq_true]
  rw [if_neg (by rw [hoS]; exact Bool.false_ne_true)]
  refine wpAny_bind (wpAny_dictEntries hod hdd ?_)
  have skip : wpAny (model prog w) A (forIn eso PUnit.unit fun e (__s : PUnit) => (match e.key with
      | Value.ref a => do
        let t ← specialOf e.key (Str.ofString "__eq__")
        if (t != some (Value.builtin "object.__eq__")) = true then
            if (Array.filter (fun x => x.hash == e.hash) eso).size > 1 then do
              (unsupported "dict.merge-into-an-empty-dict:keys-of-equal-hash" : Sem PUnit)
              pure (ForInStep.yield PUnit.unit)
            else pure (ForInStep.yield PUnit.unit)
          else pure (ForInStep.yield PUnit.unit)
      | x => pure (ForInStep.yield PUnit.unit) : Sem (ForInStep PUnit))) (fun _ s' => s' = s) E s := by
    refine wpAny_of_eq (a := PUnit.unit) ?_ rfl
    rw [← Array.forIn_toList]
    refine forIn_yield_id _ fun e hm c => ?_
    obtain ⟨k, hkey, _⟩ := hko e (Array.mem_toList_iff.mp hm)
    cases hv : e.key with
    | ref a => exact absurd hv (key_noref hkey)
    | _ => rfl
  by_cases he : esd.isEmpty = true
  · rw [if_pos he]
    refine wpAny_bind (wpAny_dictEntries hoo hdo' ?_)
    refine wpAny_bind (wpAny_mono skip ?_ (fun _ _ h => h))
    rintro _ _ rfl
    exact loop
  · rw [if_neg he]
    exact loop

theorem wpAny_tryOk {α : Type} {m : Sem α} {k : Value → Sem α} {Q : α → Shared → Prop} (h : wpAny (model prog w) A m Q (fun _ _ => False) s) : wpAny (model prog w) A (m.tryCatch k) Q E s := fun Γ p hΓ => by
  rw [Sem.wp_tryCatch]
  exact Sem.wp_mono _ Γ m (fun _ _ _ e => e) (fun _ _ _ e => e.elim) p s (h Γ p hΓ)
theorem wpAny_raiseOk {α : Type} {m : Sem α} {k : Value → Sem Unit} {Q : α → Shared → Prop} (h : wpAny (model prog w) A m Q (fun _ _ => False) s) : wpAny (model prog w) A (m.onRaise k) Q E s :=
  wpAny_onRaise (wpAny_mono h (fun _ _ e => e) fun _ _ e => e.elim)
theorem display2 {t1 tk tv : Sem Value} {Q : Value → Shared → Prop}
    (h : wpAny (model prog w) A t1 (fun m s1 => wpAny (model prog w) A (mergeMapping s.heap.objs.size m false) (fun _ s2 => wpAny (model prog w) A (subDict [(tk, tv)]) (fun sub s3 =>
      wpAny (model prog w) A (mergeMapping s.heap.objs.size (.ref sub) false) (fun _ s4 => Q (.ref s.heap.objs.size) s4) (fun _ _ => False) s3) E s2) (fun _ _ => False) s1) E { s with heap := s.heap.push { cls := .type "dict", data := .dict #[] } }) :
    wpAny (model prog w) A (dictDisplay [(none, t1), (some tk, tv)]) Q E s := by
  unfold dictDisplay
  simp only [List.forIn_cons, List.forIn_nil, List.isEmpty_nil, if_true]
  refine wpAny_bind (wpAny_bind (wpAny_bind ?_))
  refine wpAny_pure ?_
  refine wpAny_bind (wpAny_alloc ?_)
  refine wpAny_bind (wpAny_holding (wpAny_mono h (fun m s1 h1 => ?_) fun _ _ e => e))
  refine wpAny_bind (wpAny_raiseOk (wpAny_tryOk (wpAny_raiseOk (wpAny_holding (wpAny_mono h1 (fun _ s2 h2 => ?_) fun _ _ e => e)))))
  refine wpAny_pure ?_
  refine wpAny_bind ?_
  refine wpAny_pure ?_
  refine wpAny_pure ?_
  refine wpAny_bind (wpAny_bind (wpAny_holding (wpAny_mono h2 (fun sub s3 h3 => ?_) fun _ _ e => e)))
  refine wpAny_bind (wpAny_raiseOk (wpAny_holding (wpAny_mono h3 (fun _ s4 h4 => ?_) fun _ _ e => e)))
  exact wpAny_pure (wpAny_pure h4)
end
end Mi
namespace Mi
open PySem L2 PyProof.Rows
section
variable {X : Cx} {pos : Pos} {e1 k v : Expr}
/-- {**d, k: v} -/
def tMerge (t1 tk tv : TE) : TE := fun σ H Q => ∀ p, H p = none → t1 σ (upd H p (.dK [])) fun x H1 => ∃ a kvs, x = .ref a ∧ p ≠ a ∧ H1 a = some (.dK kvs) ∧ H1 p = some (.dK []) ∧ kvs.length < sizeLine ∧
  ∀ q, upd H1 p (.dK (mergeK [] kvs)) q = none → tk σ (upd (upd H1 p (.dK (mergeK [] kvs))) q (.dK [])) fun y H2 => tv σ H2 fun z H3 => ∃ kk kvs2, y = kV kk ∧ H3 q = some (.dK []) ∧ H3 p = some (.dK kvs2) ∧ kvs2.length < sizeLine ∧
    Q (.ref p) (upd (upd H3 q (.dK [(kk, z)])) p (.dK (putK kvs2 kk z)))
theorem pe_merge {t1 tk tv : TE} (h1 : PE X e1 t1) (hk : PE X k tk) (hv : PE X v tv) : PE X (.Dict [none, some k] [e1, v] pos) (tMerge t1 tk tv) := by
  refine ⟨fun pins s σ H Q I q => ?_⟩
  have hn := I.hok.fresh (Nat.le_refl s.heap.objs.size)
  have I1 := I.laid (a := s.heap.objs.size) (o := .dK []) (h' := s.heap.push { cls := .type "dict", data := .dict #[] }) (t' := s.toks) (fun _ _ q => Heap.get?_push_of_some _ q) (Nat.le_refl _) (dk_empty s.heap I.big)
  rw [arm_eval_Dict]
  refine wpAny_bind (wpAny_standAt ?_)
  show wpAny _ _ (dictDisplay [(none, do let x ← eval e1 X.env; standAt pos; pure x), (some (eval k X.env), do let x ← eval v X.env; standAt pos; pure x)]) _ _ _
  refine display2 (wpAny_bind (thn (h1.run pins _ σ _ _ I1 (q _ hn)) fun u s1 ⟨x, H1, I1, rx, a, kvs, ex, hpa, ea, ep, hz, q2⟩ => wpAny_bind (wpAny_standAt (wpAny_pure ?_))))
  subst ex
  obtain rfl : u = Value.ref a := rx
  obtain ⟨_, hdp, vs0, r0, ddp⟩ := dk_of I1.hok ep
  cases r0
  obtain ⟨_, hda, vs, ra, dda⟩ := dk_of I1.hok ea
  have hl : kvs.length = vs.length := Paired.length ra
  refine merge_dict hpa hda ddp dda (by rw [List.length_nil]; omega) fun h2 dd2 hs2 => ?_
  have z1 : (mergeK [] kvs).length ≤ kvs.length := by
    have := length_mergeK kvs []
    rw [List.length_nil] at this; omega
  have he2 : ∃ q, h2.get? s.heap.objs.size = some q := let ⟨q, _, _, hq, _⟩ := dd2; ⟨q, hq⟩
  have I2 : Inv X pins σ (upd H1 s.heap.objs.size (.dK (mergeK [] kvs))) { s1 with heap := h2, toks := s1.toks } :=
    d_write I1 (by rw [ep]; exact True.intro) hs2 he2 (dk_new (by omega) hdp (ra.merge .nil) dd2)
  have hn2 := I2.hok.fresh (Nat.le_refl h2.objs.size)
  have I3 := I2.laid (a := h2.objs.size) (o := .dK []) (h' := h2.push { cls := .type "dict", data := .dict #[] }) (t' := s1.toks) (fun _ _ q => Heap.get?_push_of_some _ q) (Nat.le_refl _) (dk_empty h2 I2.big)
  refine wpAny_subDict (knd := mixKind X.prog X.w) (by show (1 : Nat) ≤ 15; decide) ?_
  refine thn ((pps_cons (pos := pos) hk hv pps_nil).run pins _ σ _ (fun ps H3 => match ps with
    | [(y, z)] => ∃ kk kvs2, y = kV kk ∧ H3 h2.objs.size = some (.dK []) ∧ H3 s.heap.objs.size = some (.dK kvs2) ∧ kvs2.length < sizeLine ∧
      Q (.ref s.heap.objs.size) (upd (upd H3 h2.objs.size (.dK [(kk, z)])) s.heap.objs.size (.dK (putK kvs2 kk z)))
    | _ => False) I3 (q2 _ hn2)) fun ws s3 ⟨ps, H3, I3, rel, q3⟩ => ?_
  match ps, q3, rel with
  | [(y, z)], ⟨kk, kvs2, ey, eq, ep3, hz2, q3⟩, rel =>
    subst ey
    obtain ⟨rs, c, rk⟩ := carries_of (P := X.prog) (w := X.w) (kvs := [(kk, z)]) rel
    obtain ⟨zq, hdq, vs0, r0, ddq⟩ := dk_of I3.hok eq
    cases r0
    refine ⟨rs, c, ddq, fun h4 dd4 hs4 => ?_⟩
    have he4 : ∃ q, h4.get? h2.objs.size = some q := let ⟨q, _, _, hq, _⟩ := dd4; ⟨q, hq⟩
    have I4 : Inv X pins σ (upd H3 h2.objs.size (.dK [(kk, z)])) { s3 with heap := h4, toks := s3.toks + ws.length } :=
      d_write I3 (by rw [eq]; exact True.intro) hs4 he4 (dk_new (by show 1 ≤ sizeLine; decide) hdq (rk.merge (kvs := []) .nil) dd4)
    have hpq : s.heap.objs.size ≠ h2.objs.size := fun z => by
      rw [z] at he2
      obtain ⟨q, hq⟩ := he2
      exact absurd (Heap.lt_size hq) (Nat.lt_irrefl _)
    have ep4 : upd H3 h2.objs.size (.dK [(kk, z)]) s.heap.objs.size = some (.dK kvs2) := (upd_ne hpq).trans ep3
    obtain ⟨_, hdp4, vs4, r4, dd4p⟩ := dk_of I4.hok ep4
    have hl4 : kvs2.length = vs4.length := Paired.length r4
    have hlr : rs.length = 1 := (Paired.length rk).symm
    have hlm : (merged [] rs).length = 1 := (Paired.length (rk.merge (kvs := []) .nil)).symm
    refine merge_dict hpq hdq dd4p dd4 (by rw [hlm]; omega) fun h5 dd5 hs5 => ?_
    have he5 : ∃ q, h5.get? s.heap.objs.size = some q := let ⟨q, _, _, hq, _⟩ := dd5; ⟨q, hq⟩
    have rfin : KV (mergeK kvs2 [(kk, z)]) (merged vs4 (merged [] rs)) := (rk.merge (kvs := []) .nil).merge r4
    have I5 := d_write (t' := s3.toks + ws.length) I4 (by rw [ep4]; exact True.intro) hs5 he5 (dk_new (kvs := putK kvs2 kk z) (by have := length_putK kvs2 kk z; omega) hdp4 rfin dd5)
    exact ⟨.ref s.heap.objs.size, _, I5, rfl, q3⟩

def mMerge (mo mk mv : ME) : ME := fun r G R => ∀ p, G p = none → mo r (put G p (.dK [])) fun s G1 => ∃ a kvs, s = .ref a ∧ p ≠ a ∧ G1 a = some (.dK kvs) ∧ G1 p = some (.dK []) ∧ kvs.length < sizeLine ∧
  ∀ q, put G1 p (.dK (mergeT [] kvs)) q = none → mk r (put (put G1 p (.dK (mergeT [] kvs))) q (.dK [])) fun t G2 => mv r G2 fun u G3 => ∃ kk, t = kT kk ∧ G3 q = some (.dK []) ∧ G3 p = some (.dK (mergeT [] kvs)) ∧
    R (.ref p) (put (put G3 q (.dK [(kk, u)])) p (.dK (putT (mergeT [] kvs) kk u)))
theorem o_merge {mo mk mv : ME} (h1 : OE X e1 mo) (hk : OE X k mk) (hv : OE X v mv) : OE X (.Dict [none, some k] [e1, v] pos) (mMerge mo mk mv) := ⟨(pe_merge h1.ok hk.ok hv.ok).imp fun σ H Q qq => by
  obtain ⟨r, G, R, hs, hg, k, f⟩ := qq
  intro p hp
  have ln := Le.new (o := HO.dK []) hp
  refine ⟨r, _, _, hs.le ln, hg.wr (nt_none hp) (c := .dK []) ⟨[], upd_same, rfl, rfl⟩, k p (hg.fresh hp), fun s G1 H1 x k1 l1 g1 r1 => ?_⟩
  obtain ⟨a, kvs, rfl, hpa, ea, ep, hz, k2⟩ := k1
  obtain ⟨vs, ea2, ra⟩ := g1 _ _ ea
  obtain ⟨v0, ep2, r0⟩ := g1 _ _ ep
  have e0 : v0 = [] := r0.nil_r
  subst e0
  have l2 := Le.wr (o := .dK (mergeK [] vs)) (g1.notup ep)
  have g2 := g1.wr (g1.notup ep) (c := .dK (mergeT [] kvs)) (o := .dK (mergeK [] vs)) ⟨_, upd_same, (Rkv.merge (vs := []) (ts := []) ra ⟨rfl, rfl⟩).le l2⟩
  refine ⟨a, vs, r1, hpa, ea2, ep2, by rw [ra.len]; exact hz, fun q hq => ?_⟩
  have l3 := Le.new (o := HO.dK []) hq
  have la := ln.trans (l1.trans (l2.trans l3))
  refine ⟨r, _, _, hs.le la, g2.wr (nt_none hq) (c := .dK []) ⟨[], upd_same, rfl, rfl⟩, k2 q (g2.fresh hq), fun t G2 H2 y k3 l4 g4 r4 => ⟨r, G2, _, hs.le (la.trans l4), g4, k3, fun u G3 H3 z k4 l5 g5 r5 => ?_⟩⟩
  obtain ⟨kk, rfl, eq, ep5, k5⟩ := k4
  obtain ⟨w0, eq2, rq⟩ := g5 _ _ eq
  have e0 : w0 = [] := rq.nil_r
  subst e0
  obtain ⟨w1, ep6, rp⟩ := g5 _ _ ep5
  have ek := kT_rp r4
  subst ek
  have l6 := Le.wr (o := .dK [(kk, z)]) (g5.notup eq)
  have hqp : p ≠ q := fun e => by
    subst e
    rw [upd_same] at hq; cases hq
  have g6 := g5.wr (g5.notup eq) (c := .dK [(kk, u)]) (o := .dK [(kk, z)]) ⟨_, upd_same, (Rkv.cons r5 ⟨rfl, rfl⟩ : Rkv X.K H3 [(kk, z)] [(kk, u)]).le l6⟩
  have ep7 : put G3 q (.dK [(kk, u)]) p = some (.dK (mergeT [] kvs)) := (put_ne hqp).trans ep5
  have l7 := Le.wr (o := .dK (putK w1 kk z)) (g6.notup ep7)
  have rk := rp.put kk r5
  have lk := rp.len
  have lm : (mergeT [] kvs).length < sizeLine := by
    rw [← (Rkv.merge (vs := []) (ts := []) ra ⟨rfl, rfl⟩).len]
    have := length_mergeK vs []
    rw [List.length_nil, ra.len] at this
    omega
  refine ⟨kk, w1, rfl, eq2, ep6, by rw [lk]; exact lm, ?_⟩
  exact ((f.le (la.trans (l4.trans (l5.trans l6)))).le l7) _ _ _ _ k5 (Le.refl _) (g6.wr (g6.notup ep7) ⟨_, upd_same, rk.le (l6.trans l7)⟩) rfl⟩
end
/-! ### for k, x in enumerate(e, start=c) -/
section
variable {M : Model} {A : Around} {E : Value → Shared → Prop} {s : Shared} {env : PySem.Env}
theorem callWith_typeKw {pos : Pos} {T : String} {first : List Value} {args : List (Bool × Sem Value)} {keywords : List (Option Str × Sem Value)} {Q : Value → Shared → Prop}
    (hplain : args.any (·.1) = false) (hkw : keywords.any (·.1.isNone) = false)
    (h : wpAny M A (evalArgs (.type T) true args keywords) (fun a s₁ => wpAny M A (call (.type T) (first ++ a.pos) a.kw) Q E s₁) E s) :
    wpAny M A (callWith pos (.type T) first args keywords) Q E s := by
  unfold callWith
  refine wpAny_bind (wpAny_holding (wpAny_mono h (fun a s₁ h₁ => wpAny_bind (wpAny_standAt ?_)) fun _ _ x => x))
  simp only [hplain, hkw, Bool.or_false]
  refine wpAny_bind (wpAny_pure ?_)
  exact wpAny_bind (wpAny_mono h₁ (fun r s₂ hr => wpAny_bind (wpAny_holding (wpAny_point (wpAny_pure hr)))) fun _ _ x => x)
end
section
variable {X : Cx} {e e2 : Expr} {m m2 : ME} {pos : Pos}
def miEnumK (m m2 : ME) : MI := fun r G N => m r G fun t G1 => m2 r G1 fun u G2 => ∃ ts c, srcT G2 t ts ∧ u = .int c ∧ 0 ≤ c ∧ c ≤ 1000000 ∧ N ⟨enumT c ts, heldT t ts⟩ G2
theorem i_enumK {p tpos kp : Pos} {elts : List Expr} {kk : Nat} (hgl : Gl X "enumerate") (hm : X.mg "enumerate" = none) (he : OE X e m) (he2 : OE X e2 m2) (hst : starEach [e] X.env = (false, eval e X.env) :: starEach [] X.env := by rfl)
    (hev : eval (.Call (.Name "enumerate" p) [e] [⟨some "start", e2, kp⟩] pos) X.env = (do callWith pos (← eval (.Name "enumerate" p) X.env) [] (backTo pos (starEach [e] X.env)) (backToKw pos (keywordEach [⟨some "start", e2, kp⟩] X.env))) := by rfl) :
    OI X (.Tuple elts kk tpos) (.Call (.Name "enumerate" p) [e] [⟨some "start", e2, kp⟩] pos) (miEnumK m m2) := by
  refine ⟨⟨fun pins s σ H R I q => ?_⟩⟩
  obtain ⟨r, G, N, hs, hg, k, f⟩ := q
  rw [hev]
  refine wpAny_bind (ld_blt I hgl hm PyProof.Rows.boot_enumerate (callWith_typeKw (by rw [hst]; rfl) rfl (evalArgs_kw2 rfl (PyProof.Rows.args_cons (thn (he.ok.run pins s σ H (fun x H1 => ∃ t G1, Rp X.K H1 x t ∧ RG X.K H1 G1 ∧ Le H H1 ∧ m2 r G1 fun u G2 => ∃ ts c, srcT G2 t ts ∧ u = .int c ∧ 0 ≤ c ∧ c ≤ 1000000 ∧ N ⟨enumT c ts, heldT t ts⟩ G2) I ⟨r, G, _, hs, hg, k, fun t G1 H1 x k1 l1 g1 r1 => ⟨t, G1, r1, g1, l1, k1⟩⟩) fun v s1 ⟨x, H1, I1, rv, t, G1, rx, g1, l1, k1⟩ => PyProof.Rows.args_nil ?_) hst) hst)))
  refine kwAll_cons (thn (he2.ok.run pins s1 σ H1 (fun y H2 => ∃ G2 ts c, y = .int c ∧ RG X.K H2 G2 ∧ Le H1 H2 ∧ srcT G2 t ts ∧ 0 ≤ c ∧ c ≤ 1000000 ∧ N ⟨enumT c ts, heldT t ts⟩ G2) I1 ⟨r, G1, _, hs.le l1, g1, k1, fun u G2 H2 y k2 l2 g2 r2 => ?_⟩) fun v2 s2 ⟨y, H2, I2, rv2, G2, ts, c, ey, g2, l2, hsrc, hc0, hc1, hN⟩ => kwAll_nil ?_)
  · obtain ⟨ts, c, h1, rfl, h2, h3, h4⟩ := k2
    exact ⟨G2, ts, c, r2, g2, l2, h1, h2, h3, h4⟩
  subst ey
  obtain ⟨tk, rfl⟩ := rv2
  obtain ⟨sk, rfl, stay⟩ := hsrc.sk g2 (rx.le l2) rv
  obtain ⟨vs, hq, _⟩ := stay H2 G2 (Le.refl _) g2 hsrc.held
  obtain ⟨OK, B, ok⟩ := Sk.begins I2 hq
  have lt := Sk.lt I2 hq
  refine enum_begins_start B ok (by omega) (by omega) fun h1 he1 hit _ hk => wpAny_pyIter_enum he1 ?_
  have I3 : Inv X pins σ H2 { s2 with heap := h1 } := I2.kept (t' := s2.toks) hk
  refine ⟨s2.heap.objs.size + 1, [s2.heap.objs.size + 1, s2.heap.objs.size], _, ItES X.K sk c, H2, rfl, I3, turn_enumS (k := sk) (c := c) (Nat.succ_ne_self _) (fun z => absurd (lt _ z) (Nat.not_lt.mpr (Nat.le_succ _))) (fun z => absurd (lt _ z) (Nat.lt_irrefl _)), ⟨⟨_, by simpa using he1⟩, sk.at_new hit⟩, fun b hb => ?_, f _ G2 H2 _ hN (l1.trans l2) g2 (walks_enum stay)⟩
  have hle : s2.heap.objs.size ≤ b := by
    rcases (show b = s2.heap.objs.size + 1 ∨ b = s2.heap.objs.size by simpa using hb) with q | q
    · rw [q]; exact Nat.le_succ _
    · rw [q]; exact Nat.le_refl _
  exact I2.fpOk hle (I2.hok.fresh hle)
end
/-! ### x += y, numbers -/
section
variable {X : Cx} {e : Expr} {m : ME} {pos : Pos}
def msAugI (i : Nat) (m : ME) : MS := fun M r G => ∃ x, r[i]? = some (some (.int x)) ∧ m r G fun t G1 => ∃ y, t = .int y ∧ M.nx (r.set i (some (.int (x + y)))) G1
theorem s_augI {i : Nat} {x : Str} {pos' : Pos} (hN : X.N.Nodup) (hi : X.N[i]? = some x) (hx : Loc X.env.scope x) (he : OE X e m) (hf : X.fn x = true ∨ X.env.scope.names.lookup x = some .local := by first | exact .inl rfl | exact .inr rfl | assumption) :
    OS X (.AugAssign (.Name x pos') .Add e pos) (msAugI i m) := ⟨(ps_aug hN hi hx he.ok ip_add hf).imp fun D σ H q => by
  obtain ⟨r, G, M, hs, hg, ⟨x, hx, k⟩, f, _⟩ := q
  obtain ⟨v, hv, rv⟩ := hs.2 _ _ hx
  refine ⟨v, hv, r, G, _, hs, hg, k, fun t G1 H1 w k1 l1 g1 r1 => ?_⟩
  obtain ⟨y, rfl, k2⟩ := k1
  exact ⟨x, y, rv, r1, f _ G1 _ H1 k2 l1 ((hs.le l1).set i rfl) g1⟩⟩
end
end Mi
/-! ### d.get(t), of an empty dict whatever t -/
namespace Mi
open PySem L2
section
variable {X : Cx} {pins : List (Addr × Obj)} {σ : St} {H : Hp} {s : Shared} {a : Addr} {u : Value} {A : Around} {E : Value → Shared → Prop}
def DGetE (H : Hp) (a : Addr) (y : V) (o : Option V) : Prop := DGet H a y o ∨ (H a = some (.dK []) ∧ o = none ∧ ∃ (b : Addr) (k : List Key), y = .ref b ∧ H b = some (.tup (k.map kV)))
theorem d_get1E {Q : Value → Shared → Prop} {y : V} {o : Option V} (hu : A.units + 1 < cLine) (I : Inv X pins σ H s) (g : DGetE H a y o) (ry : RelV y u) (h : ∀ w' s', Inv X pins σ H s' → RelV (o.getD .non) w' → Q w' s') :
    wpAny (model X.prog X.w) A (call (.builtin "dict.get") [.ref a, u]) Q E s := by
  rcases g with g | ⟨ea, rfl, b, k, rfl, eb⟩
  · exact d_get1 hu I g ry h
  · cases (show u = Value.ref b from ry)
    obtain ⟨z, hd, vs, r0, dd⟩ := dk_of I.hok ea
    cases r0
    obtain ⟨ob, es, ep, ho, hc, hdd, hk, hp, hn⟩ := id dd
    have he : es.toList = [] := by
      have := hp.length
      simpa using this
    have dh : s.heap.DictOfH (tupleKind (mixKind X.prog X.w)) a [] := ⟨ob, es, ep, ho, hc, hdd, he, fun x hx => (List.not_mem_nil hx).elim, List.nodup_nil⟩
    refine call_meetsIn PySem.F.slot_dict_get dd.typeIs PySem.F.entry_dict_get (PySem.F.args_dict_get_2 _ _) (meetsH_dict_get (tupleKind (mixKind X.prog X.w)) a b hd) ⟨tupleKind_room_in1 hu, k, [], key_of I.hok eb, dh, h _ _ (I.tok _) rfl⟩
def tDGet1E (td ty : TE) : TE := fun σ H Q => td σ H fun x H1 => ∃ a, x = .ref a ∧ IsD H1 a ∧ ty σ H1 fun y H2 => ∃ o, DGetE H2 a y o ∧ Q (o.getD .non) H2
end
section
variable {X : Cx} {o e : Expr} {apos cpos : Pos} {td ty : TE} {mo me : ME}
theorem pe_dget1E (hu : X.A.units + 1 < cLine) (ho : PE X o td) (he : PE X e ty) (m : M1 X o "get" apos e cpos) : PE X (.Call (.Attribute o "get" apos) [e] [] cpos) (tDGet1E td ty) := by
  refine ⟨fun pins s σ H Q I h => ?_⟩
  refine wpAny_Call_method m.base m.few m.line PySem.F.plainAttrs_dict PySem.F.slot_dict_get PySem.F.type_dict_get (thn (ho.run pins s σ H _ I h) fun u s1 ⟨x, H1, I1, rx, a, ex, d, q1⟩ => ?_)
  subst ex
  obtain rfl : u = Value.ref a := rx
  obtain ⟨t1, t2, _⟩ := isD_at I1 d
  refine ⟨t1, t2, ?_⟩
  rw [m.trees]
  refine Calls.callWith_builtin rfl (Calls.evalArgs_plain (Calls.spliced_cons (thn (he.run pins s1 σ H1 _ I1 q1) fun iv s2 ⟨y, H2, I2, ry, ov, g, q2⟩ => Calls.spliced_nil ?_)))
  exact d_get1E hu I2 g ry fun w' s3 I3 rw' => ⟨_, H2, I3, rw', q2⟩
def gtTE (G : Gp) (a : Addr) (t : T) (o : Option T) : Prop := gtT G a t o ∨ (G a = some (.dK []) ∧ o = none ∧ ∃ ks : List Key, t = .tup (ks.map kT))
def mGet1E (mo me : ME) : ME := fun r G R => mo r G fun s G1 => ∃ a, s = .ref a ∧ isDct G1 a ∧ me r G1 fun t G2 => ∃ u, gtTE G2 a t u ∧ R (u.getD .non) G2
theorem o_get1E (hu : X.A.units + 1 < cLine) (ho : OE X o mo) (he : OE X e me) (m : M1 X o "get" apos e cpos) : OE X (.Call (.Attribute o "get" apos) [e] [] cpos) (mGet1E mo me) := ⟨(pe_dget1E hu ho.ok he.ok m).imp fun σ H Q q => by
  obtain ⟨r, G, R, hs, hg, k, f⟩ := q
  refine ⟨r, G, _, hs, hg, k, fun s G1 H1 x k1 l1 g1 r1 => ?_⟩
  obtain ⟨a, rfl, hd, k1⟩ := k1
  refine ⟨a, r1, hd.isD g1, r, G1, _, hs.le l1, g1, k1, fun t G2 H2 y k2 l2 g2 r2 => ?_⟩
  obtain ⟨u, h, k3⟩ := k2
  rcases h with h | ⟨ea, rfl, ks, rfl⟩
  · obtain ⟨ov, d, ro⟩ := h.get g2 r2
    refine ⟨ov, Or.inl d, (f.le (l1.trans l2)).val g2 k3 ?_⟩
    cases ov <;> cases u <;> first | exact ro | exact ro.elim | rfl
  · obtain ⟨v0, ea2, r0⟩ := g2 _ _ ea
    have e0 : v0 = [] := r0.nil_r
    subst e0
    obtain ⟨b, ws, rfl, hb, _, rw'⟩ := r2
    rw [kTs_rp rw'] at hb
    exact ⟨none, Or.inr ⟨ea2, rfl, b, ks, rfl, hb⟩, (f.le (l1.trans l2)).val g2 k3 rfl⟩⟩
end
end Mi

set_option Elab.async false
set_option linter.all false
set_option maxRecDepth 100000
set_option maxHeartbeats 1000000
namespace Lw
open PySem L2 Mi
local macro_rules | `(tactic| walk_at "get") => `(tactic| first | assumption | exact put_same | (refine get_new (by assumption) ?_; walk_at "get") | (refine get_ne (by assumption) ?_; walk_at "get"))
local macro_rules | `(tactic| walk_at "sq") => `(tactic| first | assumption | exact .inl rfl | exact .inr (.inl rfl) | exact .inr (.inr ⟨_, rfl, by walk_at "get"⟩))
local macro_rules | `(tactic| walk_at "size") => `(tactic| first | assumption | (simp only [List.length_cons, List.length_nil]; decide) | (have := sizeLine_eq; omega))
local macro_rules | `(tactic| walk_at "txt") => `(tactic| first | assumption | (simp only [Str.length, Str.cps_append, Array.size_append]; have := sizeLine_eq; omega))
local macro_rules | `(tactic| walk_at "go1") => `(tactic| first
  | ((with_reducible refine' x_var ?e ?_); (case e => with_unfolding_all rfl))
  | with_reducible refine x_seq ?_
  | with_reducible refine x_asg ?_
  | with_reducible refine x_if ?_
  | with_reducible refine x_ret ?_
  | with_reducible refine x_next ?_
  | with_reducible refine x_expr ?_
  | with_reducible refine x_gname ?_
  | with_reducible refine x_gcons ?_
  | with_reducible refine x_gnil ?_
  | with_reducible refine x_gsub ?_
  | with_reducible refine x_c ?_
  | with_reducible refine x_op ?_
  | with_reducible refine x_call ?_
  | with_reducible refine x_cons ?_
  | with_reducible refine x_nil ?_
  | with_reducible refine x_par ?_
  | with_reducible refine x_tup ?_
  | with_reducible refine x_lst ?_
  | with_reducible refine x_b ?_
  | with_reducible refine x_tru ?_
  | with_reducible refine x_not ?_
  | with_reducible refine x_or ?_
  | with_reducible refine x_and ?_
  | with_reducible refine x_ife ?_
  | with_reducible refine x_add ?_
  | with_reducible refine x_sub ?_
  | with_reducible refine x_gtI ?_
  | with_reducible refine x_ltI ?_
  | with_reducible refine x_geI ?_
  | with_reducible refine x_leI ?_
  | with_reducible refine x_abs ?_
  | with_reducible refine x_intb ?_
  | with_reducible refine x_for ?_
  | with_reducible refine x_irange ?_
  | with_reducible refine x_lc ?_
  | with_reducible refine x_yes ?_
  | with_reducible refine x_bm ?_
  | with_reducible refine x_bm0 ?_
  | with_reducible refine x_andv ?_
  | with_reducible refine x_orv ?_
  | with_reducible refine x_notv ?_
  | with_reducible refine x_eqI ?_
  | with_reducible refine x_tystr ?_
  | ((with_reducible refine' x_gtup ?e ?_); (case e => with_unfolding_all rfl))
  | ((with_reducible refine' x_pow ?e ?_); (case e => exact ⟨by decide, by decide, by decide⟩))
  | ((with_reducible refine' x_ix ?e ?q ?_); (case e => walk_at "get"); (case q => with_unfolding_all rfl))
  | ((with_reducible refine' x_ixt ?q ?_); (case q => with_unfolding_all rfl))
  | ((with_reducible refine' x_sto ?e ?q ?_); (case e => walk_at "get"); (case q => with_unfolding_all rfl))
  | ((with_reducible refine' x_adds ?e ?_); (case e => walk_at "txt"))
  | ((with_reducible refine' x_muls ?e ?f ?g ?_); (case e => omega); (case f => omega); (case g => walk_at "txt"))
  | ((with_reducible refine' x_divmod ?e ?_); (case e => exact ⟨by omega, by omega⟩))
  | ((with_reducible refine' x_mod ?e ?_); (case e => omega))
  | ((with_reducible refine' x_fdivC ?e ?f ?_); (case e => omega); (case f => omega))
  | ((with_reducible refine' x_mulL ?e ?f ?_); (case e => omega); (case f => omega))
  | ((with_reducible refine' x_mulR ?e ?f ?_); (case e => omega); (case f => omega))
  | ((with_reducible refine' x_len ?e ?_); (case e => walk_at "sq"))
  | ((with_reducible refine' x_range ?e ?f ?_); (case e => omega); (case f => omega))
  | ((with_reducible refine' x_tylst ?e ?_); (case e => walk_at "get"))
  | ((with_reducible refine' x_append ?e ?f ?_); (case e => walk_at "get"); (case f => walk_at "size"))
  | ((with_reducible refine' And.intro ?e ?_); (case e => (show _ ≤ sizeLine; walk_at "size")))
  | ((with_reducible refine' Exists.intro _ (And.intro ?e ?_)); (case e => with_unfolding_all rfl)))
/-! ### the box and what is drawn of it -/
def Bx (G : Gp) (a : Addr) (N : Int) : Prop := ∃ b0 b1 b2 : Int, G a = some (.lst [.int b0, .int b1, .int b2]) ∧ 0 ≤ b0 ∧ 0 ≤ b1 ∧ b1 < 2147483647 ∧ 0 ≤ b2 ∧ b2 ≤ N
def Fr (a : Addr) (G G' : Gp) : Prop := ∀ b c, b ≠ a → G b = some c → G' b = some c
theorem Fr.refl {a : Addr} (G : Gp) : Fr a G G := fun _ _ _ h => h
theorem Fr.trans {a : Addr} {A B D : Gp} (h : Fr a A B) (k : Fr a B D) : Fr a A D := fun b c n e => k b c n (h b c n e)
theorem Fr.box {a : Addr} {G : Gp} {c : C} : Fr a G (put G a c) := fun b d n e => by rw [put_ne n]; exact e
theorem Fr.new {a p : Addr} {G : Gp} {c : C} (h : G p = none) : Fr a G (put G p c) := fun b d n e => by
  rw [put_ne (fun z => by rw [z, h] at e; cases e)]
  exact e
theorem Bx.le {a : Addr} {G : Gp} {N M : Int} (h : Bx G a N) (l : N ≤ M) : Bx G a M := by
  obtain ⟨b0, b1, b2, e, h0, h1, h2, h3, h4⟩ := h
  exact ⟨b0, b1, b2, e, h0, h1, h2, h3, by omega⟩
theorem Bx.new {a p : Addr} {G : Gp} {c : C} {N : Int} (h : Bx G a N) (hp : G p = none) : Bx (put G p c) a N := by
  obtain ⟨b0, b1, b2, e, k⟩ := h
  exact ⟨b0, b1, b2, get_new hp e, k⟩
theorem Fr.grow {a D : Addr} {A B : Gp} {c : C} (h : A D = none) (f : Fr a A B) : Fr a A (put B D c) := fun b d n q => by
  rw [put_ne (fun e => by rw [e, h] at q; cases q)]
  exact f b d n q
theorem Bx.put {a D : Addr} {G : Gp} {c : C} {N : Int} (h : Bx G a N) (n : D ≠ a) : Bx (put G D c) a N := by
  obtain ⟨b0, b1, b2, e, k⟩ := h
  exact ⟨b0, b1, b2, by rw [put_ne (Ne.symm n)]; exact e, k⟩
theorem Bx.ne {a D : Addr} {G : Gp} {N : Int} (h : Bx G a N) (n : G D = none) : D ≠ a := fun e => by
  obtain ⟨_, _, _, q, _⟩ := h
  rw [← e, n] at q
  cases q
theorem Fr.none {a D : Addr} {A B : Gp} (f : Fr a A B) (n : D ≠ a) (h : B D = none) : A D = none := by
  cases e : A D with
  | none => rfl
  | some c => rw [f _ _ n e] at h; cases h
/-! ### one of some -/
def Sq (a : Addr) (G : Gp) (s : T) (ts : List T) : Prop := s = .tup ts ∨ s = .cl ts ∨ ∃ p, p ≠ a ∧ s = .ref p ∧ G p = some (.lst ts)
theorem Sq.fr {a : Addr} {G G' : Gp} {s : T} {ts : List T} (f : Fr a G G') (h : Sq a G s ts) : Sq a G' s ts := by
  rcases h with h | h | ⟨p, n, e, h⟩
  · exact .inl h
  · exact .inr (.inl h)
  · exact .inr (.inr ⟨p, n, e, f _ _ n h⟩)
theorem Sq.is {a : Addr} {G : Gp} {s : T} {ts : List T} (h : Sq a G s ts) : isSq G s ts := by
  rcases h with h | h | ⟨p, n, e, h⟩
  · exact .inl h
  · exact .inr (.inl h)
  · exact .inr (.inr ⟨p, e, h⟩)
theorem atI_nat {α : Type} {xs : List α} {i : Int} (h0 : 0 ≤ i) (h1 : i < xs.length) : ∃ u, atI xs i = some u ∧ u ∈ xs := by
  have h : i.toNat < xs.length := by omega
  refine ⟨xs[i.toNat], ?_, List.getElem_mem h⟩
  unfold atI ixN
  rw [if_pos h0, if_pos h1]
  show xs[i.toNat]? = _
  exact List.getElem?_eq_getElem h
/-! ### names -/
def Wd (z : Str) : Prop := 1 ≤ z.cps.size ∧ z.cps.size ≤ 8 ∧ ∀ c ∈ z.cps.toList, 97 ≤ c ∧ c < 123
def Lt (z : Str) : Prop := ∃ c, z = ⟨#[c]⟩ ∧ 97 ≤ c ∧ c < 123
theorem letters_at : ∀ c ∈ (Str.ofString "abcdefghijklmnopqrstuvwxyz").cps.toList, 97 ≤ c ∧ c < 123 := by decide +kernel
theorem letter {i : Int} (h0 : 0 ≤ i) (h1 : i < 26) : ∃ c, atI (Str.ofString "abcdefghijklmnopqrstuvwxyz").cps.toList i = some c ∧ 97 ≤ c ∧ c < 123 := by
  obtain ⟨c, e, m⟩ := atI_nat (xs := (Str.ofString "abcdefghijklmnopqrstuvwxyz").cps.toList) h0 (by rw [show (Str.ofString "abcdefghijklmnopqrstuvwxyz").cps.toList.length = 26 by decide +kernel]; exact h1)
  exact ⟨c, e, letters_at c m⟩
theorem letters_len : (Str.ofString "abcdefghijklmnopqrstuvwxyz").length ≤ sizeLine := by decide +kernel
theorem join_lts : ∀ zs : List Str, (∀ z ∈ zs, Lt z) → (Txt.join (Str.ofString "") zs).cps.size = zs.length ∧ ∀ c ∈ (Txt.join (Str.ofString "") zs).cps.toList, 97 ≤ c ∧ c < 123
  | [], _ => ⟨rfl, fun c h => by cases h⟩
  | [z], h => by
    obtain ⟨c, rfl, h1⟩ := h z (by simp)
    rw [TL.join_eq]
    refine ⟨rfl, fun d hd => ?_⟩
    have : d = c := by simpa [Str.join] using hd
    rw [this]; exact h1
  | z :: y :: r, h => by
    obtain ⟨c, rfl, h1⟩ := h z (by simp)
    obtain ⟨i1, i2⟩ := join_lts (y :: r) fun x hx => h x (List.mem_cons_of_mem _ hx)
    rw [TL.join_eq] at i1 i2 ⊢
    have e : Str.join (Str.ofString "") (⟨#[c]⟩ :: y :: r) = ⟨#[c]⟩ ++ Str.ofString "" ++ Str.join (Str.ofString "") (y :: r) := rfl
    rw [e]
    have e2 : (Str.ofString "").cps = #[] := rfl
    simp only [Str.cps_append, e2, Array.append_empty, Array.size_append, Array.toList_append]
    refine ⟨by rw [i1]; simp; omega, fun d hd => ?_⟩
    rcases List.mem_append.mp hd with q | q
    · have : d = c := by simpa using q
      rw [this]; exact h1
    · exact i2 d q
theorem lts_sum : ∀ zs : List Str, (∀ z ∈ zs, Lt z) → (zs.map (·.length)).sum = zs.length
  | [], _ => rfl
  | z :: r, h => by
    obtain ⟨c, rfl, _⟩ := h z (by simp)
    rw [List.map_cons, List.sum_cons, lts_sum r fun x hx => h x (List.mem_cons_of_mem _ hx)]
    show 1 + r.length = _
    rw [List.length_cons]; omega
theorem map_str {zs : List Str} {z : Str} : zs.map T.str ++ [T.str z] = (zs ++ [z]).map T.str := by simp
theorem app_wd {stem : Str} {c n : Nat} (h1 : stem.cps.size ≤ 5) (h2 : ∀ c ∈ stem.cps.toList, 97 ≤ c ∧ c < 123) (l : 97 ≤ c ∧ c < 123) (hn : n = 0 ∨ n = 1) : Wd (stem ++ ⟨#[c]⟩ ++ repS (Str.ofString "ab") n) := by
  have e : (repS (Str.ofString "ab") n).cps.toList = if n = 1 then [97, 98] else [] := by
    rcases hn with rfl | rfl <;> rfl
  have s2 : (repS (Str.ofString "ab") n).cps.size ≤ 2 := by
    rw [← Array.length_toList, e]
    split <;> simp
  refine ⟨?_, ?_, fun d hd => ?_⟩
  · simp only [Str.cps_append, Array.size_append]
    show 1 ≤ stem.cps.size + 1 + _
    omega
  · simp only [Str.cps_append, Array.size_append]
    show stem.cps.size + 1 + _ ≤ 8
    omega
  · simp only [Str.cps_append, Array.toList_append, List.mem_append] at hd
    rcases hd with (q | q) | q
    · exact h2 d q
    · have : d = c := by simpa using q
      rw [this]; exact l
    · rw [e] at q
      split at q
      · simp at q; omega
      · cases q
theorem ab_size {n : Nat} (hn : n = 0 ∨ n = 1) : (repS (Str.ofString "ab") n).cps.size ≤ 2 := by rcases hn with rfl | rfl <;> decide
theorem x_ab {b : Bool} {G : Gp} {R : KT} (h : ∀ n : Nat, (n = 0 ∨ n = 1) → R (.str (repS (Str.ofString "ab") n)) G) : oMulU (.str (Str.ofString "ab")) (.int (if b = true then 1 else 0)) G R := by
  cases b
  · exact x_muls (by decide) (by decide) (by decide) (h 0 (.inl rfl))
  · exact x_muls (by decide) (by decide) (by decide) (h 1 (.inr rfl))
/-! ### words are texts that can be laid -/
theorem Wd.ok {z : Str} (h : Wd z) : PyData.strOk z = true := by
  unfold PyData.strOk
  rw [Array.all_eq_true']
  intro c hc
  have := h.2.2 c (by simpa using hc)
  exact decide_eq_true (by omega)
theorem depth_strs : ∀ xs : List Str, PyData.depthAll (xs.map PyData.str) = 0 := strs_depth
theorem lay_strs : ∀ xs : List Str, (∀ z ∈ xs, PyData.strOk z = true) → PyData.canLayAll0 (xs.map PyData.str) = true
  | [], _ => rfl
  | x :: xs, h => by
    rw [List.map_cons]
    simp only [PyData.canLayAll0, PyData.canLay0, h x (by simp), lay_strs xs fun z hz => h z (List.mem_cons_of_mem _ hz), Bool.and_self]
theorem dt_strs {G : Gp} : ∀ xs : List Str, DtAll G (xs.map T.str) (xs.map PyData.str)
  | [] => .nil
  | x :: xs => .cons (.str x) (dt_strs xs)
def prT (p : Str × Str) : T := .tup [.str p.1, .str p.2]
def prD (p : Str × Str) : PyData := .tuple [.str p.1, .str p.2]
theorem dt_prs {G : Gp} : ∀ xs : List (Str × Str), DtAll G (xs.map prT) (xs.map prD)
  | [] => .nil
  | x :: xs => .cons (.tup (.cons (.str _) (.cons (.str _) .nil))) (dt_prs xs)
theorem lay_prs : ∀ xs : List (Str × Str), (∀ z ∈ xs, PyData.strOk z.1 = true ∧ PyData.strOk z.2 = true) → PyData.canLayAll0 (xs.map prD) = true
  | [], _ => rfl
  | x :: xs, h => by
    rw [List.map_cons]
    simp only [prD, PyData.canLayAll0, PyData.canLay0, (h x (by simp)).1, (h x (by simp)).2, Bool.and_self, Bool.true_and]
    exact lay_prs xs fun z hz => h z (List.mem_cons_of_mem _ hz)
theorem depth_prs : ∀ xs : List (Str × Str), PyData.depthAll (xs.map prD) ≤ 1
  | [] => Nat.zero_le _
  | x :: xs => by
    rw [List.map_cons]
    have := depth_prs xs
    simp only [prD, PyData.depthAll, PyData.depth]
    simp
    exact Nat.max_le.mpr ⟨Nat.le_refl _, this⟩
theorem x_eqNil {p q : Addr} {G : Gp} {zs : List Str} {R : KT} (e : G p = some (.lst (zs.map T.str))) (e2 : G q = some (.lst [])) (ok : ∀ z ∈ zs, Wd z) (h : R (.bl zs.isEmpty) G) : oEq (.ref p) (.ref q) G R := by
  refine ⟨.list (zs.map PyData.str), .list [], .lst (.inr ⟨p, rfl, e⟩) (dt_strs zs), .lst (.inr ⟨q, rfl, e2⟩) .nil, ?_, rfl, ?_⟩
  · unfold SeqAt.shaped
    have e3 := lay_strs zs fun z hz => (ok z hz).ok
    have e4 := depth_strs zs
    exact Bool.and_eq_true_iff.mpr ⟨e3, decide_eq_true (by show PyData.depthAll _ + 1 ≤ 64; omega)⟩
  · cases zs <;> exact h
theorem x_eqNilP {p q : Addr} {G : Gp} {zs : List (Str × Str)} {R : KT} (e : G p = some (.lst (zs.map prT))) (e2 : G q = some (.lst [])) (ok : ∀ z ∈ zs, Wd z.1 ∧ Wd z.2) (h : R (.bl zs.isEmpty) G) : oEq (.ref p) (.ref q) G R := by
  refine ⟨.list (zs.map prD), .list [], .lst (.inr ⟨p, rfl, e⟩) (dt_prs zs), .lst (.inr ⟨q, rfl, e2⟩) .nil, ?_, rfl, ?_⟩
  · unfold SeqAt.shaped
    have e4 := depth_prs zs
    have e3 := lay_prs zs fun z hz => ⟨(ok z hz).1.ok, (ok z hz).2.ok⟩
    exact Bool.and_eq_true_iff.mpr ⟨e3, decide_eq_true (by show PyData.depthAll _ + 1 ≤ 64; omega)⟩
  · cases zs <;> exact h
/-! ### the words that a term is made of -/
theorem x_dget {mo mi : ME} {r : Mi.Env} {G : Gp} {R : KT} (h : mo r G fun s G1 => mi r G1 fun t G2 => ∃ a u, s = .ref a ∧ gtT G2 a t (some u) ∧ R u G2) : mDGet mo mi r G R := h
/-- an int among ints -/
theorem x_inI {i : Int} {js : List Int} {G : Gp} {R : KT} (h : R (.bl (js.any fun j => j == i)) G) : oInA false (.int i) (.tup (js.map T.int)) G R := by
  refine .inl ⟨_, .inl rfl, rfl, by simp [T.flat], ?_⟩
  simpa [List.any_map, Function.comp_def, T.eqf] using h
theorem x_ninI {i : Int} {js : List Int} {G : Gp} {R : KT} (h : R (.bl (!js.any fun j => j == i)) G) : oInA true (.int i) (.tup (js.map T.int)) G R := by
  refine .inl ⟨_, .inl rfl, rfl, by simp [T.flat], ?_⟩
  simpa [List.any_map, Function.comp_def, T.eqf] using h
/-! ### terms -/
/-! ### slices of mapped lists -/
theorem cut_map {α β : Type} (f : α → β) (xs : List α) (lo hi : Option Int) : cutT (xs.map f) lo hi = (cutT xs lo hi).map f := by
  unfold cutT
  rw [List.length_map, ← List.map_drop, ← List.map_take]
theorem cut_mem {α : Type} {xs : List α} {lo hi : Option Int} {x : α} (h : x ∈ cutT xs lo hi) : x ∈ xs := List.mem_of_mem_drop (List.mem_of_mem_take h)
theorem x_sl {m : ME} {l h : MO} {r : Mi.Env} {G : Gp} {R : KT} (k : m r G fun t G1 => l r G1 fun lo G2 => h r G2 fun hi G3 => oSl t lo hi G3 R) : mSl m l h r G R := k
theorem x_slN {r : Mi.Env} {G : Gp} {R : Option Int → Gp → Prop} (k : R none G) : moN r G R := k
theorem x_slL {p : Addr} {G : Gp} {zs : List Str} {lo hi : Option Int} {R : KT} (e : G p = some (.lst (zs.map T.str))) (k : ∀ q, G q = none → R (.ref q) (put G q (.lst ((cutT zs lo hi).map T.str)))) : oSl (.ref p) lo hi G R :=
  .inr (.inl ⟨_, .inr ⟨p, rfl, e⟩, fun q hq => by rw [cut_map]; exact k q hq⟩)
theorem x_iseq {m : ME} {r : Mi.Env} {G : Gp} {N : MIt → Gp → Prop} (h : m r G fun t G1 => ∃ ts, srcT G1 t ts ∧ N ⟨ts, heldT t ts⟩ G1) : miSeq m r G N := h
/-! ### some of the labels -/
/-! ### what drawing a term costs -/
def Cs (C : Int) : Nat → Int
  | 0 => 0
  | n + 1 => Cs C n + (C + 1)
theorem Cs_le {C : Int} (hC : 0 ≤ C) : ∀ {n m : Nat}, n ≤ m → Cs C n ≤ Cs C m
  | n, 0, h => by rw [Nat.le_zero.mp h]; exact Int.le_refl _
  | n, m + 1, h => by
    by_cases e : n = m + 1
    · rw [e]; exact Int.le_refl _
    · have := Cs_le hC (n := n) (m := m) (by omega)
      show _ ≤ Cs C m + (C + 1)
      omega
theorem Cs9 (C : Int) : Cs C 9 = 9 * C + 9 := by simp only [Cs]; omega
def wayT (p : Str × Str × T) : T := .tup [.str p.1, .str p.2.1, p.2.2]
theorem x_tru_lst {p : Addr} {ts : List T} {G : Gp} {q : Bool → Prop} (e : G p = some (.lst ts)) (h : q (!ts.isEmpty)) : ∃ k, truT G (.ref p) k ∧ q k := ⟨_, .inl ⟨ts, e, rfl⟩, h⟩
theorem x_catL {p q : Addr} {xs ys : List T} {G : Gp} {R : KT} (e : G p = some (.lst xs)) (e2 : G q = some (.lst ys)) (c : xs.length + ys.length ≤ sizeLine) (h : ∀ n, G n = none → R (.ref n) (put G n (.lst (xs ++ ys)))) : oAdd (.ref p) (.ref q) G R := ⟨xs, ys, e, e2, c, h⟩
/-! ### terms as they are drawn -/
theorem x_orT {c d : MT} {r : Mi.Env} {G : Gp} {R : Bool → Gp → Prop} (h : c r G fun b G1 => if b = true then R true G1 else d r G1 R) : tmOr c d r G R := h
theorem beqd (m i : Int) : (m == i) = decide (i = m) := by
  by_cases h : i = m
  · rw [decide_eq_true h, h]
    exact beq_self_eq_true m
  · rw [decide_eq_false h]
    exact beq_eq_false_iff_ne.mpr (Ne.symm h)
theorem x_in2 {i m n : Int} {G : Gp} {R : KT} (h : R (.bl (decide (i = m) || decide (i = n))) G) : oInA false (.int i) (.tup [.int m, .int n]) G R := by
  refine x_inI (js := [m, n]) ?_
  have e : ([m, n].any fun j => j == i) = (decide (i = m) || decide (i = n)) := by
    rw [List.any_cons, List.any_cons, List.any_nil, Bool.or_false, beqd, beqd]
  rw [e]; exact h
theorem x_nin3 {i m n o : Int} {G : Gp} {R : KT} (h : R (.bl (!(decide (i = m) || decide (i = n) || decide (i = o)))) G) : oInA true (.int i) (.tup [.int m, .int n, .int o]) G R := by
  refine x_ninI (js := [m, n, o]) ?_
  have e : ([m, n, o].any fun j => j == i) = (decide (i = m) || decide (i = n) || decide (i = o)) := by
    rw [List.any_cons, List.any_cons, List.any_cons, List.any_nil, Bool.or_false, beqd, beqd, beqd, Bool.or_assoc]
  rw [e]; exact h
theorem x_catT {xs ys : List T} {G : Gp} {R : KT} (c : xs.length + ys.length ≤ sizeLine) (h : R (.tup (xs ++ ys)) G) : oAdd (.tup xs) (.tup ys) G R := ⟨c, h⟩
/-! ### the box as it is made -/
theorem x_lenC {ts : List T} {G : Gp} {R : KT} (h : R (.int ts.length) G) : omLen [.cl ts] G R := ⟨_, rfl, .inl ⟨ts, .inr (.inl rfl), h⟩⟩
/-! ### the words -/
theorem x_disp {ps : List (Str × ME)} {r : Mi.Env} {G : Gp} {R : KT} (h : ∀ p, G p = none → mPairs ps r (put G p (.dK [])) fun kvs G2 => G2 p = some (.dK []) ∧ kvs.length ≤ 15 ∧ R (.ref p) (put G2 p (.dK (mergeT [] kvs)))) : mDisp ps r G R := h
theorem x_pcons {k : Str} {m : ME} {ps : List (Str × ME)} {r : Mi.Env} {G : Gp} {K : List (Key × T) → Gp → Prop} (h : m r G fun t G1 => mPairs ps r G1 fun kvs G2 => K ((.inr k, t) :: kvs) G2) : mPairs ((k, m) :: ps) r G K := h
theorem x_pnil {r : Mi.Env} {G : Gp} {K : List (Key × T) → Gp → Prop} (h : K [] G) : mPairs [] r G K := h
theorem x_slS {m : ME} {r : Mi.Env} {G : Gp} {R : Option Int → Gp → Prop} (k : m r G fun t G1 => ∃ i, t = .int i ∧ R (some i) G1) : moS m r G R := k
theorem len9 {zs : List Str} (h : (zs.length : Int) = 9) : ∃ z0 z1 z2 z3 z4 z5 z6 z7 z8, zs = [z0, z1, z2, z3, z4, z5, z6, z7, z8] := by
  match zs, h with
  | [z0, z1, z2, z3, z4, z5, z6, z7, z8], _ => exact ⟨z0, z1, z2, z3, z4, z5, z6, z7, z8, rfl⟩
  | [], h | [_], h | [_, _], h | [_, _, _], h | [_, _, _, _], h | [_, _, _, _, _], h | [_, _, _, _, _, _], h | [_, _, _, _, _, _, _], h | [_, _, _, _, _, _, _, _], h => simp at h
  | _ :: _ :: _ :: _ :: _ :: _ :: _ :: _ :: _ :: _ :: _, h => simp at h; omega
/-! ### parts -/
def Ext (G G' : Gp) : Prop := ∀ b c, G b = some c → G' b = some c
theorem Ext.refl (G : Gp) : Ext G G := fun _ _ h => h
theorem Ext.trans {A B D : Gp} (h : Ext A B) (k : Ext B D) : Ext A D := fun b c e => k b c (h b c e)
theorem Ext.new {p : Addr} {G : Gp} {c : C} (h : G p = none) : Ext G (put G p c) := fun b d e => get_new h e
theorem Ext.grow {D : Addr} {A B : Gp} {c : C} (h : A D = none) (f : Ext A B) : Ext A (put B D c) := fun b d q => by
  rw [put_ne (fun e => by rw [e, h] at q; cases q)]
  exact f b d q
theorem Ext.none {D : Addr} {A B : Gp} (f : Ext A B) (h : B D = none) : A D = none := by
  cases e : A D with
  | none => rfl
  | some c => rw [f _ _ e] at h; cases h
theorem Ext.fr {a : Addr} {A B : Gp} (f : Ext A B) : Fr a A B := fun b c _ e => f b c e
inductive Kd : T → List T → Prop
  | num {i : Int} : Kd (.tup [.str "num", .int i]) []
  | name {x : Str} : Kd (.tup [.str "name", .str x]) []
  | frm {m x : Str} : Kd (.tup [.str "from", .str m, .str x]) []
  | hole : Kd (.tup [.str "hole"]) []
  | fn {x : Str} {t : T} : Kd (.tup [.str "fun", .str x, t]) [t]
  | bin {w : Str} {s t : T} : Kd (.tup [.str w, s, t]) [s, t]
  | under {s t u v : T} : Kd (.tup [.str "under", s, t, u, v]) [s, t, u, v]
  | rcd {ps : List (Str × T)} : Kd (.tup [.str "rec", .tup (ps.map fun p => .tup [.str p.1, p.2])]) (ps.map (·.2))
  | get {x : Str} {t : T} : Kd (.tup [.str "get", t, .str x]) [t]
  | put {x : Str} {t u : T} : Kd (.tup [.str "put", t, .str x, u]) [t, u]
  | tag {x : Str} {t : T} : Kd (.tup [.str "tag", .str x, t]) [t]
  | case {t : T} {ps : List (Str × Str × T)} : Kd (.tup [.str "case", t, .tup (ps.map fun p => .tup [.str p.1, .str p.2.1, p.2.2])]) (t :: ps.map (·.2.2))
/-- a new list, or a tuple -/
def Fs (G G' : Gp) (s : T) (us : List T) : Prop := s = .tup us ∨ ∃ p, s = .ref p ∧ G p = none ∧ G' p = some (.lst us)
theorem x_inS4 {z w1 w2 w3 w4 : Str} {b : Bool} {G : Gp} {R : KT} (e : (w1 == z || (w2 == z || (w3 == z || w4 == z))) = b) (h : R (.bl b) G) : oInA false (.str z) (.tup [.str w1, .str w2, .str w3, .str w4]) G R := by
  refine .inl ⟨_, .inl rfl, rfl, rfl, ?_⟩
  have e2 : ([T.str w1, .str w2, .str w3, .str w4].any fun y => y.eqf (.str z)) = b := by
    rw [← e]
    simp only [List.any_cons, List.any_nil, Bool.or_false, T.eqf]
  show R (.bl _) G
  rw [if_neg (by decide), e2]
  exact h
theorem x_eqSb {i j : Str} {b : Bool} {G : Gp} {R : KT} (c : SeqAt.shaped (.str i) = true) (c2 : SeqAt.shaped (.str j) = true) (e : (i == j) = b) (h : R (.bl b) G) : oEq (.str i) (.str j) G R := x_eqS c c2 (by rw [← e] at h; exact h)
theorem x_slT {ts : List T} {lo hi : Option Int} {G : Gp} {R : KT} (h : R (.tup (cutT ts lo hi)) G) : oSl (.tup ts) lo hi G R := .inl ⟨ts, rfl, h⟩
theorem last_ok {r : Mi.Env} {G : Gp} {ts us : List T} {w : Str} {R : KT} (h0 : r[0]? = some (some (.tup ts))) (h1 : r[1]? = some (some (.str w)))
    (e : (lookT ([(.inr "fun", T.tup (cutT ts (some 2) none)), (.inr "get", .tup (cutT ts (some 1) (some 2))), (.inr "put", .tup (cutT ts (some 1) (some 2) ++ cutT ts (some 3) none)), (.inr "tag", .tup (cutT ts (some 2) none))] : List (Key × T)) (.inr w)).getD (.tup (cutT ts (some 1) none)) = .tup us)
    (sz : ts.length ≤ 9) (main : ∀ G1, Ext G G1 → R (.tup us) G1) :
    mGet2 (mDisp [("fun", (mSl (mVar 0) (moS (mC (.int 2))) moN)), ("get", (mSl (mVar 0) (moS (mC (.int 1))) (moS (mC (.int 2))))), ("put", (mOp oAdd (mSl (mVar 0) (moS (mC (.int 1))) (moS (mC (.int 2)))) (mSl (mVar 0) (moS (mC (.int 3))) moN))), ("tag", (mSl (mVar 0) (moS (mC (.int 2))) moN))]) (mVar 1) (mSl (mVar 0) (moS (mC (.int 1))) moN) r G R := by
  have l1 := cutT_length ts (some 1) (some 2)
  have l3 := cutT_length ts (some 3) none
  refine x_disp fun d hd => ?_
  refine x_pcons (x_sl (x_var h0 (x_slS (x_c ⟨2, rfl, x_slN (x_slT ?_)⟩))))
  refine x_pcons (x_sl (x_var h0 (x_slS (x_c ⟨1, rfl, x_slS (x_c ⟨2, rfl, x_slT ?_⟩)⟩))))
  refine x_pcons (x_op (x_sl (x_var h0 (x_slS (x_c ⟨1, rfl, x_slS (x_c ⟨2, rfl, x_slT (x_sl (x_var h0 (x_slS (x_c ⟨3, rfl, x_slN (x_slT (x_catT (by have := sizeLine_eq; omega) ?_))⟩))))⟩)⟩)))))
  refine x_pcons (x_sl (x_var h0 (x_slS (x_c ⟨2, rfl, x_slN (x_slT (x_pnil ⟨put_same, by simp, ?_⟩))⟩))))
  refine ⟨d, rfl, .inl ⟨_, put_same⟩, ?_⟩
  refine x_var h1 (x_sl (x_var h0 (x_slS (x_c ⟨1, rfl, x_slN (x_slT ⟨_, .inl ⟨_, .inr w, put_same, rfl, rfl⟩, ?_⟩)⟩))))
  have f : Ext G (put (put G d (.dK [])) d (.dK (mergeT [] [(.inr "fun", .tup (cutT ts (some 2) none)), (.inr "get", .tup (cutT ts (some 1) (some 2))), (.inr "put", .tup (cutT ts (some 1) (some 2) ++ cutT ts (some 3) none)), (.inr "tag", .tup (cutT ts (some 2) none))]))) := Ext.grow hd (Ext.new hd)
  have q := main _ f
  rw [← e] at q
  exact q
/-! ### places -/
inductive Pl : T → List (List Nat) → Prop
  | mk {t : T} {us : List T} {pss : List (List (List Nat))} : Kd t us → pss.length = us.length → (∀ (j : Nat) (u : T) (l : List (List Nat)), us[j]? = some u → pss[j]? = some l → Pl u l) →
    Pl t ((pss.mapIdx fun j l => l.map (j :: ·)).flatten ++ [[]])
def plT (l : List Nat) : T := .tup (l.map fun i => .int (i : Nat))
def Pb : Nat → Nat
  | 0 => 1
  | n + 1 => 10 * Pb n + 1
def Pn (c : Nat) : Nat → Nat
  | 0 => 0
  | i + 1 => Pn c i + c
theorem Pn_le {c : Nat} : ∀ {i m : Nat}, i ≤ m → Pn c i ≤ Pn c m
  | i, 0, h => by rw [Nat.le_zero.mp h]; exact Nat.le_refl _
  | i, m + 1, h => by
    by_cases e : i = m + 1
    · rw [e]; exact Nat.le_refl _
    · exact Nat.le_trans (Pn_le (c := c) (i := i) (m := m) (by omega)) (Nat.le_add_right _ _)
theorem Pn10 (c : Nat) : Pn c 10 = 10 * c := by simp only [Pn]; omega
theorem enum_at {ts : List T} {i : Nat} {t : T} (h : (enumT 0 ts)[i]? = some t) : ∃ u, ts[i]? = some u ∧ t = .tup [.int (i : Nat), u] := by
  unfold enumT at h
  rw [List.getElem?_mapIdx] at h
  cases e : ts[i]? with
  | none => rw [e] at h; cases h
  | some u =>
    rw [e] at h
    refine ⟨u, rfl, ?_⟩
    have q := Option.some.inj h
    rw [← q, Int.zero_add]
theorem x_ienum {m : ME} {r : Mi.Env} {G : Gp} {N : MIt → Gp → Prop} (h : m r G fun t G1 => ∃ ts, srcT G1 t ts ∧ N ⟨enumT 0 ts, heldT t ts⟩ G1) : miEnum m r G N := h
theorem Fs.src {G G' : Gp} {s : T} {us : List T} (h : Fs G G' s us) : srcT G' s us := by
  rcases h with h | ⟨p, e, _, h⟩
  · exact .inl h
  · exact .inr (.inl (.inr ⟨p, e, h⟩))
theorem Fs.held {A G G' : Gp} {s : T} {us : List T} (h : Fs A G s us) (f : Ext G G') : Held G' (heldT s us) := by
  rcases h with h | ⟨p, e, _, h⟩
  · rw [h]; intro q hq; cases hq
  · rw [e]
    intro q hq
    have : q = (p, us) := by simpa [heldT] using hq
    subst this
    exact f _ _ h
/-! ### some term -/
theorem x_neg {m : ME} {r : Mi.Env} {G : Gp} {R : KT} (h : m r G fun t G1 => ∃ i, t = .int i ∧ R (.int (-i)) G1) : mNeg m r G R := h
theorem atI_neg {α : Type} {xs : List α} (h : 1 ≤ xs.length) : ∃ u, atI xs (-1) = some u ∧ u ∈ xs := by
  have l : xs.length - 1 < xs.length := by omega
  refine ⟨xs[xs.length - 1], ?_, List.getElem_mem l⟩
  unfold atI ixN
  rw [if_neg (by decide), if_pos (by omega)]
  show xs[(-1 + (xs.length : Int)).toNat]? = _
  rw [show (-1 + (xs.length : Int)).toNat = xs.length - 1 by omega]
  exact List.getElem?_eq_getElem l
/-! ### words, looked at -/
def nmC (c : Nat) : Bool := decide (97 ≤ c) && decide (c ≤ 122)
def isNm : T → Bool
  | .str z => decide (1 ≤ z.length) && decide (z.length ≤ 8) && z.cps.toList.all nmC
  | _ => false
theorem x_isi {t : T} {c nm : String} {G : Gp} {R : KT} (h : tyN G t = some nm) (hc : knownTy c) (k : R (.bl (isKind nm c)) G) : omIsi [t, .ty c] G R := ⟨t, c, nm, rfl, hc, h, k⟩
theorem x_chain {o o' : O2} {ma mb mc : ME} {r : Mi.Env} {G : Gp} {R : KT} (h : ma r G fun s G1 => mb r G1 fun t G2 => o s t G2 fun z G3 => ∃ k, z = .bl k ∧ (if k = true then mc r G3 fun u G4 => o' t u G4 R else R (.bl false) G3)) : mChain o o' ma mb mc r G R := h
theorem x_leS {x y : Str} {G : Gp} {R : KT} (h : R (.bl (!decide (y.cps.toList < x.cps.toList))) G) : oLeU (.str x) (.str y) G R := h
theorem x_inTx {c : Nat} {z : Str} {G : Gp} {R : KT} (h : R (.bl (decide (c ∈ z.cps.toList))) G) : oInA false (.str ⟨#[c]⟩) (.str z) G R := .inr (.inr ⟨c, z, rfl, rfl, h⟩)
theorem x_all {p : Addr} {bs : List Bool} {G : Gp} {R : KT} (e : G p = some (.lst (bs.map T.bl))) (h : R (.bl (bs.all id)) G) : omAll [.ref p] G R := ⟨_, bs, rfl, .inr ⟨p, rfl, e⟩, h⟩
theorem x_lenS {z : Str} {G : Gp} {R : KT} (l : z.length ≤ sizeLine) (h : R (.int z.length) G) : omLen [.str z] G R := ⟨_, rfl, .inr (.inl ⟨z, rfl, l, h⟩)⟩
theorem le1 (x y : Nat) : (!decide ([y] < [x])) = decide (x ≤ y) := by
  have e : [y] < [x] ↔ y < x := by
    rw [List.cons_lt_cons_iff]
    constructor
    · rintro (h | ⟨_, h⟩)
      · exact h
      · exact absurd h (List.not_lt_nil _)
    · exact .inl
  by_cases h : x ≤ y
  · rw [decide_eq_true h, decide_eq_false (fun q => by have := e.mp q; omega)]
    rfl
  · rw [decide_eq_false h, decide_eq_true (e.mpr (by omega))]
    rfl
theorem sign_at {z : Str} {i : Nat} {t : T} (h : (signT z)[i]? = some t) : ∃ c, z.cps.toList[i]? = some c ∧ t = .str ⟨#[c]⟩ := by
  unfold signT at h
  rw [List.getElem?_map] at h
  cases e : z.cps.toList[i]? with
  | none => rw [e] at h; cases h
  | some c =>
    rw [e] at h
    exact ⟨c, rfl, (Option.some.inj h).symm⟩
theorem isS_false {G : Gp} {t : T} {nm : String} (h : tyN G t = some nm) (ns : ∀ z, t ≠ .str z) : isKind nm "str" = false := by
  cases t with
  | str z => exact absurd rfl (ns z)
  | ref p =>
    unfold tyN at h
    cases e : G p with
    | none => simp [e] at h
    | some c => cases c <;> (simp [e] at h; subst h; decide)
  | non => cases h; decide
  | bl _ => cases h; decide
  | int _ => cases h; decide
  | tup _ => cases h; decide
  | cl _ => cases h; decide
  | ty _ => cases h
theorem isNm_ns {t : T} (ns : ∀ z, t ≠ .str z) : isNm t = false := by
  cases t with
  | str z => exact absurd rfl (ns z)
  | _ => rfl
theorem isNm_str {z : Str} : isNm (.str z) = (decide (1 ≤ z.length) && decide (z.length ≤ 8) && z.cps.toList.all nmC) := rfl
/-- the signs of a text, each by a test -/
theorem signs_ok {r : Mi.Env} {G : Gp} {z : Str} {i : Nat} {te : ME} {f : Nat → Bool} {R : KT} (h0 : r[0]? = some (some (.str z))) (hz : z.length ≤ 1000)
    (step : ∀ c G1 K, Ext G G1 → K (.bl (f c)) G1 → te ((wipeT r [i]).set i (some (.str ⟨#[c]⟩))) G1 K) (hR : ∀ D G', G' D = some (.lst ((z.cps.toList.map f).map T.bl)) → Ext G G' → R (.ref D) G') :
    mLc (miSeq (mVar 0)) (mgName i) mtYes te [i] r G R := by
  refine x_lc (x_iseq (x_var h0 ⟨signT z, .inr (.inr ⟨z, rfl, rfl⟩), fun D hD => ?_⟩))
  have take_s : ∀ j y, z.cps.toList[j]? = some y → (z.cps.toList.take (j + 1)).map (fun c => T.bl (f c)) = (z.cps.toList.take j).map (fun c => T.bl (f c)) ++ [T.bl (f y)] := fun j y e => by
    rw [List.take_succ, e, List.map_append]
    rfl
  refine ⟨fun j G' => G' D = some (.lst ((z.cps.toList.take j).map fun c => T.bl (f c))) ∧ Ext G G', ⟨put_same, Ext.new hD⟩, fun j G' _ q hq => (by cases hq), ?_, ?_⟩
  · intro j t G' ht ⟨w1, w2⟩
    obtain ⟨c, e, rfl⟩ := sign_at ht
    refine x_gname (x_yes ?_)
    rw [if_pos rfl]
    refine step c G' _ w2 ⟨_, w1, ?_, fwdG.of ⟨by rw [put_same, take_s j c e], Ext.grow hD w2⟩⟩
    rw [List.length_map, List.length_take]
    have := sizeLine_eq
    have l2 : z.cps.toList.length ≤ 1000 := by simpa [Str.length] using hz
    omega
  · intro G' ⟨w1, w2⟩
    have w1' : G' D = some (.lst ((z.cps.toList.take (signT z).length).map fun c => T.bl (f c))) := w1
    rw [show (signT z).length = z.cps.toList.length by unfold signT; rw [List.length_map], List.take_length] at w1'
    exact hR D G' (by rw [List.map_map]; exact w1') w2
theorem word_shape {t : T} {G : Gp} {R : KT} {nm : String} {te : ME} (ht : tyN G t = some nm) (hz : ∀ z, t = .str z → z.length ≤ 1000) (hR : ∀ G', Ext G G' → R (.bl (isNm t)) G')
    (step : ∀ (z : Str) (c : Nat) (G1 : Gp) (K : KT), K (.bl (nmC c)) G1 → te ((wipeT [some (.str z), none] [1]).set 1 (some (.str ⟨#[c]⟩))) G1 K) :
    (msSeq (msIf (tmOr (tmNot (mTru (mCall omIsi (maCons (mVar 0) (maCons (mC (.ty "str")) maNil))))) (tmNot (mB (mChain oLeU oLeU (mC (.int 1)) (mCall omLen (maCons (mVar 0) maNil)) (mC (.int 8)))))) (msRet (mC (.bl false))) msNext) (msRet (mCall omAll (maCons (mLc (miSeq (mVar 0)) (mgName 1) mtYes te [1]) maNil))))
      { nx := fun _ G' => fwdT R T.non G', rt := fwdT R } (List.map some [t] ++ List.replicate (2 - 1) none) G := by
  repeat walk_at "go1"
  refine x_isi ht (by simp [knownTy]) ?_
  refine ⟨_, rfl, ?_⟩
  by_cases hs : ∃ z, t = .str z
  · obtain ⟨z, rfl⟩ := hs
    have hz2 := hz z rfl
    cases ht
    rw [if_neg (by decide)]
    refine x_not (x_b (x_chain (x_c (x_call (x_cons (x_var rfl (x_nil (x_lenS (by have := sizeLine_eq; omega) (x_leI ⟨_, rfl, ?_⟩)))))))))
    have bad : (decide (1 ≤ z.length) && decide (z.length ≤ 8)) = false → fwdT R (.bl false) G := fun e => by
      have := hR G (Ext.refl G)
      rw [isNm_str, e] at this
      exact fwdT.of this
    have body : (decide (1 ≤ z.length) && decide (z.length ≤ 8)) = true → mLc (miSeq (mVar 0)) (mgName 1) mtYes te [1] (List.map some [T.str z] ++ List.replicate (2 - 1) none) G
        (fun t G1 => maNil (List.map some [T.str z] ++ List.replicate (2 - 1) none) G1 fun ts G2 => omAll (t :: ts) G2 (fwdT R)) := by
      intro e
      refine signs_ok (f := nmC) rfl hz2 (fun c G1 K f1 k => ?_) fun D G' e1 f1 => ?_
      · exact step z c G1 K k
      · refine x_nil (x_all e1 (fwdT.of ?_))
        have := hR G' f1
        rw [isNm_str, e, Bool.true_and] at this
        rw [List.all_map]
        exact this
    have i1 : decide ((1 : Int) ≤ (z.length : Nat)) = decide (1 ≤ z.length) := by by_cases h : 1 ≤ z.length <;> simp [h] <;> omega
    have i2 : decide (((z.length : Nat) : Int) ≤ 8) = decide (z.length ≤ 8) := by by_cases h : z.length ≤ 8 <;> simp [h] <;> omega
    refine x_ite (fun q => ?_) (fun q => ?_)
    · rw [i1] at q
      refine x_c (x_leI ⟨_, rfl, ?_⟩)
      rw [i2]
      refine x_ite (fun q2 => ?_) (fun q2 => ?_)
      · repeat walk_at "go1"
        refine bad ?_
        rw [q]
        cases h8 : decide (z.length ≤ 8)
        · rfl
        · rw [h8] at q2; cases q2
      · with_reducible refine x_next ?_
        with_reducible refine x_ret ?_
        with_reducible refine x_call ?_
        with_reducible refine x_cons ?_
        refine body ?_
        rw [q]
        cases h8 : decide (z.length ≤ 8)
        · rw [h8] at q2; cases q2
        · rfl
    · rw [i1] at q
      refine ⟨_, rfl, ?_⟩
      rw [if_pos (by decide)]
      repeat walk_at "go1"
      refine bad ?_
      rw [q]
      rfl
  · have ns : ∀ z, t ≠ .str z := fun z e => hs ⟨z, e⟩
    rw [isS_false ht ns]
    rw [if_pos (by decide)]
    rw [if_pos rfl]
    repeat walk_at "go1"
    have := hR G (Ext.refl G)
    rw [isNm_ns ns] at this
    exact fwdT.of this
theorem letters_all : (Str.ofString "abcdefghijklmnopqrstuvwxyz").cps.toList = (List.range 26).map (· + 97) := by decide +kernel
theorem letters_in (c : Nat) : decide (c ∈ (Str.ofString "abcdefghijklmnopqrstuvwxyz").cps.toList) = nmC c := by
  rw [letters_all]
  unfold nmC
  rw [← Bool.decide_and]
  refine decide_eq_decide.mpr ?_
  rw [List.mem_map]
  constructor
  · rintro ⟨i, hi, rfl⟩
    have := List.mem_range.mp hi
    omega
  · intro h
    exact ⟨c - 97, List.mem_range.mpr (by omega), by omega⟩
/-! a text stripped of letters: nothing is left where all are letters -/
theorem tw_all {g : Nat → Bool} : ∀ {l : List Nat}, l.all g = true → (l.takeWhile g).length = l.length
  | [], _ => rfl
  | a :: r, h => by
    rw [List.all_cons, Bool.and_eq_true] at h
    rw [List.takeWhile_cons, if_pos h.1, List.length_cons, List.length_cons, tw_all h.2]
theorem tw_not {g : Nat → Bool} : ∀ {l : List Nat}, l.all g = false → (l.takeWhile g).length < l.length ∧ ∃ c r, l.drop (l.takeWhile g).length = c :: r ∧ g c = false
  | [], h => by cases h
  | a :: r, h => by
    by_cases ha : g a = true
    · rw [List.all_cons, ha, Bool.true_and] at h
      obtain ⟨h1, c, r2, h2, h3⟩ := tw_not h
      rw [List.takeWhile_cons, if_pos ha, List.length_cons, List.length_cons]
      exact ⟨by omega, c, r2, h2, h3⟩
    · rw [List.takeWhile_cons, if_neg ha]
      exact ⟨by simp, a, r, rfl, by simpa using ha⟩
theorem tw_end {g : Nat → Bool} {c : Nat} (hc : g c = false) : ∀ xs : List Nat, ((xs ++ [c]).takeWhile g).length ≤ xs.length
  | [] => by rw [List.nil_append, List.takeWhile_cons, if_neg (by rw [hc]; decide)]; exact Nat.le_refl _
  | a :: r => by
    have := tw_end hc r
    rw [List.cons_append, List.takeWhile_cons]
    split
    · rw [List.length_cons, List.length_cons]; omega
    · exact Nat.zero_le _
theorem sub_len (z : Str) (i j : Nat) : (Builtin.Str.strSub z i j).length = min j z.length - i := by
  show (z.cps.extract i j).size = _
  rw [Array.size_extract]
  rfl
theorem strip_len (z y : Str) (h1 : 1 ≤ z.length) : (((Txt.stripChars z y).length : Int) != 0) = !(z.cps.toList.all y.cps.contains) := by
  have hl : z.cps.toList.length = z.length := by simp [Str.length]
  have sl := sub_len z
  have key : (Txt.stripChars z y).length = 0 ↔ z.cps.toList.all y.cps.contains = true := by
    unfold Txt.stripChars Txt.stripBy
    cases ha : z.cps.toList.all y.cps.contains with
    | true =>
      have e1 := tw_all ha
      have e2 : stripLo y.cps.contains true z = z.length := by
        unfold stripLo
        rw [if_pos rfl, e1, hl]
      have e3 : stripSame y.cps.contains true true z = false := by
        unfold stripSame
        rw [e2, show (z.length == 0) = false from beq_eq_false_iff_ne.mpr (by omega)]
        rfl
      rw [e3, if_neg (by decide)]
      unfold stripped
      rw [e2, sl]
      have : min (stripHi y.cps.contains true z z.length) z.length ≤ z.length := Nat.min_le_right _ _
      constructor
      · intro _; rfl
      · intro _; omega
    | false =>
      obtain ⟨e1, c, r, e2, e3⟩ := tw_not ha
      have e4 : stripLo y.cps.contains true z = (z.cps.toList.takeWhile y.cps.contains).length := by
        unfold stripLo
        rw [if_pos rfl]
      have e5 : stripHi y.cps.contains true z (stripLo y.cps.contains true z) = z.length - ((c :: r).reverse.takeWhile y.cps.contains).length := by
        unfold stripHi
        rw [if_pos rfl, e4, e2]
      have e6 := tw_end (g := y.cps.contains) e3 r.reverse
      rw [← List.reverse_cons, List.length_reverse] at e6
      have e7 := congrArg List.length e2
      rw [List.length_drop, List.length_cons] at e7
      constructor
      · intro h
        exfalso
        split at h
        · omega
        · unfold stripped at h
          rw [e5, e4, sl] at h
          have e8 : min (z.length - ((c :: r).reverse.takeWhile y.cps.contains).length) z.length = z.length - ((c :: r).reverse.takeWhile y.cps.contains).length := Nat.min_eq_left (Nat.sub_le _ _)
          rw [e8] at h
          omega
      · intro h; cases h
  cases ha : z.cps.toList.all y.cps.contains with
  | true => rw [key.mpr ha]; rfl
  | false =>
    have : (Txt.stripChars z y).length ≠ 0 := fun e => by rw [key.mp e] at ha; cases ha
    show (((Txt.stripChars z y).length : Int) != 0) = true
    rw [bne_iff_ne]
    omega
theorem strip_le (z y : Str) : (Txt.stripChars z y).length ≤ z.length := by
  unfold Txt.stripChars Txt.stripBy
  split
  · exact Nat.le_refl _
  · unfold stripped
    rw [sub_len]
    have : min (stripHi y.cps.contains true z (stripLo y.cps.contains true z)) z.length ≤ z.length := Nat.min_le_right _ _
    omega
theorem x_strip {z y : Str} {G : Gp} {R : KT} (l : z.length ≤ sizeLine) (h : R (.str (Txt.stripChars z y)) G) : omStripChars (.str z) [.str y] G R := ⟨z, y, rfl, rfl, l, h⟩
theorem letters_con (c : Nat) : (Str.ofString "abcdefghijklmnopqrstuvwxyz").cps.contains c = nmC c := by
  rw [← letters_in c, Bool.eq_iff_iff]
  simp
/-! ### data: numbers, texts, truths, None, tuples and lists of these -/
inductive Nd (G : Gp) : Nat → T → PyData → Prop
  | non {n : Nat} : Nd G n .non .none
  | bl {n : Nat} {b : Bool} : Nd G n (.bl b) (.bool b)
  | int {n : Nat} {i : Int} : i.natAbs ≤ 1000000000 → Nd G n (.int i) (.int i)
  | str {n : Nat} {z : Str} : z.length ≤ 1000 → PyData.strOk z = true → Nd G n (.str z) (.str z)
  | tup {n : Nat} {ts : List T} {ds : List PyData} : ts.length ≤ 60 → ds.length = ts.length → (∀ (i : Nat) (t : T) (d : PyData), ts[i]? = some t → ds[i]? = some d → Nd G n t d) → Nd G (n + 1) (.tup ts) (.tuple ds)
  | lst {n : Nat} {p : Addr} {ts : List T} {ds : List PyData} : G p = some (.lst ts) → ts.length ≤ 60 → ds.length = ts.length → (∀ (i : Nat) (t : T) (d : PyData), ts[i]? = some t → ds[i]? = some d → Nd G n t d) → Nd G (n + 1) (.ref p) (.list ds)
theorem Nd.ext {G G' : Gp} (f : Ext G G') {n : Nat} {t : T} {d : PyData} (h : Nd G n t d) : Nd G' n t d := by
  induction h with
  | non => exact .non
  | bl => exact .bl
  | int a => exact .int a
  | str a b => exact .str a b
  | tup a b _ i => exact .tup a b i
  | lst e a b _ i => exact .lst (f _ _ e) a b i
theorem Nd.le {G : Gp} {n : Nat} {t : T} {d : PyData} (h : Nd G n t d) : ∀ {m : Nat}, n ≤ m → Nd G m t d := by
  induction h with
  | non => intro m _; exact .non
  | bl => intro m _; exact .bl
  | int a => intro m _; exact .int a
  | str a b => intro m _; exact .str a b
  | tup a b _ i => intro m l; obtain ⟨m, rfl⟩ : ∃ m', m = m' + 1 := ⟨m - 1, by omega⟩; exact .tup a b fun j t d e1 e2 => i j t d e1 e2 (by omega)
  | lst e a b _ i => intro m l; obtain ⟨m, rfl⟩ : ∃ m', m = m' + 1 := ⟨m - 1, by omega⟩; exact .lst e a b fun j t d e1 e2 => i j t d e1 e2 (by omega)
theorem dtAll_of {G : Gp} : ∀ {ts : List T} {ds : List PyData}, ds.length = ts.length → (∀ (i : Nat) (t : T) (d : PyData), ts[i]? = some t → ds[i]? = some d → Dt G t d) → DtAll G ts ds
  | [], [], _, _ => .nil
  | t :: ts, d :: ds, h, k => .cons (k 0 t d rfl rfl) (dtAll_of (by simpa using h) fun i t d a b => k (i + 1) t d (by simpa using a) (by simpa using b))
  | [], _ :: _, h, _ => by simp at h
  | _ :: _, [], h, _ => by simp at h
theorem Nd.dt {G : Gp} {n : Nat} {t : T} {d : PyData} (h : Nd G n t d) : Dt G t d := by
  induction h with
  | non => exact .non
  | bl => exact .bl _
  | int a => exact .int _
  | str a b => exact .str _
  | tup a b _ i => exact .tup (dtAll_of b i)
  | lst e a b _ i => exact .lst (.inr ⟨_, rfl, e⟩) (dtAll_of b i)
theorem all_of {p : PyData → Prop} {ts : List T} {ds : List PyData} (h : ds.length = ts.length) (k : ∀ (i : Nat) (t : T) (d : PyData), ts[i]? = some t → ds[i]? = some d → p d) : ∀ d ∈ ds, p d := by
  intro d hd
  obtain ⟨i, hi, e⟩ := List.mem_iff_getElem.mp hd
  have hi2 : i < ts.length := by omega
  exact k i ts[i] d (List.getElem?_eq_getElem hi2) (by rw [List.getElem?_eq_getElem hi, e])
theorem canLay_all : ∀ {ds : List PyData}, (∀ d ∈ ds, d.canLay0 = true) → PyData.canLayAll0 ds = true
  | [], _ => rfl
  | d :: ds, h => by
    simp only [PyData.canLayAll0, h d (by simp), canLay_all fun x hx => h x (List.mem_cons_of_mem _ hx), Bool.and_self]
theorem depth_all : ∀ {ds : List PyData} {n : Nat}, (∀ d ∈ ds, d.depth ≤ n) → PyData.depthAll ds ≤ n
  | [], _, _ => Nat.zero_le _
  | d :: ds, n, h => Nat.max_le.mpr ⟨h d (by simp), depth_all fun x hx => h x (List.mem_cons_of_mem _ hx)⟩
theorem show_all : ∀ {ds : List PyData}, (∀ d ∈ ds, d.showable = true) → PyData.showableAll ds = true
  | [], _ => rfl
  | d :: ds, h => by simp only [PyData.showableAll, h d (by simp), show_all fun x hx => h x (List.mem_cons_of_mem _ hx), Bool.and_self]
theorem nodict_all : ∀ {ds : List PyData}, (∀ d ∈ ds, d.hasDict = false) → PyData.hasDictAll ds = false
  | [], _ => rfl
  | d :: ds, h => by simp only [PyData.hasDictAll, h d (by simp), nodict_all fun x hx => h x (List.mem_cons_of_mem _ hx), Bool.or_self]
theorem Nd.lay {G : Gp} {n : Nat} {t : T} {d : PyData} (h : Nd G n t d) : d.canLay0 = true := by
  induction h with
  | non => rfl
  | bl => rfl
  | int a => rfl
  | str a b => exact b
  | tup a b _ i => exact canLay_all (all_of b i)
  | lst e a b _ i => exact canLay_all (all_of b i)
theorem Nd.depth {G : Gp} {n : Nat} {t : T} {d : PyData} (h : Nd G n t d) : d.depth ≤ n := by
  induction h with
  | non => exact Nat.zero_le _
  | bl => exact Nat.zero_le _
  | int a => exact Nat.zero_le _
  | str a b => exact Nat.zero_le _
  | tup a b _ i => exact Nat.succ_le_succ (depth_all (all_of b i))
  | lst e a b _ i => exact Nat.succ_le_succ (depth_all (all_of b i))
theorem Nd.shaped {G : Gp} {n : Nat} {t : T} {d : PyData} (h : Nd G n t d) (hn : n ≤ 64) : SeqAt.shaped d = true := Bool.and_eq_true_iff.mpr ⟨h.lay, decide_eq_true (Nat.le_trans h.depth hn)⟩
theorem Nd.shows {G : Gp} {n : Nat} {t : T} {d : PyData} (h : Nd G n t d) : d.showable = true := by
  induction h with
  | non => rfl
  | bl => rfl
  | int a =>
    rename_i i
    refine decide_eq_true ?_
    by_cases h0 : i.natAbs = 0
    · rw [h0]; decide
    · exact Nat.lt_trans ((Nat.log2_lt h0).mpr (show i.natAbs < 2 ^ 40 by omega)) (by decide)
  | str a b => rfl
  | tup a b _ i => exact show_all (all_of b i)
  | lst e a b _ i => exact show_all (all_of b i)
theorem Nd.nodict {G : Gp} {n : Nat} {t : T} {d : PyData} (h : Nd G n t d) : d.hasDict = false := by
  induction h with
  | non => rfl
  | bl => rfl
  | int a => rfl
  | str a b => rfl
  | tup a b _ i => exact nodict_all (all_of b i)
  | lst e a b _ i => exact nodict_all (all_of b i)
theorem Nd.ty {G : Gp} {n : Nat} {t : T} {d : PyData} (h : Nd G n t d) : ∃ nm, tyN G t = some nm := by
  cases h with
  | lst e _ _ _ => exact ⟨"list", by simp only [tyN, e]⟩
  | non => exact ⟨_, rfl⟩
  | bl => exact ⟨_, rfl⟩
  | int _ => exact ⟨_, rfl⟩
  | str _ _ => exact ⟨_, rfl⟩
  | tup _ _ _ => exact ⟨_, rfl⟩
theorem Nd.len {G : Gp} {n : Nat} {t : T} {d : PyData} (h : Nd G n t d) : ∀ z, t = .str z → z.length ≤ 1000 := fun z e => by
  subst e
  cases h with
  | str a b => exact a
theorem Nd.kid {G : Gp} {n : Nat} {ts : List T} {d : PyData} (h : Nd G n (.tup ts) d) : ∀ t ∈ ts, ∃ m d', n = m + 1 ∧ Nd G m t d' := by
  cases h with
  | tup a b c =>
    rename_i m ds
    intro t ht
    obtain ⟨i, hi, e⟩ := List.mem_iff_getElem.mp ht
    have hi2 : i < ds.length := by omega
    exact ⟨m, ds[i], rfl, c i t ds[i] (by rw [List.getElem?_eq_getElem hi, e]) (List.getElem?_eq_getElem hi2)⟩
theorem Nd.size60 {G : Gp} {n : Nat} {ts : List T} {d : PyData} (h : Nd G n (.tup ts) d) : ts.length ≤ 60 := by
  cases h with
  | tup a b c => exact a
theorem Nd.size {G : Gp} {n : Nat} {ts : List T} {d : PyData} (h : Nd G n (.tup ts) d) : ts.length ≤ 1000 := Nat.le_trans h.size60 (by decide)

/-! ### pairs, each by a test -/
theorem srcT.ext {G G' : Gp} {s : T} {ts : List T} (f : Ext G G') (h : srcT G s ts) : srcT G' s ts := by
  rcases h with h | (h | ⟨p, e, h⟩) | h
  · exact .inl h
  · exact .inr (.inl (.inl h))
  · exact .inr (.inl (.inr ⟨p, e, f _ _ h⟩))
  · exact .inr (.inr h)
theorem x_izip {m m2 : ME} {r : Mi.Env} {G : Gp} {N : MIt → Gp → Prop} (h : m r G fun t G1 => m2 r G1 fun u G2 => ∃ ts us, srcT G2 t ts ∧ srcT G2 u us ∧ N ⟨List.zipWith (fun a b => T.tup [a, b]) ts us, heldT t ts ++ heldT u us⟩ G2) : miZip m m2 r G N := h
theorem zip_ok {r : Mi.Env} {G : Gp} {m1 m2 te : ME} {i j : Nat} {ts us : List T} {f : T → T → Bool} {R : KT} (hl : ts.length ≤ 1000)
    (src : ∀ K : T → T → Gp → Prop, (∀ s1 s2 G1, Ext G G1 → srcT G1 s1 ts → srcT G1 s2 us → K s1 s2 G1) → m1 r G fun t G1 => m2 r G1 fun u G2 => K t u G2)
    (step : ∀ a b G1 K, a ∈ ts → b ∈ us → Ext G G1 → K (.bl (f a b)) G1 → te (((wipeT r [i, j]).set i (some a)).set j (some b)) G1 K)
    (hR : ∀ D G', G' D = some (.lst ((List.zipWith f ts us).map T.bl)) → Ext G G' → R (.ref D) G') :
    mLc (miZip m1 m2) (mgTup 2 (mgCons (mgName i) (mgCons (mgName j) mgNil))) mtYes te [i, j] r G R := by
  refine x_lc (x_izip (src (fun t u G2 => ∃ ts us, srcT G2 t ts ∧ srcT G2 u us ∧ ∀ D, G2 D = none → ∃ W : Nat → Gp → Prop, W 0 (Mi.put G2 D (.lst [])) ∧ (∀ i G, W i G → Held G (heldT t ts ++ heldT u us)) ∧
    (∀ i_1 t_1 G, (List.zipWith (fun a b => T.tup [a, b]) ts us)[i_1]? = some t_1 → W i_1 G → mgTup 2 (mgCons (mgName i) (mgCons (mgName j) mgNil)) t_1 (wipeT r [i, j]) G fun r2 G2 => mtYes r2 G2 fun b G3 =>
      if b = true then te r2 G3 fun u G4 => ∃ acc, G4 D = some (.lst acc) ∧ acc.length < sizeLine ∧ fwdG (W (i_1 + 1)) (Mi.put G4 D (.lst (acc ++ [u]))) else fwdG (W (i_1 + 1)) G3) ∧ ∀ G, W (List.zipWith (fun a b => T.tup [a, b]) ts us).length G → R (.ref D) G) ?_))
  intro s1 s2 G1 f1 h1 h2
  refine ⟨ts, us, h1, h2, fun D hD => ?_⟩
  have zl : (List.zipWith f ts us).length ≤ 1000 := by rw [List.length_zipWith]; omega
  refine ⟨fun n G' => G' D = some (.lst (((List.zipWith f ts us).take n).map T.bl)) ∧ Ext G1 G', ⟨put_same, Ext.new hD⟩, ?_, ?_, ?_⟩
  · intro n G' ⟨_, w2⟩ p hp
    rcases List.mem_append.mp hp with q | q
    · exact srcT.held (Lw.srcT.ext w2 h1) p q
    · exact srcT.held (Lw.srcT.ext w2 h2) p q
  · intro n t G' ht ⟨w1, w2⟩
    rw [List.getElem?_zipWith] at ht
    cases e1 : ts[n]? with
    | none => rw [e1] at ht; cases ht
    | some a =>
      cases e2 : us[n]? with
      | none => rw [e1, e2] at ht; cases ht
      | some b =>
        rw [e1, e2] at ht
        cases ht
        have e3 : (List.zipWith f ts us)[n]? = some (f a b) := by rw [List.getElem?_zipWith, e1, e2]
        refine x_gtup rfl (x_gcons (x_gname (x_gcons (x_gname (x_gnil (x_yes ?_))))))
        rw [if_pos rfl]
        refine step a b G' _ (List.mem_of_getElem? e1) (List.mem_of_getElem? e2) (f1.trans w2) ⟨_, w1, ?_, fwdG.of ⟨?_, Ext.grow hD w2⟩⟩
        · rw [List.length_map, List.length_take]
          have := sizeLine_eq
          omega
        · rw [put_same, List.take_succ, e3, List.map_append]
          rfl
  · intro G' ⟨w1, w2⟩
    have e : (List.zipWith (fun a b => T.tup [a, b]) ts us).length = (List.zipWith f ts us).length := by rw [List.length_zipWith, List.length_zipWith]
    have w1' : G' D = some (.lst (((List.zipWith f ts us).take (List.zipWith (fun a b => T.tup [a, b]) ts us).length).map T.bl)) := w1
    rw [e, List.take_length] at w1'
    exact hR D G' w1' (f1.trans w2)
theorem zip_ok2 {r : Mi.Env} {G : Gp} {m1 m2 te : ME} {i j : Nat} {ts us : List T} {f : T → T → Bool} {R : KT} (hl : ts.length ≤ 1000)
    (src : ∀ K : T → T → Gp → Prop, (∀ s1 s2 G1, Ext G G1 → srcT G1 s1 ts → srcT G1 s2 us → K s1 s2 G1) → m1 r G fun t G1 => m2 r G1 fun u G2 => K t u G2)
    (step : ∀ a b G1 K, a ∈ ts → b ∈ us → Ext G G1 → (∀ G', Ext G1 G' → K (.bl (f a b)) G') → te (((wipeT r [i, j]).set i (some a)).set j (some b)) G1 K)
    (hR : ∀ D G', G' D = some (.lst ((List.zipWith f ts us).map T.bl)) → Ext G G' → R (.ref D) G') :
    mLc (miZip m1 m2) (mgTup 2 (mgCons (mgName i) (mgCons (mgName j) mgNil))) mtYes te [i, j] r G R := by
  refine x_lc (x_izip (src (fun t u G2 => ∃ ts us, srcT G2 t ts ∧ srcT G2 u us ∧ ∀ D, G2 D = none → ∃ W : Nat → Gp → Prop, W 0 (Mi.put G2 D (.lst [])) ∧ (∀ i G, W i G → Held G (heldT t ts ++ heldT u us)) ∧
    (∀ i_1 t_1 G, (List.zipWith (fun a b => T.tup [a, b]) ts us)[i_1]? = some t_1 → W i_1 G → mgTup 2 (mgCons (mgName i) (mgCons (mgName j) mgNil)) t_1 (wipeT r [i, j]) G fun r2 G2 => mtYes r2 G2 fun b G3 =>
      if b = true then te r2 G3 fun u G4 => ∃ acc, G4 D = some (.lst acc) ∧ acc.length < sizeLine ∧ fwdG (W (i_1 + 1)) (Mi.put G4 D (.lst (acc ++ [u]))) else fwdG (W (i_1 + 1)) G3) ∧ ∀ G, W (List.zipWith (fun a b => T.tup [a, b]) ts us).length G → R (.ref D) G) ?_))
  intro s1 s2 G1 f1 h1 h2
  refine ⟨ts, us, h1, h2, fun D hD => ?_⟩
  have zl : (List.zipWith f ts us).length ≤ 1000 := by rw [List.length_zipWith]; omega
  refine ⟨fun n G' => G' D = some (.lst (((List.zipWith f ts us).take n).map T.bl)) ∧ Ext G1 G', ⟨put_same, Ext.new hD⟩, ?_, ?_, ?_⟩
  · intro n G' ⟨_, w2⟩ p hp
    rcases List.mem_append.mp hp with q | q
    · exact srcT.held (Lw.srcT.ext w2 h1) p q
    · exact srcT.held (Lw.srcT.ext w2 h2) p q
  · intro n t G' ht ⟨w1, w2⟩
    rw [List.getElem?_zipWith] at ht
    cases e1 : ts[n]? with
    | none => rw [e1] at ht; cases ht
    | some a =>
      cases e2 : us[n]? with
      | none => rw [e1, e2] at ht; cases ht
      | some b =>
        rw [e1, e2] at ht
        cases ht
        have e3 : (List.zipWith f ts us)[n]? = some (f a b) := by rw [List.getElem?_zipWith, e1, e2]
        refine x_gtup rfl (x_gcons (x_gname (x_gcons (x_gname (x_gnil (x_yes ?_))))))
        rw [if_pos rfl]
        refine step a b G' _ (List.mem_of_getElem? e1) (List.mem_of_getElem? e2) (f1.trans w2) fun G4 f4 => ⟨_, f4 _ _ w1, ?_, fwdG.of ⟨?_, Ext.grow hD (w2.trans f4)⟩⟩
        · rw [List.length_map, List.length_take]
          have := sizeLine_eq
          omega
        · rw [put_same, List.take_succ, e3, List.map_append]
          rfl
  · intro G' ⟨w1, w2⟩
    have e : (List.zipWith (fun a b => T.tup [a, b]) ts us).length = (List.zipWith f ts us).length := by rw [List.length_zipWith, List.length_zipWith]
    have w1' : G' D = some (.lst (((List.zipWith f ts us).take (List.zipWith (fun a b => T.tup [a, b]) ts us).length).map T.bl)) := w1
    rw [e, List.take_length] at w1'
    exact hR D G' w1' (f1.trans w2)
/-! ### texts that rise -/
def sLt (x y : T) : Bool := match x, y with
  | .str a, .str b => decide (a.cps.toList < b.cps.toList)
  | _, _ => false
def asc (xs : List T) : Bool := (List.zipWith sLt xs (xs.drop 1)).all id
theorem cut1 {α : Type} (xs : List α) : cutT xs (some 1) none = xs.drop 1 := by
  unfold cutT HT.sIx
  cases xs with
  | nil => rfl
  | cons x r => simp
theorem x_ltS {x y : Str} {G : Gp} {R : KT} (h : R (.bl (decide (x.cps.toList < y.cps.toList))) G) : oLtU (.str x) (.str y) G R := h
theorem x_geS {x y : Str} {G : Gp} {R : KT} (h : R (.bl (!decide (x.cps.toList < y.cps.toList))) G) : oGeU (.str x) (.str y) G R := h
/-! ### rows, by the program -/
theorem isT_false {G : Gp} {t : T} {nm : String} (h : tyN G t = some nm) (ns : ∀ z, t ≠ .tup z) : isKind nm "tuple" = false := by
  cases t with
  | tup z => exact absurd rfl (ns z)
  | ref p =>
    unfold tyN at h
    cases e : G p with
    | none => simp [e] at h
    | some c => cases c <;> (simp [e] at h; subst h; decide)
  | non => cases h; decide
  | bl _ => cases h; decide
  | int _ => cases h; decide
  | str _ => cases h; decide
  | cl _ => cases h; decide
  | ty _ => cases h
theorem x_neI {i j : Int} {G : Gp} {R : KT} (h : R (.bl (!decide (i = j))) G) : oNe (.int i) (.int j) G R := ⟨.int i, .int j, .int i, .int j, rfl, rfl, h⟩
def headT : T → T
  | .tup (x :: _) => x
  | _ => .non
def rowOkP (w : Int) : T → Bool
  | .tup ts => decide ((ts.length : Nat) = w) && isNm (headT (.tup ts))
  | _ => false
def rowsP (w : Int) : T → Bool
  | .tup rs => rs.all (rowOkP w) && asc (rs.map headT)
  | _ => false
theorem rowsP_nt {w : Int} {t : T} (h : ∀ z, t ≠ .tup z) : rowsP w t = false := by
  cases t with
  | tup z => exact absurd rfl (h z)
  | _ => rfl
theorem rowOkP_nt {w : Int} {t : T} (h : ∀ z, t ≠ .tup z) : rowOkP w t = false := by
  cases t with
  | tup z => exact absurd rfl (h z)
  | _ => rfl
theorem isNm_s {t : T} (h : isNm t = true) : ∃ z, t = .str z := by
  cases t with
  | str z => exact ⟨z, rfl⟩
  | _ => cases h
theorem strs_of : ∀ {ts : List T}, (∀ t ∈ ts, ∃ z, t = T.str z) → ∃ zs : List Str, ts = zs.map T.str
  | [], _ => ⟨[], rfl⟩
  | t :: ts, h => by
    obtain ⟨z, rfl⟩ := h t (by simp)
    obtain ⟨zs, rfl⟩ := strs_of fun u hu => h u (List.mem_cons_of_mem _ hu)
    exact ⟨z :: zs, rfl⟩
theorem atI0 {α : Type} (x : α) (r : List α) : atI (x :: r) 0 = some x := by
  unfold atI ixN
  rw [if_pos (by decide), if_pos (by rw [List.length_cons]; omega)]
  rfl
/-! ### rows, by the law -/
theorem cutLast {α : Type} (xs : List α) : cutT xs none (some (-1)) = xs.dropLast := by
  unfold cutT HT.sIx
  rw [List.dropLast_eq_take]
  cases xs with
  | nil => rfl
  | cons x r => simp; omega
def lastT : List T → T
  | [] => .non
  | [x] => x
  | _ :: y :: r => lastT (y :: r)
theorem atI_last : ∀ {xs : List T}, xs ≠ [] → atI xs (-1) = some (lastT xs) := by
  intro xs h
  have l : xs.length - 1 < xs.length := by have := List.length_pos_iff.mpr h; omega
  unfold atI ixN
  rw [if_neg (by decide), if_pos (by omega)]
  show xs[(-1 + (xs.length : Int)).toNat]? = _
  rw [show (-1 + (xs.length : Int)).toNat = xs.length - 1 by omega]
  have key : ∀ (xs : List T), xs ≠ [] → xs[xs.length - 1]? = some (lastT xs) := by
    intro xs
    induction xs with
    | nil => intro h; exact absurd rfl h
    | cons x r ih =>
      intro _
      cases r with
      | nil => rfl
      | cons y r2 =>
        have := ih (by simp)
        show (x :: y :: r2)[(y :: r2).length]? = some (lastT (y :: r2))
        rw [← this]
        simp
  exact key xs h
theorem last_mem : ∀ {xs : List T}, xs ≠ [] → lastT xs ∈ xs
  | [], h => absurd rfl h
  | [x], _ => by simp [lastT]
  | x :: y :: r, _ => List.mem_cons_of_mem _ (last_mem (xs := y :: r) (by simp))
def rowOkL (one : T → Bool) (size : Int) : T → Bool
  | .tup xs => decide ((xs.length : Nat) = size) && (xs.dropLast.all isNm && one (lastT xs))
  | _ => false
def rowsL (one : T → Bool) (size least : Int) : T → Bool
  | .tup rs => decide (least ≤ (rs.length : Nat)) && (rs.all (rowOkL one size) && asc (rs.map headT))
  | _ => false
theorem rowOkL_nt {one : T → Bool} {w : Int} {t : T} (h : ∀ z, t ≠ .tup z) : rowOkL one w t = false := by
  cases t with
  | tup z => exact absurd rfl (h z)
  | _ => rfl
theorem rowsL_nt {one : T → Bool} {w l : Int} {t : T} (h : ∀ z, t ≠ .tup z) : rowsL one w l t = false := by
  cases t with
  | tup z => exact absurd rfl (h z)
  | _ => rfl
/-! ### terms, looked at -/
def isNumT : List T → Bool
  | [.int i] => decide (0 ≤ i) && decide (i ≤ 99990)
  | _ => false
def bySort (one : T → Bool) (c : Nat) (t : T) : Bool := if c = 116 then one t else isNm t
def recL (one : T → Bool) : List T → Bool
  | [t] => rowsL one 2 0 t
  | _ => false
def caseL (one : T → Bool) : List T → Bool
  | [t, rs] => one t && rowsL one 3 1 rs
  | _ => false
def tabL (one : T → Bool) (rest : List T) : Option Str → Bool
  | some sg => decide (rest.length = sg.length) && (List.zipWith (bySort one) sg.cps.toList rest).all id
  | none => false
theorem zipBy_congr {f g : Nat → T → Bool} : ∀ {cs : List Nat} {ts : List T}, (∀ t ∈ ts, ∀ c, f c t = g c t) → List.zipWith f cs ts = List.zipWith g cs ts
  | [], _, _ => by simp
  | _ :: _, [], _ => by simp
  | c :: cs, t :: ts, h => by
    rw [List.zipWith_cons_cons, List.zipWith_cons_cons, h t (by simp) c, zipBy_congr fun u hu => h u (List.mem_cons_of_mem _ hu)]
theorem all_congr {α : Type} {f g : α → Bool} : ∀ {xs : List α}, (∀ x ∈ xs, f x = g x) → xs.all f = xs.all g
  | [], _ => rfl
  | x :: xs, h => by
    rw [List.all_cons, List.all_cons, h x (by simp), all_congr fun y hy => h y (List.mem_cons_of_mem _ hy)]
theorem rowsL_congr {f g : T → Bool} {w l : Int} {t : T} (hw : 1 ≤ w) (h : ∀ rs, t = .tup rs → ∀ y ∈ rs, ∀ xs, y = .tup xs → ∀ u ∈ xs, f u = g u) : rowsL f w l t = rowsL g w l t := by
  cases t with
  | tup rs =>
    have e : rs.all (rowOkL f w) = rs.all (rowOkL g w) := all_congr fun y hy => by
      cases y with
      | tup xs =>
        show (decide ((xs.length : Nat) = w) && (xs.dropLast.all isNm && f (lastT xs))) = (decide ((xs.length : Nat) = w) && (xs.dropLast.all isNm && g (lastT xs)))
        by_cases hx : xs = []
        · subst hx
          rw [decide_eq_false (by simp; omega)]
          rfl
        · rw [h rs rfl _ hy xs rfl _ (last_mem hx)]
      | _ => rfl
    show (decide _ && (rs.all (rowOkL f w) && _)) = (decide _ && (rs.all (rowOkL g w) && _))
    rw [e]
  | _ => rfl
/-! ### the law's table of words -/
def tb (ps : List (Str × Str)) : List (Key × T) := ps.map fun p => (.inr p.1, .str p.2)
theorem look_tb : ∀ (ps : List (Str × Str)) (w : Str), lookT (tb ps) (.inr w) = (ps.lookup w).map T.str
  | [], _ => rfl
  | (k, v) :: ps, w => by
    have ih := look_tb ps w
    by_cases e : k = w
    · subst e
      have e1 : ((k, v) :: ps).lookup k = some v := by simp [List.lookup]
      rw [e1]
      show (List.find? _ ((Sum.inr k, T.str v) :: tb ps)).map (·.2) = _
      rw [List.find?_cons_of_pos (by simp)]
      rfl
    · have e1 : ((k, v) :: ps).lookup w = ps.lookup w := by
        have : (w == k) = false := beq_eq_false_iff_ne.mpr (Ne.symm e)
        simp [List.lookup, this]
      rw [e1, ← ih]
      show (List.find? _ ((Sum.inr k, T.str v) :: tb ps)).map (·.2) = _
      rw [List.find?_cons_of_neg (by simpa using e)]
      rfl
theorem lookup_mem : ∀ {ps : List (Str × Str)} {w v : Str}, ps.lookup w = some v → (w, v) ∈ ps
  | [], _, _, h => by cases h
  | (k, u) :: ps, w, v, h => by
    by_cases e : w = k
    · subst e
      have e1 : ((w, u) :: ps).lookup w = some u := by simp [List.lookup]
      rw [e1] at h; cases h
      simp
    · have e1 : ((k, u) :: ps).lookup w = ps.lookup w := by
        have : (w == k) = false := beq_eq_false_iff_ne.mpr e
        simp [List.lookup, this]
      rw [e1] at h
      exact List.mem_cons_of_mem _ (lookup_mem h)
theorem x_iteF {b : Bool} {p q : Prop} (e : b = false) (h : q) : if b = true then p else q := by rw [if_neg (by rw [e]; decide)]; exact h
theorem x_dnin {mi mo : ME} {r : Mi.Env} {G : Gp} {R : KT} (h : mi r G fun t G1 => mo r G1 fun s G2 => ∃ a u, s = .ref a ∧ gtT G2 a t u ∧ R (.bl (!u.isSome)) G2) : mDIn true mi mo r G R := h
theorem x_tydct {a : Addr} {kvs : List (Key × T)} {G : Gp} {p : Prop} (e : G a = some (.dK kvs)) (h : p) : isTy G "dict" (.ref a) ∧ p := ⟨.inr ⟨rfl, .inl ⟨kvs, e⟩⟩, h⟩
theorem sign_len {sg : Str} (h : sg.length ≤ 4) : (signT sg).length ≤ 1000 := by
  unfold signT
  rw [List.length_map]
  have : sg.cps.toList.length = sg.length := by simp [Str.length]
  omega
def codeT : T → Nat
  | .str z => z.cps.toList.headD 0
  | _ => 0

theorem x_iteT {b : Bool} {p q : Prop} (e : b = true) (h : p) : if b = true then p else q := by rw [if_pos e]; exact h
theorem eqvAll_nil : ∀ ds : List PyData, PyData.eqvAll ds [] = ds.isEmpty
  | [] => rfl
  | _ :: _ => rfl
theorem x_eqU {G : Gp} {n : Nat} {ts : List T} {d : PyData} {R : KT} (h : Nd G n (.tup ts) d) (hn : n ≤ 60) (k : R (.bl ts.isEmpty) G) : oEq (.tup ts) (.tup []) G R := by
  refine ⟨d, .tuple [], h.dt, .tup .nil, h.shaped (by omega), rfl, ?_⟩
  cases h with
  | tup a b c =>
    rename_i m ds
    have e : PyData.eqv (.tuple ds) (.tuple []) = ts.isEmpty := by
      show PyData.eqvAll ds [] = _
      rw [eqvAll_nil]
      cases ds with
      | nil => cases ts with
        | nil => rfl
        | cons _ _ => simp at b
      | cons _ _ => cases ts with
        | nil => simp at b
        | cons _ _ => rfl
    rw [e]
    exact k
theorem x_eqW {G : Gp} {n : Nat} {w v : Str} {d : PyData} {R : KT} (h : Nd G n (.str w) d) (hv : SeqAt.shaped (.str v) = true) (k : R (.bl (decide (w = v))) G) : oEq (.str w) (.str v) G R := by
  have hs : SeqAt.shaped (.str w) = true := by
    cases h with
    | str a b => exact Bool.and_eq_true_iff.mpr ⟨b, rfl⟩
  refine x_eqS hs hv ?_
  have e : PyData.eqv (.str w) (.str v) = decide (w = v) := by
    show (w == v) = _
    by_cases q : w = v
    · rw [decide_eq_true q, q]; exact beq_self_eq_true v
    · rw [decide_eq_false q]; exact beq_eq_false_iff_ne.mpr q
  rw [e]
  exact k
def beqS (a b : Str) : (a == b) = decide (b = a) := by
  by_cases q : b = a
  · rw [decide_eq_true q, q]; exact beq_self_eq_true a
  · rw [decide_eq_false q]; exact beq_eq_false_iff_ne.mpr (Ne.symm q)
theorem x_inS2 {z w1 w2 : Str} {G : Gp} {R : KT} (h : R (.bl (decide (z = w1) || decide (z = w2))) G) : oInA false (.str z) (.tup [.str w1, .str w2]) G R := by
  refine .inl ⟨_, .inl rfl, rfl, rfl, ?_⟩
  have e2 : ([T.str w1, .str w2].any fun y => y.eqf (.str z)) = (decide (z = w1) || decide (z = w2)) := by
    simp only [List.any_cons, List.any_nil, Bool.or_false, T.eqf]
    rw [beqS, beqS]
  show R (.bl _) G
  rw [if_neg (by decide), e2]
  exact h
/-! ### terms, by the program -/
def atT (xs : List T) (t : T) : T := match t with
  | .int i => xs.getD i.toNat .non
  | _ => .non
def secT : T → T
  | .tup (_ :: x :: _) => x
  | _ => .non
def thirdT : T → T
  | .tup (_ :: _ :: x :: _) => x
  | _ => .non
def bindsP : T → Bool
  | .tup rs => rs.all fun y => isNm (secT y)
  | _ => false
def nonemp : T → Bool
  | .tup rs => !rs.isEmpty
  | _ => false
def recP : List T → Bool
  | [t] => rowsP 2 t
  | _ => false
def caseP : List T → Bool
  | [_, rs] => rowsP 3 rs && (nonemp rs && bindsP rs)
  | _ => false
def recQ : List T → List T
  | [.tup rs] => rs.map secT
  | _ => []
def caseQ : List T → List T
  | [t, .tup rs] => t :: rs.map thirdT
  | _ => []
theorem all_and {α : Type} (f g : α → Bool) : ∀ xs : List α, (xs.all fun x => f x && g x) = (xs.all f && xs.all g)
  | [] => rfl
  | x :: xs => by
    simp only [List.all_cons, all_and f g xs]
    cases f x <;> cases g x <;> simp
theorem row2 (one : T → Bool) (y : T) : rowOkL one 2 y = (rowOkP 2 y && one (secT y)) := by
  cases y with
  | tup xs =>
    match xs with
    | [a, b] => show (true && ((isNm a && true) && one b)) = ((true && isNm a) && one b); simp
    | [] => rfl
    | [_] => rfl
    | a :: b :: c :: r =>
      have e : decide ((((a :: b :: c :: r).length : Nat) : Int) = 2) = false := decide_eq_false (by simp only [List.length_cons]; omega)
      simp only [rowOkL, rowOkP, e, Bool.false_and]
  | _ => rfl
theorem row3 (one : T → Bool) (y : T) : rowOkL one 3 y = ((rowOkP 3 y && isNm (secT y)) && one (thirdT y)) := by
  cases y with
  | tup xs =>
    match xs with
    | [a, b, c] => show (true && ((isNm a && (isNm b && true)) && one c)) = (((true && isNm a) && isNm b) && one c); simp
    | [] => rfl
    | [_] => rfl
    | [_, _] => rfl
    | a :: b :: c :: d :: r =>
      have e : decide ((((a :: b :: c :: d :: r).length : Nat) : Int) = 3) = false := decide_eq_false (by simp only [List.length_cons]; omega)
      simp only [rowOkL, rowOkP, e, Bool.false_and]
  | _ => rfl
theorem rows2 (one : T → Bool) (rs : List T) : rowsL one 2 0 (.tup rs) = (rowsP 2 (.tup rs) && (rs.map secT).all one) := by
  show (decide ((0 : Int) ≤ (rs.length : Nat)) && (rs.all (rowOkL one 2) && asc (rs.map headT))) = ((rs.all (rowOkP 2) && asc (rs.map headT)) && (rs.map secT).all one)
  rw [decide_eq_true (by omega), all_congr (g := fun y => rowOkP 2 y && one (secT y)) fun y _ => row2 one y, all_and, List.all_map]
  cases rs.all (rowOkP 2) <;> cases asc (rs.map headT) <;> simp [Function.comp_def]
theorem rows3 (one : T → Bool) (rs : List T) : rowsL one 3 1 (.tup rs) = ((rowsP 3 (.tup rs) && (nonemp (.tup rs) && bindsP (.tup rs))) && (rs.map thirdT).all one) := by
  show (decide ((1 : Int) ≤ (rs.length : Nat)) && (rs.all (rowOkL one 3) && asc (rs.map headT))) = (((rs.all (rowOkP 3) && asc (rs.map headT)) && (!rs.isEmpty && rs.all fun y => isNm (secT y))) && (rs.map thirdT).all one)
  have e : decide ((1 : Int) ≤ (rs.length : Nat)) = !rs.isEmpty := by
    cases rs with
    | nil => rfl
    | cons x r => exact decide_eq_true (by simp only [List.length_cons]; omega)
  rw [e, all_congr (g := fun y => (rowOkP 3 y && isNm (secT y)) && one (thirdT y)) fun y _ => row3 one y, all_and (fun y => rowOkP 3 y && isNm (secT y)), all_and (rowOkP 3), List.all_map]
  cases rs.all (rowOkP 3) <;> cases asc (rs.map headT) <;> cases rs.isEmpty <;> cases (rs.all fun y => isNm (secT y)) <;> simp [Function.comp_def]
/-! the table -/
def pos (c : Nat) : Nat → List Nat → List T
  | _, [] => []
  | i, d :: ds => if d = c then .int (i : Nat) :: pos c (i + 1) ds else pos c (i + 1) ds
theorem pos_in {c : Nat} : ∀ {cs : List Nat} {i : Nat} {t : T}, t ∈ pos c i cs → ∃ j : Nat, t = .int (j : Nat) ∧ i ≤ j ∧ j < i + cs.length
  | [], _, _, h => by cases h
  | d :: ds, i, t, h => by
    unfold pos at h
    by_cases e : d = c
    · rw [if_pos e] at h
      rcases List.mem_cons.mp h with q | q
      · exact ⟨i, q, Nat.le_refl _, by rw [List.length_cons]; omega⟩
      · obtain ⟨j, a, b, z⟩ := pos_in q
        exact ⟨j, a, by omega, by rw [List.length_cons]; omega⟩
    · rw [if_neg e] at h
      obtain ⟨j, a, b, z⟩ := pos_in h
      exact ⟨j, a, by omega, by rw [List.length_cons]; omega⟩
theorem lkT_mem : ∀ {kvs : List (Str × T)} {z : Str} {t : T}, lkT kvs z = some t → ∃ p ∈ kvs, p.1 = z ∧ p.2 = t
  | [], _, _, h => by cases h
  | (k, u) :: r, z, t, h => by
    unfold lkT at h
    by_cases e : k = z
    · rw [if_pos e] at h; cases h
      exact ⟨(k, u), by simp, e, rfl⟩
    · rw [if_neg e] at h
      obtain ⟨p, a, b, c⟩ := lkT_mem h
      exact ⟨p, List.mem_cons_of_mem _ a, b, c⟩
theorem pos_all (one : T → Bool) : ∀ (cs : List Nat) (rest pre : List T), rest.length = cs.length → (∀ c ∈ cs, c = 116 ∨ c = 120) →
    (List.zipWith (bySort one) cs rest).all id = ((pos 120 pre.length cs).all (fun t => isNm (atT (pre ++ rest) t)) && ((pos 116 pre.length cs).map (atT (pre ++ rest))).all one)
  | [], rest, pre, h, _ => by simp [pos]
  | c :: cs, [], pre, h, _ => by simp at h
  | c :: cs, t :: rest, pre, h, hc => by
    have ih := pos_all one cs rest (pre ++ [t]) (by simpa using h) fun d hd => hc d (List.mem_cons_of_mem _ hd)
    rw [List.length_append, List.length_singleton, List.append_assoc, List.singleton_append] at ih
    have ea : atT (pre ++ t :: rest) (.int ((pre.length : Nat) : Int)) = t := by
      show (pre ++ t :: rest).getD ((pre.length : Nat) : Int).toNat .non = t
      rw [Int.toNat_natCast]
      simp [List.getD]
    rw [List.zipWith_cons_cons, List.all_cons, ih]
    rcases hc c (by simp) with rfl | rfl
    · have e1 : pos 120 pre.length (116 :: cs) = pos 120 (pre.length + 1) cs := by
        show (if 116 = 120 then _ else _) = _
        rw [if_neg (by decide)]
      have e2 : pos 116 pre.length (116 :: cs) = .int ((pre.length : Nat) : Int) :: pos 116 (pre.length + 1) cs := by
        show (if 116 = 116 then _ else _) = _
        rw [if_pos rfl]
      rw [e1, e2, List.map_cons, List.all_cons, ea]
      have e3 : bySort one 116 t = one t := if_pos rfl
      rw [e3]
      show (one t && _) = _
      cases one t <;> simp
    · have e1 : pos 120 pre.length (120 :: cs) = .int ((pre.length : Nat) : Int) :: pos 120 (pre.length + 1) cs := by
        show (if 120 = 120 then _ else _) = _
        rw [if_pos rfl]
      have e2 : pos 116 pre.length (120 :: cs) = pos 116 (pre.length + 1) cs := by
        show (if 120 = 116 then _ else _) = _
        rw [if_neg (by decide)]
      rw [e1, e2, List.all_cons, ea]
      have e3 : bySort one 120 t = isNm t := if_neg (by decide)
      rw [e3]
      show (isNm t && _) = _
      cases isNm t <;> simp
/-! ### the program's look at one term -/
theorem x_knin {kvs : List (Str × T)} {ma : ME} {r : Mi.Env} {G : Gp} {R : KT} (h : ma r G fun t G1 => ∃ z, t = .str z ∧ R (.bl (!(lkT kvs z).isSome)) G1) : mKIn true kvs ma r G R := h
theorem x_kix {kvs : List (Str × T)} {me : ME} {r : Mi.Env} {G : Gp} {R : KT} (h : me r G fun t G1 => ∃ z u, t = .str z ∧ lkT kvs z = some u ∧ R u G1) : mKIx kvs me r G R := h
theorem x_iksrc {kvs : List (Str × List T)} {me : ME} {r : Mi.Env} {G : Gp} {N : MIt → Gp → Prop} (h : me r G fun t G1 => ∃ z ts, t = .str z ∧ lkL kvs z = some ts ∧ N ⟨ts, []⟩ G1) : miKSrc kvs me r G N := h
/-- a comprehension over one source, each item by a function -/
theorem comp_ok {r : Mi.Env} {G : Gp} {i : Nat} {wi : MI} {te : ME} {ts : List T} {f : T → T} {R : KT} (hl : ts.length ≤ 1000)
    (src : ∀ N : MIt → Gp → Prop, (∀ held G1, Ext G G1 → (∀ G', Ext G1 G' → Held G' held) → N ⟨ts, held⟩ G1) → wi r G N)
    (step : ∀ (t : T) (G1 : Gp) (K : KT), t ∈ ts → Ext G G1 → (∀ G', Ext G1 G' → K (f t) G') → te ((wipeT r [i]).set i (some t)) G1 K)
    (hR : ∀ D G', G D = none → G' D = some (.lst (ts.map f)) → Ext G G' → R (.ref D) G') : mLc wi (mgName i) mtYes te [i] r G R := by
  refine x_lc (src _ fun held G1 f1 hh D hD => ?_)
  refine ⟨fun j G' => G' D = some (.lst ((ts.take j).map f)) ∧ Ext G1 G', ⟨put_same, Ext.new hD⟩, fun j G' ⟨_, w2⟩ => hh G' w2, ?_, ?_⟩
  · intro j t G' ht ⟨w1, w2⟩
    refine x_gname (x_yes ?_)
    rw [if_pos rfl]
    refine step t G' _ (List.mem_of_getElem? ht) (f1.trans w2) fun G2 f2 => ⟨_, f2 _ _ w1, ?_, fwdG.of ⟨?_, Ext.grow hD (w2.trans f2)⟩⟩
    · rw [List.length_map, List.length_take]
      have := sizeLine_eq
      omega
    · rw [put_same]
      have e : ts[j]? = some t := ht
      rw [List.take_succ, e, List.map_append]
      rfl
  · intro G' ⟨w1, w2⟩
    have w1' : G' D = some (.lst ((ts.take ts.length).map f)) := w1
    rw [List.take_length] at w1'
    exact hR D G' (f1.none hD) w1' (f1.trans w2)
theorem src_var {r : Mi.Env} {G : Gp} {m : ME} {ts : List T} (h : ∀ K : KT, (∀ s G1, Ext G G1 → srcT G1 s ts → K s G1) → m r G K) :
    ∀ N : MIt → Gp → Prop, (∀ held G1, Ext G G1 → (∀ G', Ext G1 G' → Held G' held) → N ⟨ts, held⟩ G1) → miSeq m r G N := fun N k =>
  x_iseq (h _ fun s G1 f1 h1 => ⟨ts, h1, k _ G1 f1 fun G' f2 => srcT.held (Lw.srcT.ext f2 h1)⟩)
def isIntT : T → Bool
  | .int _ => true
  | _ => false
/-- rows of so many things -/
theorem rowsP_rows {w : Int} {t : T} (h : rowsP w t = true) : ∃ rs, t = .tup rs ∧ ∀ y ∈ rs, ∃ xs, y = .tup xs ∧ ((xs.length : Nat) : Int) = w := by
  cases t with
  | tup rs =>
    refine ⟨rs, rfl, fun y hy => ?_⟩
    have q : (rs.all (rowOkP w) && asc (rs.map headT)) = true := h
    rw [Bool.and_eq_true] at q
    have q2 := List.all_eq_true.mp q.1 y hy
    cases y with
    | tup xs =>
      have q3 : (decide ((xs.length : Nat) = w) && isNm (headT (.tup xs))) = true := q2
      rw [Bool.and_eq_true] at q3
      exact ⟨xs, rfl, of_decide_eq_true q3.1⟩
    | _ => cases q2
  | _ => cases h
theorem len3 {xs : List T} (h : ((xs.length : Nat) : Int) = 3) : ∃ a b c, xs = [a, b, c] := by
  match xs, h with
  | [a, b, c], _ => exact ⟨a, b, c, rfl⟩
  | [], h | [_], h | [_, _], h => simp at h
  | _ :: _ :: _ :: _ :: _, h => simp at h; omega
theorem len2 {xs : List T} (h : ((xs.length : Nat) : Int) = 2) : ∃ a b, xs = [a, b] := by
  match xs, h with
  | [a, b], _ => exact ⟨a, b, rfl⟩
  | [], h | [_], h => simp at h
  | _ :: _ :: _ :: _, h => simp at h; omega
theorem atI_at {xs : List T} {j : Nat} (h : j < xs.length) : atI xs ((j : Nat) : Int) = some (atT xs (.int (j : Nat))) := by
  unfold atI ixN atT
  rw [if_pos (by omega), if_pos (by omega)]
  show xs[((j : Nat) : Int).toNat]? = _
  rw [Int.toNat_natCast, List.getElem?_eq_getElem h]
  simp [List.getD, h]
/-! ### the parts of a term, by the program -/
mutual
def szT : T → Nat
  | .tup ts => 1 + szL ts
  | _ => 1
def szL : List T → Nat
  | [] => 0
  | t :: ts => szT t + szL ts
end
theorem szT_tup (ts : List T) : szT (.tup ts) = 1 + szL ts := by rw [szT]
theorem szL_nil : szL [] = 0 := by rw [szL]
theorem szL_cons (t : T) (ts : List T) : szL (t :: ts) = szT t + szL ts := by rw [szL]
theorem szT_pos (t : T) : 1 ≤ szT t := by
  cases t <;> simp only [szT] <;> omega
theorem szL_app : ∀ xs ys : List T, szL (xs ++ ys) = szL xs + szL ys
  | [], ys => by rw [List.nil_append, szL_nil]; omega
  | x :: xs, ys => by rw [List.cons_append, szL_cons, szL_cons, szL_app xs ys]; omega
theorem szL_len : ∀ xs : List T, xs.length ≤ szL xs
  | [] => Nat.zero_le _
  | x :: xs => by
    have := szL_len xs
    have := szT_pos x
    rw [szL_cons, List.length_cons]
    omega
theorem szL_map {f : T → T} (h : ∀ t, szT (f t) ≤ szT t) : ∀ xs : List T, szL (xs.map f) ≤ szL xs
  | [] => Nat.le_refl _
  | x :: xs => by
    have := szL_map h xs
    have := h x
    rw [List.map_cons, szL_cons, szL_cons]
    omega
theorem sz_sec (t : T) : szT (secT t) ≤ szT t := by
  cases t with
  | tup xs =>
    match xs with
    | [] => exact Nat.le_refl _
    | [a] => show szT .non ≤ _; have := szT_pos (.tup [a]); simpa only [szT] using this
    | a :: b :: r =>
      show szT b ≤ _
      rw [szT_tup, szL_cons, szL_cons]
      omega
  | _ => simp only [secT, szT]; omega
theorem sz_third (t : T) : szT (thirdT t) ≤ szT t := by
  cases t with
  | tup xs =>
    match xs with
    | [] => exact Nat.le_refl _
    | [a] => show szT .non ≤ _; have := szT_pos (.tup [a]); simpa only [szT] using this
    | [a, b] => show szT .non ≤ _; have := szT_pos (.tup [a, b]); simpa only [szT] using this
    | a :: b :: c :: r =>
      show szT c ≤ _
      rw [szT_tup, szL_cons, szL_cons, szL_cons]
      omega
  | _ => simp only [thirdT, szT]; omega
theorem pos_sz (c : Nat) : ∀ (cs : List Nat) (rest pre : List T), rest.length = cs.length → szL ((pos c pre.length cs).map (atT (pre ++ rest))) ≤ szL rest
  | [], rest, pre, _ => by
    show szL [] ≤ _
    rw [szL_nil]
    omega
  | d :: cs, [], pre, h => by simp at h
  | d :: cs, t :: rest, pre, h => by
    have ih := pos_sz c cs rest (pre ++ [t]) (by simpa using h)
    rw [List.length_append, List.length_singleton, List.append_assoc, List.singleton_append] at ih
    have ea : atT (pre ++ t :: rest) (.int ((pre.length : Nat) : Int)) = t := by
      show (pre ++ t :: rest).getD ((pre.length : Nat) : Int).toNat .non = t
      rw [Int.toNat_natCast]
      simp [List.getD]
    rw [szL_cons]
    unfold pos
    split
    · rw [List.map_cons, szL_cons, ea]
      omega
    · omega
theorem at_mem {xs : List T} {j : Nat} (h : j < xs.length) : atT xs (.int (j : Nat)) ∈ xs := by
  show xs.getD ((j : Nat) : Int).toNat .non ∈ _
  rw [Int.toNat_natCast]
  simp only [List.getD, List.getElem?_eq_getElem h, Option.getD_some]
  exact List.getElem_mem h
theorem x_addL {a b : Addr} {xs ys : List T} {G : Gp} {R : KT} (e1 : G a = some (.lst xs)) (e2 : G b = some (.lst ys)) (l : xs.length + ys.length ≤ sizeLine) (h : ∀ p, G p = none → R (.ref p) (Mi.put G p (.lst (xs ++ ys)))) : oAdd (.ref a) (.ref b) G R := ⟨xs, ys, e1, e2, l, h⟩
/-! ### the program's look at a thing -/
theorem x_while {t : MT} {s : MS} {M : MEnds} {r : Mi.Env} {G : Gp} (W : Nat → Mi.Env → Gp → Prop) (h0 : ∃ n, W n r G) (h : ∀ n r G, W n r G → t r G fun c G1 =>
  if c = true then s { M with nx := fwd fun r' G' => ∃ n', n' < n ∧ W n' r' G', ct := fwd fun r' G' => ∃ n', n' < n ∧ W n' r' G', bk := M.nx } r G1 else M.nx r G1) : msWhile t s M r G := ⟨W, h0, h⟩
theorem x_pop {a : Addr} {xs : List T} {u : T} {G : Gp} {R : KT} (e : G a = some (.lst (xs ++ [u]))) (h : R u (Mi.put G a (.lst xs))) : omPop (.ref a) [] G R := ⟨a, xs, u, rfl, rfl, e, h⟩
theorem x_extend {a b : Addr} {xs ys : List T} {G : Gp} {R : KT} (e : G a = some (.lst xs)) (e2 : G b = some (.lst ys)) (l : xs.length + ys.length ≤ sizeLine) (h : R .non (Mi.put G a (.lst (xs ++ ys)))) : omExtendS (.ref a) [.ref b] G R := .inl ⟨a, b, xs, ys, rfl, rfl, e, e2, l, h⟩
theorem x_extT {a : Addr} {xs ys : List T} {G : Gp} {R : KT} (e : G a = some (.lst xs)) (l : xs.length + ys.length ≤ sizeLine) (h : R .non (Mi.put G a (.lst (xs ++ ys)))) : omExtendS (.ref a) [.tup ys] G R := .inr ⟨a, xs, ys, rfl, rfl, e, l, h⟩
theorem tru_lst {a : Addr} {ts : List T} {G : Gp} (e : G a = some (.lst ts)) : truT G (.ref a) (!ts.isEmpty) := .inl ⟨ts, e, rfl⟩
/-! ### data beside the box, with bounds -/
def Asc (z : Str) : Prop := ∀ c ∈ z.cps.toList, c < 128
/-- all stays but what is in S -/
def FrS (S : Addr → Prop) (G G' : Gp) : Prop := ∀ b c, ¬ S b → G b = some c → G' b = some c
theorem Fr.toS {S : Addr → Prop} {a : Addr} {G G' : Gp} (h : S a) (f : Fr a G G') : FrS S G G' := fun b c n e => f b c (fun z => n (by rw [z]; exact h)) e
theorem FrS.trans {S : Addr → Prop} {A B D : Gp} (h : FrS S A B) (k : FrS S B D) : FrS S A D := fun b c n e => k b c n (h b c n e)
theorem FrS.put {S : Addr → Prop} {G : Gp} {p : Addr} {c : C} (h : S p) : FrS S G (Mi.put G p c) := fun b d n e => by rw [put_ne (fun z => n (by rw [z]; exact h))]; exact e
inductive Da (S : Addr → Prop) (G : Gp) (L : Nat) : Nat → T → PyData → Prop
  | non {n : Nat} : Da S G L n .non .none
  | bl {n : Nat} {b : Bool} : Da S G L n (.bl b) (.bool b)
  | int {n : Nat} {i : Int} : i.natAbs ≤ 1000000 + L → Da S G L n (.int i) (.int i)
  | str {n : Nat} {z : Str} : z.length ≤ 20 + L → Asc z → Da S G L n (.str z) (.str z)
  | tup {n : Nat} {ts : List T} {ds : List PyData} : ts.length ≤ 40 + 2 * L → ds.length = ts.length → (∀ (i : Nat) (t : T) (d : PyData), ts[i]? = some t → ds[i]? = some d → Da S G L n t d) → Da S G L (n + 1) (.tup ts) (.tuple ds)
  | lst {n : Nat} {p : Addr} {ts : List T} {ds : List PyData} : ¬ S p → G p = some (.lst ts) → ts.length ≤ 40 + 2 * L → ds.length = ts.length → (∀ (i : Nat) (t : T) (d : PyData), ts[i]? = some t → ds[i]? = some d → Da S G L n t d) → Da S G L (n + 1) (.ref p) (.list ds)
section
variable {S : Addr → Prop} {G G' : Gp} {L n : Nat} {t : T} {d : PyData}
theorem Asc.ok {z : Str} (h : Asc z) : PyData.strOk z = true := by
  unfold PyData.strOk
  rw [Array.all_eq_true']
  intro c hc
  have := h c (by simpa using hc)
  exact decide_eq_true (by omega)
theorem Wd.asc {z : Str} (h : Wd z) : Asc z := fun c hc => by have := h.2.2 c hc; omega
theorem Da.nd (h : Da S G L n t d) (hL : L ≤ 10) : Nd G n t d := by
  induction h with
  | non => exact .non
  | bl => exact .bl
  | int b => exact .int (by omega)
  | str b c => exact .str (by omega) c.ok
  | tup b c _ i => exact .tup (by omega) c i
  | lst _ e b c _ i => exact .lst e (by omega) c i
theorem Da.fr (h : Da S G L n t d) (f : FrS S G G') : Da S G' L n t d := by
  induction h with
  | non => exact .non
  | bl => exact .bl
  | int b => exact .int b
  | str b c => exact .str b c
  | tup b c _ i => exact .tup b c i
  | lst ne e b c _ i => exact .lst ne (f _ _ ne e) b c i
theorem Da.le (h : Da S G L n t d) : ∀ {m M : Nat}, n ≤ m → L ≤ M → Da S G M m t d := by
  induction h with
  | non => intro m M _ _; exact .non
  | bl => intro m M _ _; exact .bl
  | int b => intro m M _ l; exact .int (by omega)
  | str b c => intro m M _ l; exact .str (by omega) c
  | tup b c _ i => intro m M l l2; obtain ⟨m, rfl⟩ : ∃ m', m = m' + 1 := ⟨m - 1, by omega⟩; exact .tup (by omega) c fun j t d e1 e2 => i j t d e1 e2 (by omega) l2
  | lst ne e b c _ i => intro m M l l2; obtain ⟨m, rfl⟩ : ∃ m', m = m' + 1 := ⟨m - 1, by omega⟩; exact .lst ne e (by omega) c fun j t d e1 e2 => i j t d e1 e2 (by omega) l2
end
/-! rows of such -/
inductive DaL (S : Addr → Prop) (G : Gp) (L n : Nat) : List T → List PyData → Prop
  | nil : DaL S G L n [] []
  | cons {t : T} {d : PyData} {ts : List T} {ds : List PyData} : Da S G L n t d → DaL S G L n ts ds → DaL S G L n (t :: ts) (d :: ds)
section
variable {S : Addr → Prop} {G G' : Gp} {L n : Nat} {ts us : List T} {ds es : List PyData}
theorem DaL.of : ∀ {ts : List T} {ds : List PyData}, ds.length = ts.length → (∀ (i : Nat) (t : T) (d : PyData), ts[i]? = some t → ds[i]? = some d → Da S G L n t d) → DaL S G L n ts ds
  | [], [], _, _ => .nil
  | t :: ts, d :: ds, h, k => .cons (k 0 t d rfl rfl) (DaL.of (by simpa using h) fun i t d a b => k (i + 1) t d (by simpa using a) (by simpa using b))
  | [], _ :: _, h, _ => by simp at h
  | _ :: _, [], h, _ => by simp at h
theorem DaL.len (h : DaL S G L n ts ds) : ds.length = ts.length := by
  induction h with
  | nil => rfl
  | cons _ _ i => rw [List.length_cons, List.length_cons, i]
theorem DaL.get (h : DaL S G L n ts ds) : ∀ (i : Nat) (t : T) (d : PyData), ts[i]? = some t → ds[i]? = some d → Da S G L n t d := by
  induction h with
  | nil => intro i t d e; simp at e
  | cons b _ ih =>
    intro i t d e1 e2
    cases i with
    | zero => simp at e1 e2; subst e1; subst e2; exact b
    | succ i => exact ih i t d (by simpa using e1) (by simpa using e2)
theorem DaL.app (h : DaL S G L n ts ds) (k : DaL S G L n us es) : DaL S G L n (ts ++ us) (ds ++ es) := by
  induction h with
  | nil => exact k
  | cons b _ ih => exact .cons b ih
theorem DaL.take (h : DaL S G L n ts ds) : ∀ i : Nat, DaL S G L n (ts.take i) (ds.take i) := by
  induction h with
  | nil => intro i; simp; exact .nil
  | cons b _ ih =>
    intro i
    cases i with
    | zero => exact .nil
    | succ i => exact .cons b (ih i)
theorem DaL.drop (h : DaL S G L n ts ds) : ∀ i : Nat, DaL S G L n (ts.drop i) (ds.drop i) := by
  induction h with
  | nil => intro i; simp; exact .nil
  | cons b c ih =>
    intro i
    cases i with
    | zero => exact .cons b c
    | succ i => exact ih i
theorem DaL.rev (h : DaL S G L n ts ds) : DaL S G L n ts.reverse ds.reverse := by
  induction h with
  | nil => exact .nil
  | cons b _ ih => rw [List.reverse_cons, List.reverse_cons]; exact ih.app (.cons b .nil)
theorem DaL.set {t : T} {d : PyData} (h : DaL S G L n ts ds) (k : Da S G L n t d) : ∀ i : Nat, DaL S G L n (ts.set i t) (ds.set i d) := by
  induction h with
  | nil => intro i; simp; exact .nil
  | cons b c ih =>
    intro i
    cases i with
    | zero => exact .cons k c
    | succ i => exact .cons b (ih i)
theorem DaL.fr (h : DaL S G L n ts ds) (f : FrS S G G') : DaL S G' L n ts ds := by
  induction h with
  | nil => exact .nil
  | cons b _ ih => exact .cons (b.fr f) ih
theorem DaL.le {m M : Nat} (h : DaL S G L n ts ds) (l : n ≤ m) (l2 : L ≤ M) : DaL S G M m ts ds := by
  induction h with
  | nil => exact .nil
  | cons b _ ih => exact .cons (b.le l l2) ih
theorem DaL.mem {t : T} (h : DaL S G L n ts ds) (ht : t ∈ ts) : ∃ d ∈ ds, Da S G L n t d := by
  induction h with
  | nil => cases ht
  | cons b _ ih =>
    rcases List.mem_cons.mp ht with rfl | q
    · exact ⟨_, by simp, b⟩
    · obtain ⟨d, q1, q2⟩ := ih q
      exact ⟨d, List.mem_cons_of_mem _ q1, q2⟩
theorem DaL.tup (h : DaL S G L n ts ds) (l : ts.length ≤ 40 + 2 * L) : Da S G L (n + 1) (.tup ts) (.tuple ds) := .tup l h.len h.get
theorem DaL.lst {p : Addr} (h : DaL S G L n ts ds) (l : ts.length ≤ 40 + 2 * L) (ne : ¬ S p) (e : G p = some (.lst ts)) : Da S G L (n + 1) (.ref p) (.list ds) := .lst ne e l h.len h.get
end
/-! how long its text is, at most -/
mutual
def wtD : PyData → Nat
  | .none => 5
  | .bool _ => 5
  | .int _ => 12
  | .str z => 10 * z.length + 2
  | .list xs => 3 + wtA xs
  | .tuple xs => 3 + wtA xs
  | .dict _ => 0
def wtA : List PyData → Nat
  | [] => 0
  | d :: ds => wtD d + 2 + wtA ds
end
theorem wtA_nil : wtA [] = 0 := by rw [wtA]
theorem wtA_cons (d : PyData) (ds : List PyData) : wtA (d :: ds) = wtD d + 2 + wtA ds := by rw [wtA]
theorem wt_tup (ds : List PyData) : wtD (.tuple ds) = 3 + wtA ds := by rw [wtD]
theorem wt_lst (ds : List PyData) : wtD (.list ds) = 3 + wtA ds := by rw [wtD]
theorem wt_int (i : Int) : wtD (.int i) = 12 := by rw [wtD]
theorem wt_str (z : Str) : wtD (.str z) = 10 * z.length + 2 := by rw [wtD]
theorem wt_non : wtD .none = 5 := by rw [wtD]
theorem wt_bl (b : Bool) : wtD (.bool b) = 5 := by rw [wtD]
theorem wtA_app : ∀ xs ys : List PyData, wtA (xs ++ ys) = wtA xs + wtA ys
  | [], ys => by rw [List.nil_append, wtA_nil, Nat.zero_add]
  | x :: xs, ys => by rw [List.cons_append, wtA_cons, wtA_cons, wtA_app xs ys]; omega
theorem wtA_rev : ∀ xs : List PyData, wtA xs.reverse = wtA xs
  | [] => rfl
  | x :: xs => by rw [List.reverse_cons, wtA_app, wtA_rev xs, wtA_cons, wtA_cons, wtA_nil]; omega
theorem wtA_cut (i : Nat) (xs : List PyData) : wtA (xs.take i) + wtA (xs.drop i) = wtA xs := by
  rw [← wtA_app, List.take_append_drop]
theorem wtA_set : ∀ (xs : List PyData) (i : Nat) (d e : PyData), xs[i]? = some e → wtA (xs.set i d) + wtD e = wtA xs + wtD d
  | [], i, d, e, h => by simp at h
  | x :: xs, 0, d, e, h => by
    simp at h; subst h
    rw [List.set_cons_zero, wtA_cons, wtA_cons]; omega
  | x :: xs, i + 1, d, e, h => by
    have := wtA_set xs i d e (by simpa using h)
    rw [List.set_cons_succ, wtA_cons, wtA_cons]; omega
theorem wtA_mem : ∀ {xs : List PyData} {d : PyData}, d ∈ xs → wtD d + 2 ≤ wtA xs
  | x :: xs, d, h => by
    rw [wtA_cons]
    rcases List.mem_cons.mp h with rfl | q
    · omega
    · have := wtA_mem q
      omega
theorem int_text {i : Int} (h : i.natAbs < 10000000) : (Str.ofString (toString i)).length ≤ 8 := by
  rw [ofString_length]
  exact int_text_length_le10 (k := 7) (by decide) h
theorem tup_text (ts : List Str) : (tupleText ts).length ≤ 3 + piled ts := by
  unfold tupleText
  rw [strLen_append, strLen_append]
  have e1 : ((("(" : String) : Str)).length = 1 := rfl
  have e2 : ((if ts.length == 1 then ",)" else ")" : String) : Str).length ≤ 2 := by split <;> decide
  cases ts with
  | nil =>
    have e3 : (Str.join ", " ([] : List Str)).length = 0 := rfl
    omega
  | cons t r =>
    have := join_length_add (t :: r) (by simp)
    omega
theorem lst_text (ts : List Str) : (listText ts).length ≤ 3 + piled ts := by
  unfold listText
  rw [strLen_append]
  cases ts with
  | nil => show _ ≤ 3 + piled []; decide
  | cons t r =>
    have h := textFrom_length_pos r 1 (("[" : Str) ++ (if (0 : Nat) > 0 then ", " else "" : String) ++ t) (Nat.succ_pos 0)
    have e1 : (textFrom 0 "[" (t :: r)) = textFrom 1 (("[" : Str) ++ (if (0 : Nat) > 0 then ", " else "" : String) ++ t) r := rfl
    rw [e1, h, piled_cons, strLen_append, strLen_append]
    have e2 : (("[" : String) : Str).length = 1 := rfl
    have e3 : ((if (0 : Nat) > 0 then ", " else "" : String) : Str).length = 0 := rfl
    have e4 : (("]" : String) : Str).length = 1 := rfl
    omega
theorem Da.text {S : Addr → Prop} {G : Gp} {L n : Nat} {t : T} {d : PyData} (h : Da S G L n t d) (hL : L ≤ 10) : d.shown.length ≤ wtD d := by
  have all : ∀ {ts : List T} {ds : List PyData}, ds.length = ts.length → (∀ (i : Nat) (t : T) (d : PyData), ts[i]? = some t → ds[i]? = some d → d.shown.length ≤ wtD d) → piled (PyData.shownAll ds) ≤ wtA ds := by
    intro ts ds
    induction ds generalizing ts with
    | nil => intro _ _; simp [PyData.shownAll, piled_nil]
    | cons d ds ih =>
      intro hl hk
      cases ts with
      | nil => simp at hl
      | cons t ts =>
        have := ih (ts := ts) (by simpa using hl) fun i t d a b => hk (i + 1) t d (by simpa using a) (by simpa using b)
        have := hk 0 t d rfl rfl
        rw [wtA_cons, PyData.shownAll, piled_cons]
        omega
  induction h with
  | non => rw [wt_non, PyData.shown]; decide
  | bl => rename_i b; rw [wt_bl, PyData.shown]; cases b <;> decide
  | int b =>
    rename_i i
    rw [wt_int, PyData.shown]
    have := int_text (i := i) (by omega)
    omega
  | str b c => rw [wt_str, PyData.shown]; exact StrLaws.reprText_len _ fun d hd => by have := c d hd; omega
  | tup b c _ i =>
    rw [wt_tup, PyData.shown]
    have := all c i
    have := tup_text (PyData.shownAll ‹List PyData›)
    omega
  | lst _ e b c _ i =>
    rw [wt_lst, PyData.shown]
    have := all c i
    have := lst_text (PyData.shownAll ‹List PyData›)
    omega
theorem Da.sz {S : Addr → Prop} {G : Gp} {L n : Nat} {t : T} {d : PyData} (h : Da S G L n t d) : szT t ≤ wtD d := by
  have all : ∀ {ts : List T} {ds : List PyData}, ds.length = ts.length → (∀ (i : Nat) (t : T) (d : PyData), ts[i]? = some t → ds[i]? = some d → szT t ≤ wtD d) → szL ts ≤ wtA ds := by
    intro ts ds
    induction ds generalizing ts with
    | nil =>
      intro hl _
      cases ts with
      | nil => rw [szL_nil]; exact Nat.zero_le _
      | cons _ _ => simp at hl
    | cons d ds ih =>
      intro hl hk
      cases ts with
      | nil => simp at hl
      | cons t ts =>
        have := ih (ts := ts) (by simpa using hl) fun i t d a b => hk (i + 1) t d (by simpa using a) (by simpa using b)
        have := hk 0 t d rfl rfl
        rw [wtA_cons, szL_cons]
        omega
  induction h with
  | tup b c _ i => have := all c i; rw [szT_tup, wt_tup]; omega
  | lst _ e b c _ i => rw [wt_lst]; simp only [szT]; omega
  | non => rw [wt_non]; simp only [szT]; omega
  | bl => rw [wt_bl]; simp only [szT]; omega
  | int _ => rw [wt_int]; simp only [szT]; omega
  | str _ _ => rw [wt_str]; simp only [szT]; omega
/-- what is new isn't in it -/
theorem Da.more {S S' : Addr → Prop} {G : Gp} {L n : Nat} {t : T} {d : PyData} (h : Da S G L n t d) (k : ∀ p c, ¬ S p → G p = some c → ¬ S' p) : Da S' G L n t d := by
  induction h with
  | non => exact .non
  | bl => exact .bl
  | int b => exact .int b
  | str b c => exact .str b c
  | tup b c _ i => exact .tup b c i
  | lst ne e b c _ i => exact .lst (k _ _ ne e) e b c i
theorem DaL.more {S S' : Addr → Prop} {G : Gp} {L n : Nat} {ts : List T} {ds : List PyData} (h : DaL S G L n ts ds) (k : ∀ p c, ¬ S p → G p = some c → ¬ S' p) : DaL S' G L n ts ds := by
  induction h with
  | nil => exact .nil
  | cons b _ ih => exact .cons (b.more k) ih

/-! ### odd data -/
theorem upper_one : ∀ c < 128, ∃ e, Unicode.upperOf c = [e] ∧ e < 128 := by
  have h : (List.range 128).all (fun c => match Unicode.upperOf c with | [e] => decide (e < 128) | _ => false) = true := by decide +kernel
  intro c hc
  have := List.all_eq_true.mp h c (List.mem_range.mpr hc)
  split at this
  · rename_i e he; exact ⟨e, he, of_decide_eq_true this⟩
  · cases this
theorem upper_list : ∀ l : List Nat, (∀ c ∈ l, c < 128) → (l.map Unicode.upperOf).flatten.length = l.length ∧ ∀ c ∈ (l.map Unicode.upperOf).flatten, c < 128
  | [], _ => ⟨rfl, fun c h => by simp at h⟩
  | c :: l, h => by
    obtain ⟨e, he, hl⟩ := upper_one c (h c (by simp))
    obtain ⟨i1, i2⟩ := upper_list l fun d hd => h d (List.mem_cons_of_mem _ hd)
    rw [List.map_cons, he, List.flatten_cons]
    refine ⟨by simp [i1], fun d hd => ?_⟩
    rcases List.mem_append.mp hd with q | q
    · rw [List.mem_singleton.mp q]; exact hl
    · exact i2 d q
theorem upper_cps (z : Str) : (Txt.upper z).cps.toList = (z.cps.toList.map Unicode.upperOf).flatten := by
  unfold Txt.upper placed
  simp [Array.toList_flatten, List.mapIdx_eq_zipIdx_map, Function.comp_def]
  rw [show (fun x : Nat × Nat => Unicode.upperOf x.fst) = Unicode.upperOf ∘ Prod.fst from rfl, ← List.map_map, List.zipIdx_map_fst]
theorem upper_asc {z : Str} (h : Asc z) : Asc (Txt.upper z) ∧ (Txt.upper z).length = z.length := by
  obtain ⟨a, b⟩ := upper_list z.cps.toList h
  have e := upper_cps z
  refine ⟨fun c hc => b c (by rw [← e]; exact hc), ?_⟩
  show (Txt.upper z).cps.size = z.cps.size
  rw [← Array.length_toList, ← Array.length_toList, e, a]
theorem Asc.app {x y : Str} (h : Asc x) (k : Asc y) : Asc (x ++ y) := fun c hc => by
  rw [Str.cps_append, Array.toList_append] at hc
  rcases List.mem_append.mp hc with q | q
  · exact h c q
  · exact k c q
theorem len_app (x y : Str) : (x ++ y).length = x.length + y.length := strLen_append x y
/-- what may be told instead: some data of small weight -/
def Odd (S : Addr → Prop) (G : Gp) (L W : Nat) (t : T) : Prop := ∃ d, Da S G (L + 1) 3 t d ∧ wtD d ≤ W
theorem Odd.fr {S : Addr → Prop} {G G' : Gp} {L W : Nat} {t : T} (h : Odd S G L W t) (f : FrS S G G') : Odd S G' L W t := by
  obtain ⟨d, x, y⟩ := h
  exact ⟨d, x.fr f, y⟩
theorem Odd.str {S : Addr → Prop} {G : Gp} {L W : Nat} {z : Str} (h : z.length ≤ 20 + L + 1) (k : Asc z) (w : 10 * z.length + 2 ≤ W) : Odd S G L W (.str z) := ⟨_, .str h k, by rw [wt_str]; exact w⟩
theorem Odd.int {S : Addr → Prop} {G : Gp} {L W : Nat} {i : Int} (h : i.natAbs ≤ 1000000 + L + 1) (w : 12 ≤ W) : Odd S G L W (.int i) := ⟨_, .int h, by rw [wt_int]; exact w⟩
theorem Odd.of {S : Addr → Prop} {G : Gp} {L W : Nat} {t : T} {ts : List T} (h : t ∈ ts) (k : ∀ t ∈ ts, Odd S G L W t) : Odd S G L W t := k t h
/-! written data -/
mutual
def okT : Nat → T → Bool
  | _, .non => true
  | _, .bl _ => true
  | _, .int i => decide (i.natAbs ≤ 1000000)
  | _, .str z => decide (z.length ≤ 20) && z.cps.toList.all fun c => decide (c < 128)
  | n, .tup ts => decide (1 ≤ n) && (decide (ts.length ≤ 40) && okL (n - 1) ts)
  | _, _ => false
def okL : Nat → List T → Bool
  | _, [] => true
  | n, t :: ts => okT n t && okL n ts
end
mutual
def dOf : T → PyData
  | .non => .none
  | .bl b => .bool b
  | .int i => .int i
  | .str z => .str z
  | .tup ts => .tuple (dOfL ts)
  | _ => .none
def dOfL : List T → List PyData
  | [] => []
  | t :: ts => dOf t :: dOfL ts
end
mutual
theorem okT_da {S : Addr → Prop} {G : Gp} {L : Nat} : ∀ {n : Nat} {t : T}, okT n t = true → Da S G L n t (dOf t)
  | n, .non, _ => by simp only [dOf]; exact .non
  | n, .bl b, _ => by simp only [dOf]; exact .bl
  | n, .int i, h => by
    simp only [okT] at h
    have := of_decide_eq_true h
    simp only [dOf]
    exact .int (by omega)
  | n, .str z, h => by
    simp only [okT, Bool.and_eq_true] at h
    have h1 := of_decide_eq_true h.1
    simp only [dOf]
    exact .str (by omega) fun c hc => of_decide_eq_true (List.all_eq_true.mp h.2 c hc)
  | n, .tup ts, h => by
    simp only [okT, Bool.and_eq_true] at h
    have h1 := of_decide_eq_true h.1
    have h2 := of_decide_eq_true h.2.1
    obtain ⟨m, rfl⟩ : ∃ m, n = m + 1 := ⟨n - 1, by omega⟩
    have := okL_da (S := S) (G := G) (L := L) h.2.2
    simp only [dOf]
    exact DaL.tup (n := m) (by simpa using this) (by omega)
  | n, .ty _, h => by simp [okT] at h
  | n, .ref _, h => by simp [okT] at h
  | n, .cl _, h => by simp [okT] at h
theorem okL_da {S : Addr → Prop} {G : Gp} {L : Nat} : ∀ {n : Nat} {ts : List T}, okL n ts = true → DaL S G L n ts (dOfL ts)
  | n, [], _ => by simp only [dOfL]; exact .nil
  | n, t :: ts, h => by
    simp only [okL, Bool.and_eq_true] at h
    simp only [dOfL]
    exact .cons (okT_da h.1) (okL_da h.2)
end
theorem Odd.w {S : Addr → Prop} {G : Gp} {L W : Nat} {t : T} (h : okT 3 t = true) (w : wtD (dOf t) ≤ 300) (hW : 300 ≤ W) : Odd S G L W t := ⟨_, okT_da h, Nat.le_trans w hW⟩
def odd8 : List T := [.tup [.str "num", .bl true], .tup [.str "rec", .tup []], .tup [.str "case", .tup [.str "hole"], .tup []], .tup [.str "name"], .tup [.str "hole", .int 0], .tup [.str "rec"], .str "hole", .tup [.int 0]]
theorem x_strI {i : Int} {G : Gp} {R : KT} (h : i.natAbs.log2 < 1920) (k : R (.str (toString i)) G) : omStr [.int i] G R := .inl ⟨i, rfl, h, k⟩
theorem int_asc (v : Int) : Asc (Str.ofString (toString v)) := fun c hc => by
  rw [Str.ofString_eq_toList] at hc
  obtain ⟨e, he, rfl⟩ := List.mem_map.mp (show c ∈ (toString v).toList.map Char.toNat by simpa using hc)
  exact int_ascii v e he
theorem cutS_asc {z : Str} (lo hi : Option Int) (h : Asc z) : Asc (cutS z lo hi) ∧ (cutS z lo hi).length ≤ z.length := by
  refine ⟨fun c hc => h c (List.mem_of_mem_drop (List.mem_of_mem_take hc)), ?_⟩
  show (((z.cps.toList.drop (HT.sIx z.length 0 lo)).take (HT.sIx z.length z.length hi - HT.sIx z.length 0 lo)).toArray).size ≤ z.cps.size
  rw [List.size_toArray, List.length_take, List.length_drop, ← Array.length_toList]
  omega
theorem x_upper {z : Str} {G : Gp} {R : KT} (l : z.length ≤ 5592405) (h : R (.str (Txt.upper z)) G) : omUpper (.str z) [] G R := ⟨z, rfl, rfl, l, h⟩
theorem x_slZ {z : Str} {lo hi : Option Int} {G : Gp} {R : KT} (l : z.length ≤ sizeLine) (h : R (.str (cutS z lo hi)) G) : oSl (.str z) lo hi G R := .inr (.inr ⟨z, rfl, l, h⟩)
/-! ### slices -/
theorem cut_hi {α : Type} (xs : List α) {i : Int} (h : 0 ≤ i) : cutT xs none (some i) = xs.take i.toNat := by
  unfold cutT HT.sIx
  simp only [List.drop_zero, Nat.sub_zero]
  split
  · omega
  · by_cases hl : i.toNat ≤ xs.length
    · congr 1; omega
    · rw [List.take_of_length_le (by omega), List.take_of_length_le (by omega)]
theorem cut_lo {α : Type} (xs : List α) {i : Int} (h : 0 ≤ i) : cutT xs (some i) none = xs.drop i.toNat := by
  unfold cutT HT.sIx
  simp only []
  split
  · omega
  · by_cases hl : i.toNat ≤ xs.length
    · rw [List.take_of_length_le (by rw [List.length_drop]; omega)]
      congr 1; omega
    · rw [List.drop_of_length_le (by omega), List.drop_of_length_le (by omega)]
      simp
theorem sIx_nn {n d : Nat} {i : Int} (h : 0 ≤ i) : HT.sIx n d (some i) = min i.toNat n := by
  unfold HT.sIx
  simp only []
  rw [if_neg (by omega)]
theorem cut_mid {α : Type} (xs : List α) {i : Int} (j : Option Int) (h : 0 ≤ i) : ∃ y, cutT xs (some i) j = (xs.drop i.toNat).take y := by
  unfold cutT
  rw [sIx_nn h]
  by_cases hl : i.toNat ≤ xs.length
  · exact ⟨_, by rw [Nat.min_eq_left hl]⟩
  · refine ⟨0, ?_⟩
    rw [Nat.min_eq_right (by omega), List.drop_of_length_le (Nat.le_refl _)]
    simp
theorem cut_two {α : Type} (xs : List α) {i c : Int} (h : 0 ≤ i) (hc : 0 ≤ c) : (cutT xs (some i) (some (i + c))).length ≤ c.toNat := by
  unfold cutT
  rw [sIx_nn h, sIx_nn (by omega), List.length_take]
  omega
theorem wtA_take (i : Nat) (xs : List PyData) : wtA (xs.take i) ≤ wtA xs := by have := wtA_cut i xs; omega
theorem wtA_drop (i : Nat) (xs : List PyData) : wtA (xs.drop i) ≤ wtA xs := by have := wtA_cut i xs; omega
theorem wtA_gap {i j : Nat} (h : i ≤ j) (xs : List PyData) : wtA (xs.take i) + wtA (xs.drop j) ≤ wtA xs := by
  have a := wtA_cut i xs
  have b := wtA_drop (j - i) (xs.drop i)
  rw [List.drop_drop] at b
  rw [show i + (j - i) = j by omega] at b
  omega
section
variable {S : Addr → Prop} {G : Gp} {L n : Nat} {ts : List T} {ds : List PyData}
theorem DaL.mid (h : DaL S G L n ts ds) {i : Int} (j : Option Int) (hi : 0 ≤ i) : ∃ ds', DaL S G L n (cutT ts (some i) j) ds' ∧ wtA ds' ≤ wtA ds := by
  obtain ⟨y, e⟩ := cut_mid ts j hi
  rw [e]
  exact ⟨_, (h.drop i.toNat).take y, Nat.le_trans (wtA_take _ _) (wtA_drop _ _)⟩
end
theorem x_slA {p : Addr} {G : Gp} {ts : List T} {lo hi : Option Int} {R : KT} (e : G p = some (.lst ts)) (k : ∀ q, G q = none → R (.ref q) (Mi.put G q (.lst (cutT ts lo hi)))) : oSl (.ref p) lo hi G R := .inr (.inl ⟨ts, .inr ⟨p, rfl, e⟩, k⟩)
theorem x_slV {m : ME} {r : Mi.Env} {G : Gp} {R : Option Int → Gp → Prop} (k : m r G fun t G1 => ∃ i, t = .int i ∧ R (some i) G1) : moS m r G R := k
theorem x_isi2 {m : ME} {b c : String} {r : Mi.Env} {G : Gp} {R : KT} (h : m r G fun t G1 => ∃ a, knownTy b ∧ knownTy c ∧ tyN G1 t = some a ∧ R (.bl (isKind a b || isKind a c)) G1) : mIsi2 m b c r G R := h
theorem x_list {t : T} {us : List T} {G : Gp} {R : KT} (e : isSq G t us) (h : ∀ p, G p = none → R (.ref p) (Mi.put G p (.lst us))) : omList [t] G R := ⟨t, us, rfl, e, h⟩
theorem x_tuple {t : T} {us : List T} {G : Gp} {R : KT} (e : isSq G t us) (l : us.length ≤ sizeLine) (h : R (.tup us) G) : omTuple [t] G R := ⟨t, us, rfl, e, l, h⟩
theorem x_rev {m : ME} {r : Mi.Env} {G : Gp} {R : KT} (h : m r G fun t G1 => ∃ ts, isL G1 t ts ∧ ∀ p, G1 p = none → R (.ref p) (Mi.put G1 p (.lst ts.reverse))) : mRev m r G R := h
/-- what stands while lists are made -/
structure Hq (a p : Addr) (ts : List T) (M : Int) (G G' : Gp) : Prop where
  f : Fr a G G'
  b : Bx G' a M
  e : G' p = some (.lst ts)
theorem Hq.new {a p q : Addr} {ts : List T} {M : Int} {G G' : Gp} {c : C} (h : Hq a p ts M G G') (hq : G' q = none) : Hq a p ts M G (Mi.put G' q c) := ⟨h.f.trans (Fr.new hq), h.b.new hq, get_new hq h.e⟩
theorem Hq.fr {a p : Addr} {ts : List T} {M M' : Int} {G G' G2 : Gp} (h : Hq a p ts M G G') (f : Fr a G' G2) (b : Bx G2 a M') (n : p ≠ a) : Hq a p ts M' G G2 := ⟨h.f.trans f, b, f _ _ n h.e⟩
/-- a tuple or a list of data -/
theorem seq_of {S : Addr → Prop} {G : Gp} {L n : Nat} {t : T} {d : PyData} {nm : String} (h : Da S G L n t d) (ht : tyN G t = some nm) :
    (isKind nm "tuple" || isKind nm "list") = false ∨ ∃ ts ds n' b, n = n' + 1 ∧ isSq G t ts ∧ DaL S G L n' ts ds ∧ wtD d = 3 + wtA ds ∧ ts.length ≤ 40 + 2 * L ∧ (isKind nm "tuple" || isKind nm "list") = true ∧ isKind nm "tuple" = b ∧ ∀ G', FrS S G G' → tyN G' t = some nm := by
  cases h with
  | non => cases ht; exact .inl (by decide)
  | bl => cases ht; exact .inl (by decide)
  | int _ => cases ht; exact .inl (by decide)
  | str _ _ => cases ht; exact .inl (by decide)
  | tup b c e =>
    cases ht
    exact .inr ⟨_, _, _, true, rfl, .inl rfl, DaL.of c e, wt_tup _, b, by decide, by decide, fun _ _ => rfl⟩
  | lst ne e0 b c e =>
    have : nm = "list" := by simp only [tyN, e0] at ht; exact (Option.some.inj ht).symm
    subst this
    exact .inr ⟨_, _, _, false, rfl, .inr (.inr ⟨_, rfl, e0⟩), DaL.of c e, wt_lst _, b, by decide, by decide, fun G' f => by simp only [tyN, f _ _ ne e0]⟩
/-! lists that are made of a row -/
def MoOk (at_ : Int) (m : MO) (lo : Option Int) : Prop := ∀ (r : Mi.Env) (G : Gp) (R : Option Int → Gp → Prop), r[4]? = some (some (.int at_)) → R lo G → m r G R
theorem mo_none {at_ : Int} : MoOk at_ moN none := fun r G R _ h => x_slN h
theorem mo_at {at_ : Int} : MoOk at_ (moS (mVar 4)) (some at_) := fun r G R e h => x_slV (x_var e ⟨_, rfl, h⟩)
theorem mo_up {at_ c : Int} : MoOk at_ (moS (mOp oAdd (mVar 4) (mC (.int c)))) (some (at_ + c)) := fun r G R e h => x_slV (x_op (x_var e (x_c (x_add ⟨_, rfl, h⟩))))
def Gv (S : Addr → Prop) (a p5 : Addr) (ts : List T) (at_ : Int) (G : Gp) (L n : Nat) (m : ME) (c : Int) (len w : Nat) : Prop :=
  ∀ (r : Mi.Env) (G' : Gp) (M : Int) (K : KT), r[0]? = some (some (.ref a)) → r[4]? = some (some (.int at_)) → r[5]? = some (some (.ref p5)) → M + c + 10 < 1000000000 → Hq a p5 ts M G G' →
    (∀ q G2 us es, q ≠ a → ¬ S q → G q = none → Hq a p5 ts (M + c) G G2 → Fr a G' G2 → G2 q = some (.lst us) → DaL S G2 (L + 1) n us es → us.length ≤ len → wtA es ≤ w → K (.ref q) G2) → m r G' K
section
variable {S : Addr → Prop} {a p5 : Addr} {ts : List T} {at_ : Int} {G : Gp} {L n : Nat} {m m1 m2 : ME} {c c1 c2 : Int} {len l1 l2 w w1 w2 : Nat}
theorem gv_sl {lo hi : Option Int} {ml mh : MO} {es : List PyData} (hSa : S a) (hSd : ∀ s, S s → G s ≠ none) (hl : MoOk at_ ml lo) (hh : MoOk at_ mh hi) (d : DaL S G L n (cutT ts lo hi) es) (hw : wtA es ≤ w) (hlen : (cutT ts lo hi).length ≤ len) : Gv S a p5 ts at_ G L n (mSl (mVar 5) ml mh) 0 len w := by
  intro r G' M K r0 r4 r5 _ H k
  refine x_sl (x_var r5 (hl _ _ _ r4 (hh _ _ _ r4 (x_slA H.e fun q hq => ?_))))
  have qa := H.b.ne hq
  have G0 := H.f.none qa hq
  have H2 := H.new (c := .lst (cutT ts lo hi)) hq
  rw [Int.add_zero] at k
  exact k q _ _ _ qa (fun z => hSd _ z G0) G0 H2 (Fr.new hq) put_same ((d.fr (H2.f.toS hSa)).le (Nat.le_refl _) (by omega)) hlen hw
theorem gv_cat (hSa : S a) (hSd : ∀ s, S s → G s ≠ none) (h1 : Gv S a p5 ts at_ G L n m1 c1 l1 w1) (h2 : Gv S a p5 ts at_ G L n m2 c2 l2 w2) (hc1 : 0 ≤ c1) (hc2 : 0 ≤ c2) (hl : l1 + l2 ≤ 2000) : Gv S a p5 ts at_ G L n (mOp oAdd m1 m2) (c1 + c2) (l1 + l2) (w1 + w2) := by
  intro r G' M K r0 r4 r5 hM H k
  refine x_op (h1 r G' M _ r0 r4 r5 (by omega) H fun q1 G1 us1 es1 q1a q1S q10 H1 f1 e1 d1 le1 we1 => ?_)
  refine h2 r G1 (M + c1) _ r0 r4 r5 (by omega) H1 fun q2 G2 us2 es2 q2a q2S q20 H2 f2 e2 d2 le2 we2 => ?_
  refine x_addL (f2 _ _ q1a e1) e2 (by have := sizeLine_eq; omega) fun q hq => ?_
  have qa := H2.b.ne hq
  have G0 := H2.f.none qa hq
  have H3 := H2.new (c := .lst (us1 ++ us2)) hq
  have f3 : Fr a G2 (Mi.put G2 q (.lst (us1 ++ us2))) := Fr.new hq
  rw [Int.add_assoc] at H3
  exact k q _ _ _ qa (fun z => hSd _ z G0) G0 H3 (f1.trans (f2.trans f3)) put_same ((d1.fr ((f2.trans f3).toS hSa)).app (d2.fr (f3.toS hSa))) (by rw [List.length_append]; omega) (by rw [wtA_app]; omega)
theorem gv_rev (hSa : S a) (hSd : ∀ s, S s → G s ≠ none) (h1 : Gv S a p5 ts at_ G L n m c len w) : Gv S a p5 ts at_ G L n (mRev m) c len w := by
  intro r G' M K r0 r4 r5 hM H k
  refine x_rev (h1 r G' M _ r0 r4 r5 hM H fun q1 G1 us1 es1 q1a q1S q10 H1 f1 e1 d1 le1 we1 => ⟨us1, .inr ⟨q1, rfl, e1⟩, fun q hq => ?_⟩)
  have qa := H1.b.ne hq
  have G0 := H1.f.none qa hq
  have H3 := H1.new (c := .lst us1.reverse) hq
  have f3 : Fr a G1 (Mi.put G1 q (.lst us1.reverse)) := Fr.new hq
  exact k q _ _ _ qa (fun z => hSd _ z G0) G0 H3 (f1.trans f3) put_same ((d1.fr (f3.toS hSa)).rev) (by rw [List.length_reverse]; exact le1) (by rw [wtA_rev]; exact we1)
end
def Made (S : Addr → Prop) (a : Addr) (L n len w : Nat) (G : Gp) (q : Addr) : Prop := ∃ us es, q ≠ a ∧ ¬ S q ∧ G q = some (.lst us) ∧ DaL S G (L + 1) n us es ∧ us.length ≤ len ∧ wtA es ≤ w
theorem Made.fr {S : Addr → Prop} {a q : Addr} {L n len w : Nat} {G G' : Gp} (h : Made S a L n len w G q) (f : FrS S G G') : Made S a L n len w G' q := by
  obtain ⟨us, es, x1, x2, x3, x4, x5, x6⟩ := h
  exact ⟨us, es, x1, x2, f _ _ x2 x3, x4.fr f, x5, x6⟩
theorem Made.le {S : Addr → Prop} {a q : Addr} {L n len w len' w' : Nat} {G : Gp} (h : Made S a L n len w G q) (l : len ≤ len') (l2 : w ≤ w') : Made S a L n len' w' G q := by
  obtain ⟨us, es, x1, x2, x3, x4, x5, x6⟩ := h
  exact ⟨us, es, x1, x2, x3, x4, Nat.le_trans x5 l, Nat.le_trans x6 l2⟩
theorem x_and2 {t1 t2 : MT} {b1 b2 : Bool} {r : Mi.Env} {G : Gp} {R : Bool → Gp → Prop} (h1 : ∀ K : Bool → Gp → Prop, K b1 G → t1 r G K) (h2 : ∀ K : Bool → Gp → Prop, K b2 G → t2 r G K) (h : R (b1 && b2) G) : tmAnd t1 t2 r G R := x_and (h1 _ (by
  cases b1 with
  | false => exact x_iteF rfl h
  | true => exact x_iteT rfl (h2 _ h)))
/-! ### bent data -/
/-! ### terms are data -/
theorem Wd.len {x : Str} (h : Wd x) : x.length ≤ 8 := h.2.1
theorem Wd.da {S : Addr → Prop} {G : Gp} {L n : Nat} {x : Str} (h : Wd x) : Da S G L n (.str x) (.str x) ∧ wtD (.str x) ≤ 82 := ⟨.str (by have := h.len; omega) h.asc, by rw [wt_str]; have := h.len; omega⟩
theorem word_da {S : Addr → Prop} {G : Gp} {L n : Nat} {x : Str} (h : (decide (x.length ≤ 5) && x.cps.toList.all fun c => decide (c < 128)) = true) : Da S G L n (.str x) (.str x) ∧ wtD (.str x) ≤ 52 := by
  rw [Bool.and_eq_true] at h
  have := of_decide_eq_true h.1
  exact ⟨.str (by omega) fun c hc => of_decide_eq_true (List.all_eq_true.mp h.2 c hc), by rw [wt_str]; omega⟩
section
variable {S : Addr → Prop} {G : Gp} {L n : Nat}
theorem DaL.rows {α : Type} {f : α → T} {c : Nat} : ∀ {ps : List α}, (∀ p ∈ ps, ∃ d, Da S G L n (f p) d ∧ wtD d + 2 ≤ c) → ∃ ds, DaL S G L n (ps.map f) ds ∧ wtA ds ≤ ps.length * c
  | [], _ => ⟨[], .nil, by rw [wtA_nil]; exact Nat.zero_le _⟩
  | p :: ps, h => by
    obtain ⟨d, hd, hw⟩ := h p (by simp)
    obtain ⟨ds, hds, hws⟩ := DaL.rows (ps := ps) fun q hq => h q (List.mem_cons_of_mem _ hq)
    refine ⟨d :: ds, .cons hd hds, ?_⟩
    rw [wtA_cons, List.length_cons, Nat.add_mul]
    omega
theorem Da.mk1 {t : T} {d : PyData} (h : Da S G L n t d) : ∃ e, Da S G L (n + 1) (.tup [t]) e ∧ wtD e = wtD d + 5 := ⟨_, DaL.tup (.cons h .nil) (by show 1 ≤ _; omega), by rw [wt_tup, wtA_cons, wtA_nil]; omega⟩
theorem Da.mk2 {t u : T} {d e : PyData} (h : Da S G L n t d) (k : Da S G L n u e) : ∃ z, Da S G L (n + 1) (.tup [t, u]) z ∧ wtD z = wtD d + wtD e + 7 := ⟨_, DaL.tup (.cons h (.cons k .nil)) (by show 2 ≤ _; omega), by rw [wt_tup, wtA_cons, wtA_cons, wtA_nil]; omega⟩
theorem Da.mk3 {t u v : T} {d e f : PyData} (h : Da S G L n t d) (k : Da S G L n u e) (l : Da S G L n v f) : ∃ z, Da S G L (n + 1) (.tup [t, u, v]) z ∧ wtD z = wtD d + wtD e + wtD f + 9 := ⟨_, DaL.tup (.cons h (.cons k (.cons l .nil))) (by show 3 ≤ _; omega), by rw [wt_tup, wtA_cons, wtA_cons, wtA_cons, wtA_nil]; omega⟩
end
/-! ### the text of data: plain signs -/
theorem repr_sign : ∀ c < 128, ∀ e ∈ Builtin.Str.reprChar 39 c ++ Builtin.Str.reprChar 34 c, e < 128 := by
  have h : (List.range 128).all (fun c => (Builtin.Str.reprChar 39 c ++ Builtin.Str.reprChar 34 c).all fun e => decide (e < 128)) = true := by decide +kernel
  intro c hc e he
  exact of_decide_eq_true (List.all_eq_true.mp (List.all_eq_true.mp h c (List.mem_range.mpr hc)) e he)
theorem fold_sign {q : Nat} (hq : q = 39 ∨ q = 34) : ∀ (l : List Nat) (acc : Array Nat), (∀ c ∈ l, c < 128) → (∀ c ∈ acc.toList, c < 128) → ∀ c ∈ (l.foldl (fun out c => out ++ (Builtin.Str.reprChar q c).toArray) acc).toList, c < 128
  | [], acc, _, h => h
  | c :: l, acc, h, k => by
    rw [List.foldl_cons]
    refine fold_sign hq l _ (fun d hd => h d (List.mem_cons_of_mem _ hd)) fun d hd => ?_
    rw [Array.toList_append] at hd
    rcases List.mem_append.mp hd with z | z
    · exact k d z
    · have := repr_sign c (h c (by simp)) d
      rcases hq with rfl | rfl
      · exact this (List.mem_append_left _ (by simpa using z))
      · exact this (List.mem_append_right _ (by simpa using z))
theorem quote_is (x : Str) : reprQuote x = 39 ∨ reprQuote x = 34 := by
  unfold reprQuote
  split
  · exact .inr rfl
  · exact .inl rfl
theorem repr_asc {x : Str} (h : Asc x) : Asc (reprText x) := by
  intro c hc
  unfold reprText at hc
  have hc : c ∈ ((x.cps.foldl (fun out c => out ++ (Builtin.Str.reprChar (reprQuote x) c).toArray) #[reprQuote x]).push (reprQuote x)).toList := hc
  rw [Array.toList_push, ← Array.foldl_toList] at hc
  have hq := quote_is x
  have q128 : reprQuote x < 128 := by rcases hq with e | e <;> rw [e] <;> decide
  rcases List.mem_append.mp hc with z | z
  · exact fold_sign hq _ _ h (fun d hd => by
      have : d = reprQuote x := by simpa using hd
      rw [this]; exact q128) c z
  · rw [List.mem_singleton.mp z]; exact q128
theorem asc_lit {s : String} (h : (Str.ofString s).cps.toList.all (fun c => decide (c < 128)) = true) : Asc (Str.ofString s) := fun c hc => of_decide_eq_true (List.all_eq_true.mp h c hc)
theorem asc_join {ts : List Str} (h : ∀ t ∈ ts, Asc t) : Asc (Str.join ", " ts) := fun c hc => by
  rcases (PyProof.Rows.mem_join _ c ts).mp hc with ⟨t, ht, q⟩ | ⟨_, q⟩
  · exact h t ht c q
  · exact asc_lit (s := ", ") (by decide +kernel) c q
theorem asc_from : ∀ (ts : List Str) (k : Nat) (acc : Str), Asc acc → (∀ t ∈ ts, Asc t) → Asc (textFrom k acc ts)
  | [], _, acc, h, _ => h
  | t :: r, k, acc, h, k2 => by
    refine asc_from r (k + 1) _ ?_ fun u hu => k2 u (List.mem_cons_of_mem _ hu)
    refine (h.app ?_).app (k2 t (by simp))
    split
    · exact asc_lit (s := ", ") (by decide +kernel)
    · exact asc_lit (s := "") (by decide +kernel)
theorem asc_tup {ts : List Str} (h : ∀ t ∈ ts, Asc t) : Asc (tupleText ts) := by
  unfold tupleText
  refine ((asc_lit (s := "(") (by decide +kernel)).app (asc_join h)).app ?_
  split
  · exact asc_lit (s := ",)") (by decide +kernel)
  · exact asc_lit (s := ")") (by decide +kernel)
theorem asc_lst {ts : List Str} (h : ∀ t ∈ ts, Asc t) : Asc (listText ts) := by
  unfold listText
  exact (asc_from ts 0 _ (asc_lit (s := "[") (by decide +kernel)) h).app (asc_lit (s := "]") (by decide +kernel))
theorem Da.asc {S : Addr → Prop} {G : Gp} {L n : Nat} {t : T} {d : PyData} (h : Da S G L n t d) : Asc d.shown := by
  have all : ∀ {ts : List T} {ds : List PyData}, ds.length = ts.length → (∀ (i : Nat) (t : T) (d : PyData), ts[i]? = some t → ds[i]? = some d → Asc d.shown) → ∀ z ∈ PyData.shownAll ds, Asc z := by
    intro ts ds
    induction ds generalizing ts with
    | nil => intro _ _ z hz; simp [PyData.shownAll] at hz
    | cons d ds ih =>
      intro hl hk z hz
      cases ts with
      | nil => simp at hl
      | cons t ts =>
        rw [PyData.shownAll] at hz
        rcases List.mem_cons.mp hz with rfl | q
        · exact hk 0 t d rfl rfl
        · exact ih (ts := ts) (by simpa using hl) (fun i t d a b => hk (i + 1) t d (by simpa using a) (by simpa using b)) z q
  induction h with
  | non => rw [PyData.shown]; exact asc_lit (s := "None") (by decide +kernel)
  | bl =>
    rename_i b
    rw [PyData.shown]
    cases b
    · exact asc_lit (s := "False") (by decide +kernel)
    · exact asc_lit (s := "True") (by decide +kernel)
  | int b => rw [PyData.shown]; exact int_asc _
  | str b c => rw [PyData.shown]; exact repr_asc c
  | tup b c _ i => rw [PyData.shown]; exact asc_tup (all c i)
  | lst _ e b c _ i => rw [PyData.shown]; exact asc_lst (all c i)
/-! ### what is looked at -/
def Ok1 (S : Addr → Prop) (G : Gp) (t : T) : Prop := ∃ d, Da S G 2 48 t d ∧ wtD d ≤ 3000000
theorem Ok1.fr {S : Addr → Prop} {G G' : Gp} {t : T} (h : Ok1 S G t) (f : FrS S G G') : Ok1 S G' t := by
  obtain ⟨d, x, y⟩ := h
  exact ⟨d, x.fr f, y⟩
theorem Ok1.of {S : Addr → Prop} {G : Gp} {L n : Nat} {t : T} {d : PyData} (h : Da S G L n t d) (hL : L ≤ 2) (hn : n ≤ 48) (w : wtD d ≤ 3000000) : Ok1 S G t := ⟨d, h.le hn hL, w⟩
theorem x_repr {t : T} {d : PyData} {G : Gp} {R : KT} (h1 : Dt G t d) (h2 : d.showable = true) (h3 : d.hasDict = false) (h4 : d.depth ≤ 60) (h5 : d.shown.length ≤ sizeLine) (h : R (.str d.shown) G) : omRepr [t] G R := ⟨t, d, rfl, h1, h2, h3, h4, h5, h⟩
theorem x_neB {b : Bool} {G : Gp} {R : KT} (h : R (.bl false) G) : oNe (.bl b) (.bl b) G R := ⟨.bool b, .bool b, .bl b, .bl b, rfl, rfl, by cases b <;> exact h⟩
theorem x_neZ {z : Str} {G : Gp} {R : KT} (c : PyData.strOk z = true) (h : R (.bl false) G) : oNe (.str z) (.str z) G R := by
  have hs : SeqAt.shaped (.str z) = true := Bool.and_eq_true_iff.mpr ⟨c, rfl⟩
  refine ⟨.str z, .str z, .str z, .str z, hs, hs, ?_⟩
  have e : PyData.eqv (.str z) (.str z) = true := by
    show (z == z) = true
    exact beq_self_eq_true z
  rw [e]
  exact h

/-! ### what the law asks of one box -/
theorem Ok1.w {S : Addr → Prop} {G : Gp} {t : T} (h : okT 3 t = true) (w : wtD (dOf t) ≤ 300) : Ok1 S G t := Ok1.of (okT_da (L := 0) h) (by decide) (by decide) (by omega)
/-! ### the law -/
theorem x_max2 {i j : Int} {G : Gp} {R : KT} (h : R (.int (if j > i then j else i)) G) : omMax2 [.int i, .int j] G R := ⟨i, j, rfl, h⟩
theorem x_min2 {i j : Int} {G : Gp} {R : KT} (h : R (.int (if j < i then j else i)) G) : omMin2 [.int i, .int j] G R := ⟨i, j, rfl, h⟩end Lw

set_option Elab.async false
set_option linter.all false
set_option maxRecDepth 100000
set_option maxHeartbeats 4000000
namespace Lw
open PySem L2 Mi
def topS (i : Nat) : Stmt := PySem.Challenge.pw_sealedkinds_k15_names_not_bound.main.body.getD i (.Pass ⟨0, 0, 0, 0⟩)
def kl_TERMS_AT : List (Str × List T) := [("num", []), ("name", []), ("from", []), ("hole", []), ("fun", [(.int 2)]), ("call", [(.int 1), (.int 2)]), ("add", [(.int 1), (.int 2)]), ("less", [(.int 1), (.int 2)]), ("times", [(.int 1), (.int 2)]), ("under", [(.int 1), (.int 2), (.int 3), (.int 4)]), ("get", [(.int 1)]), ("put", [(.int 1), (.int 3)]), ("tag", [(.int 2)])]
abbrev s0 : Stmt := topS 2
/-- term_parts -/
def b0 (S : Nat → Sm) : MS := (msSeq (msAsg (mOp oIx (mVar 0) (mC (.int 0))) (mgName 1)) (msSeq (msIf (mB (mOp oEq (mVar 1) (mC (.str "name")))) (msRet (mLst maNil)) msNext) (msSeq (msIf (mB (mOp oEq (mVar 1) (mC (.str "fun")))) (msRet (mLst (maCons (mOp oIx (mVar 0) (mC (.int 2))) maNil))) msNext) (msSeq (msIf (mB (mOp oEq (mVar 1) (mC (.str "rec")))) (msRet (mLc (miSeq (mOp oIx (mVar 0) (mC (.int 1)))) (mgName 2) mtYes (mOp oIx (mVar 2) (mC (.int 1))) [2])) msNext) (msSeq (msIf (mB (mOp oEq (mVar 1) (mC (.str "case")))) (msRet (mOp oAdd (mLst (maCons (mOp oIx (mVar 0) (mC (.int 1))) maNil)) (mLc (miSeq (mOp oIx (mVar 0) (mC (.int 2)))) (mgName 3) mtYes (mOp oIx (mVar 3) (mC (.int 2))) [3]))) msNext) (msRet (mLc (miKSrc kl_TERMS_AT (mVar 1)) (mgName 4) mtYes (mOp oIx (mVar 0) (mVar 4)) [4])))))))
abbrev s1 : Stmt := topS 3
/-- bindings -/
def b1 (S : Nat → Sm) : MS := (msSeq (msAsg (mLst maNil) (mgName 4)) (msSeq (msAsg (mVar 1) (mgName 5)) (msSeq (msAsg (mLst (maCons (mTup (maCons (mVar 0) (maCons (mVar 3) maNil))) maNil)) (mgName 6)) (msSeq (msWhile (mTru (mVar 6)) (msSeq (msAsg (mBm0 "list" omPop (mVar 6)) (mgTup 2 (mgCons (mgName 7) (mgCons (mgName 8) mgNil)))) (msSeq (msAsg (mOp oIx (mVar 7) (mC (.int 0))) (mgName 9)) (msSeq (msAsg (mC .non) (mgName 10)) (msSeq (msIf (mB (mOp oEq (mVar 9) (mC (.str "name")))) (msSeq (msAsg (mGet1 (mVar 8) (mOp oIx (mVar 7) (mC (.int 1)))) (mgName 10)) (msIf (mB (mOp oIsN (mVar 10) (mC .non))) (msAsg (mGet1 (mVar 2) (mOp oIx (mVar 7) (mC (.int 1)))) (mgName 10)) msNext)) (msIf (mB (mOp oEq (mVar 9) (mC (.str "from")))) (msAsg (mGet1E (mVar 2) (mTup (maCons (mOp oIx (mVar 7) (mC (.int 1))) (maCons (mOp oIx (mVar 7) (mC (.int 2))) maNil)))) (mgName 10)) (msIf (mB (mOp oEq (mVar 9) (mC (.str "fun")))) (msSeq (msAsg (mVar 5) (mgName 10)) (msSeq (msAugI 5 (mC (.int 1))) (msExpr (mBm "list" omAppend (mVar 6) (maCons (mTup (maCons (mOp oIx (mVar 7) (mC (.int 2))) (maCons (mMerge (mVar 8) (mOp oIx (mVar 7) (mC (.int 1))) (mVar 10)) maNil))) maNil))))) (msIf (mB (mOp oEq (mVar 9) (mC (.str "case")))) (msSeq (msAsg (mVar 5) (mgName 10)) (msSeq (msAugI 5 (mCall omLen (maCons (mOp oIx (mVar 7) (mC (.int 2))) maNil))) (msSeq (msExpr (mBm "list" omAppend (mVar 6) (maCons (mTup (maCons (mOp oIx (mVar 7) (mC (.int 1))) (maCons (mVar 8) maNil))) maNil))) (msFor (miEnumK (mOp oIx (mVar 7) (mC (.int 2))) (mVar 10)) (mgTup 2 (mgCons (mgName 11) (mgCons (mgName 12) mgNil))) (msExpr (mBm "list" omAppend (mVar 6) (maCons (mTup (maCons (mOp oIx (mVar 12) (mC (.int 2))) (maCons (mMerge (mVar 8) (mOp oIx (mVar 12) (mC (.int 1))) (mVar 11)) maNil))) maNil))))))) (msFor (miSeq (mCall (S 0) (maCons (mVar 7) maNil))) (mgName 13) (msExpr (mBm "list" omAppend (mVar 6) (maCons (mTup (maCons (mVar 13) (maCons (mVar 8) maNil))) maNil)))))))) (msExpr (mBm "list" omAppend (mVar 4) (maCons (mTup (maCons (mVar 7) (maCons (mVar 10) maNil))) maNil)))))))) (msRet (mRev (mVar 4)))))))
abbrev s2 : Stmt := topS 4
/-- places_of -/
def b2 (S : Nat → Sm) : MS := (msRet (mLc (miSeq (mCall (S 3) (maCons (mVar 0) maNil))) (mgTup 2 (mgCons (mgName 1) (mgCons (mgName 2) mgNil))) mtYes (mVar 1) [1, 2]))
abbrev s3 : Stmt := topS 5
/-- placed_parts -/
def b3 (S : Nat → Sm) : MS := (msSeq (msAsg (mLst maNil) (mgName 1)) (msSeq (msAsg (mLst (maCons (mTup (maCons (mTup maNil) (maCons (mVar 0) maNil))) maNil)) (mgName 2)) (msSeq (msWhile (mTru (mVar 2)) (msSeq (msAsg (mBm0 "list" omPop (mVar 2)) (mgTup 2 (mgCons (mgName 3) (mgCons (mgName 4) mgNil)))) (msSeq (msExpr (mBm "list" omAppend (mVar 1) (maCons (mTup (maCons (mVar 3) (maCons (mVar 4) maNil))) maNil))) (msFor (miEnum (mCall (S 0) (maCons (mVar 4) maNil))) (mgTup 2 (mgCons (mgName 5) (mgCons (mgName 6) mgNil))) (msExpr (mBm "list" omAppend (mVar 2) (maCons (mTup (maCons (mOp oAdd (mVar 3) (mTup (maCons (mVar 5) maNil))) (maCons (mVar 6) maNil))) maNil))))))) (msRet (mRev (mVar 1))))))
abbrev s4 : Stmt := topS 6
/-- named_in -/
def b4 (S : Nat → Sm) : MS := (msSeq (msAsg (mLst maNil) (mgName 1)) (msSeq (msFor (miZip (mCall (S 2) (maCons (mVar 0) maNil)) (mCall (S 1) (maCons (mVar 0) (maCons (mC (.int 0)) (maCons mDNew (maCons mDNew maNil)))))) (mgTup 2 (mgCons (mgName 2) (mgCons (mgTup 2 (mgCons (mgName 3) (mgCons (mgName 4) mgNil))) mgNil))) (msIf (mB (mOp oEq (mOp oIx (mVar 3) (mC (.int 0))) (mC (.str "from")))) (msExpr (mBm "list" omAppend (mVar 1) (maCons (mTup (maCons (mVar 2) (maCons (mTup (maCons (mOp oIx (mVar 3) (mC (.int 1))) (maCons (mOp oIx (mVar 3) (mC (.int 2))) maNil))) maNil))) maNil))) (msIf (tmAnd (mB (mOp oEq (mOp oIx (mVar 3) (mC (.int 0))) (mC (.str "name")))) (mB (mOp oIsN (mVar 4) (mC .non)))) (msExpr (mBm "list" omAppend (mVar 1) (maCons (mTup (maCons (mVar 2) (maCons (mOp oIx (mVar 3) (mC (.int 1))) maNil))) maNil))) msNext))) (msRet (mVar 1))))
abbrev s5 : Stmt := topS 8
/-- _law_box -/
def b5 (S : Nat → Sm) : MS := (msSeq (msAsg (mIf (mB (mOp oLtU (mVar 1) (mCall omLen (maCons (mVar 0) maNil)))) (mOp oIx (mVar 0) (mVar 1)) (mC (.int 0))) (mgName 2)) (msRet (mLst (maCons (mOp oMulU (mCall omAbs (maCons (mVar 2) maNil)) (mCall omInt (maCons (mOp oGeU (mCall omAbs (maCons (mVar 2) maNil)) (mOp oPow (mC (.int 10)) (mC (.int 18)))) maNil))) (maCons (mOp oMod (mOp oMulU (mOp oAdd (mOp oAdd (mOp oMod (mVar 2) (mC (.int 2147483629))) (mOp oMulU (mC (.int 15485863)) (mVar 1))) (mC (.int 43))) (mC (.int 48271))) (mC (.int 2147483647))) (maCons (mC (.int 0)) maNil))))))
abbrev s6 : Stmt := topS 9
/-- _law_take -/
def b6 (S : Nat → Sm) : MS := (msSeq (msIf (mB (mOp oGtU (mOp oIx (mVar 0) (mC (.int 0))) (mC (.int 0)))) (msSeq (msAsg (mCall omDivmod (maCons (mOp oIx (mVar 0) (mC (.int 0))) (maCons (mVar 1) maNil))) (mgTup 2 (mgCons (mgSub (mVar 0) (mC (.int 0)) osLst) (mgCons (mgName 2) mgNil)))) (msRet (mVar 2))) msNext) (msSeq (msIf (mB (mOp oGtU (mVar 1) (mOp oPow (mC (.int 10)) (mC (.int 7))))) (msRet (mOp oMod (mOp oAdd (mCall (S 6) (maCons (mVar 0) (maCons (mOp oPow (mC (.int 10)) (mC (.int 7))) maNil))) (mOp oMulU (mOp oPow (mC (.int 10)) (mC (.int 7))) (mCall (S 6) (maCons (mVar 0) (maCons (mOp oAdd (mOp oFdiv (mOp oSub (mVar 1) (mC (.int 1))) (mOp oPow (mC (.int 10)) (mC (.int 7)))) (mC (.int 1))) maNil))))) (mVar 1))) msNext) (msSeq (msAsg (mOp oAdd (mOp oIx (mVar 0) (mC (.int 2))) (mC (.int 1))) (mgSub (mVar 0) (mC (.int 2)) osLst)) (msSeq (msAsg (mOp oAdd (mC (.int 69621)) (mOp oMulU (mOp oIx (mVar 0) (mC (.int 2))) (mOp oIx (mVar 0) (mC (.int 2))))) (mgName 3)) (msSeq (msAsg (mOp oMod (mOp oMulU (mOp oAdd (mOp oIx (mVar 0) (mC (.int 1))) (mOp oMulU (mC (.int 39373)) (mOp oIx (mVar 0) (mC (.int 2))))) (mVar 3)) (mC (.int 2147483587))) (mgName 4)) (msSeq (msAsg (mOp oMod (mOp oAdd (mOp oMulU (mVar 4) (mOp oAdd (mOp oMod (mVar 4) (mC (.int 30011))) (mC (.int 5)))) (mOp oIx (mVar 0) (mC (.int 2)))) (mC (.int 2147483563))) (mgName 5)) (msRet (mOp oMod (mOp oFdiv (mOp oMod (mOp oMulU (mVar 5) (mOp oAdd (mOp oMod (mVar 5) (mC (.int 1013))) (mC (.int 3)))) (mC (.int 998244353))) (mC (.int 16))) (mVar 1)))))))))
abbrev s7 : Stmt := topS 10
/-- _law_same -/
def b7 (S : Nat → Sm) : MS := (msSeq (msIf (mTru (mIsi2 (mVar 1) "list" "tuple")) (msSeq (msIf (tmOr (mB (mOp oNe (mCall omIsi (maCons (mVar 0) (maCons (mC (.ty "list")) maNil))) (mCall omIsi (maCons (mVar 1) (maCons (mC (.ty "list")) maNil))))) (mB (mOp oNe (mCall omIsi (maCons (mVar 0) (maCons (mC (.ty "tuple")) maNil))) (mCall omIsi (maCons (mVar 1) (maCons (mC (.ty "tuple")) maNil)))))) (msRet (mC (.bl false))) msNext) (msRet (mAndV (mOp oEq (mCall omLen (maCons (mVar 0) maNil)) (mCall omLen (maCons (mVar 1) maNil))) (mCall omAll (maCons (mLc (miZip (mVar 0) (mVar 1)) (mgTup 2 (mgCons (mgName 2) (mgCons (mgName 3) mgNil))) mtYes (mCall (S 7) (maCons (mVar 2) (maCons (mVar 3) maNil))) [2, 3]) maNil))))) msNext) (msSeq (msIf (tmOr (mB (mOp oIsN (mVar 1) (mC .non))) (mTru (mCall omIsi (maCons (mVar 1) (maCons (mC (.ty "str")) maNil))))) (msRet (mAndV (mOp oEq (mVar 0) (mVar 1)) (mOp oEq (mCall omIsi (maCons (mVar 0) (maCons (mC (.ty "str")) maNil))) (mCall omIsi (maCons (mVar 1) (maCons (mC (.ty "str")) maNil)))))) msNext) (msRet (mAndV (mCall omIsi (maCons (mVar 0) (maCons (mC (.ty "int")) maNil))) (mAndV (mOp oEq (mCall omIsi (maCons (mVar 0) (maCons (mC (.ty "bool")) maNil))) (mCall omIsi (maCons (mVar 1) (maCons (mC (.ty "bool")) maNil)))) (mOp oEq (mVar 0) (mVar 1)))))))
abbrev s8 : Stmt := topS 11
/-- _law_of -/
def b8 (S : Nat → Sm) : MS := (msRet (mOp oIx (mVar 1) (mCall (S 6) (maCons (mVar 0) (maCons (mCall omLen (maCons (mVar 1) maNil)) maNil)))))
abbrev s9 : Stmt := topS 12
/-- _law_names -/
def b9 (S : Nat → Sm) : MS := (msSeq (msAsg (mTup (maCons (mC (.str "abcdefghijklmnopqrstuvwxyz")) (maCons (mCall (S 6) (maCons (mVar 0) (maCons (mC (.int 26)) maNil))) (maCons (mLst maNil) maNil)))) (mgTup 3 (mgCons (mgName 2) (mgCons (mgName 3) (mgCons (mgName 4) mgNil))))) (msSeq (msAsg (mBm "str" omJoin (mC (.str "")) (maCons (mLc (miRange (mCall (S 6) (maCons (mVar 0) (maCons (mC (.int 6)) maNil)))) (mgName 10) mtYes (mOp oIx (mVar 2) (mCall (S 6) (maCons (mVar 0) (maCons (mC (.int 26)) maNil)))) [10]) maNil)) (mgName 5)) (msSeq (msPar 6 7 (maCons (mOp oIx (mLst (maCons (mC (.int 1)) (maCons (mC (.int 3)) (maCons (mC (.int 25)) maNil)))) (mCall (S 6) (maCons (mVar 0) (maCons (mC (.int 3)) maNil)))) (maCons (mCall (S 6) (maCons (mVar 0) (maCons (mC (.int 2)) maNil))) maNil))) (msSeq (msFor (miRange (mVar 1)) (mgName 8) (msSeq (msAsg (mOp oIx (mVar 2) (mOp oMod (mOp oAdd (mVar 3) (mOp oMulU (mVar 6) (mIf (mB (mOp oEq (mVar 7) (mC (.int 1)))) (mOp oFdiv (mVar 8) (mC (.int 2))) (mVar 8)))) (mC (.int 26)))) (mgName 9)) (msExpr (mBm "list" omAppend (mVar 4) (maCons (mOp oAdd (mOp oAdd (mVar 5) (mVar 9)) (mOp oMulU (mC (.str "ab")) (mCall omInt (maCons (mAndV (mOp oEq (mVar 7) (mC (.int 1))) (mOp oEq (mOp oMod (mVar 8) (mC (.int 2))) (mC (.int 1)))) maNil)))) maNil))))) (msRet (mVar 4))))))
abbrev s10 : Stmt := topS 13
/-- _law_parts -/
def b10 (S : Nat → Sm) : MS := (msSeq (msAsg (mOp oIx (mVar 0) (mC (.int 0))) (mgName 1)) (msSeq (msIf (mB (mOp (oInA false) (mVar 1) (mTup (maCons (mC (.str "num")) (maCons (mC (.str "name")) (maCons (mC (.str "from")) (maCons (mC (.str "hole")) maNil))))))) (msRet (mLst maNil)) msNext) (msSeq (msIf (mB (mOp oEq (mVar 1) (mC (.str "rec")))) (msRet (mLc (miSeq (mOp oIx (mVar 0) (mC (.int 1)))) (mgTup 2 (mgCons (mgName 2) (mgCons (mgName 3) mgNil))) mtYes (mVar 3) [2, 3])) msNext) (msSeq (msIf (mB (mOp oEq (mVar 1) (mC (.str "case")))) (msRet (mOp oAdd (mLst (maCons (mOp oIx (mVar 0) (mC (.int 1))) maNil)) (mLc (miSeq (mOp oIx (mVar 0) (mC (.int 2)))) (mgName 4) mtYes (mOp oIx (mVar 4) (mC (.int 2))) [4]))) msNext) (msRet (mGet2 (mDisp [("fun", (mSl (mVar 0) (moS (mC (.int 2))) moN)), ("get", (mSl (mVar 0) (moS (mC (.int 1))) (moS (mC (.int 2))))), ("put", (mOp oAdd (mSl (mVar 0) (moS (mC (.int 1))) (moS (mC (.int 2)))) (mSl (mVar 0) (moS (mC (.int 3))) moN))), ("tag", (mSl (mVar 0) (moS (mC (.int 2))) moN))]) (mVar 1) (mSl (mVar 0) (moS (mC (.int 1))) moN)))))))
abbrev s11 : Stmt := topS 14
/-- _law_places -/
def b11 (S : Nat → Sm) : MS := (msSeq (msAsg (mLst maNil) (mgName 1)) (msSeq (msFor (miEnum (mCall (S 10) (maCons (mVar 0) maNil))) (mgTup 2 (mgCons (mgName 2) (mgCons (mgName 3) mgNil))) (msAsg (mOp oAdd (mVar 1) (mLc (miSeq (mCall (S 11) (maCons (mVar 3) maNil))) (mgName 4) mtYes (mOp oAdd (mTup (maCons (mVar 2) maNil)) (mVar 4)) [4])) (mgName 1))) (msRet (mOp oAdd (mVar 1) (mLst (maCons (mTup maNil) maNil))))))
abbrev s12 : Stmt := topS 15
/-- _law_term -/
def b12 (S : Nat → Sm) : MS := (msSeq (msAsg (mIf (mB (mOp oGtU (mVar 3) (mC (.int 1)))) (mCall (S 6) (maCons (mVar 0) (maCons (mC (.int 16)) maNil))) (mCall (S 6) (maCons (mVar 0) (maCons (mC (.int 4)) maNil)))) (mgName 4)) (msSeq (msAsg (mOp oAdd (mVar 2) (mDGet (mVar 1) (mC (.str "knows")))) (mgName 5)) (msSeq (msIf (tmOr (mB (mOp oEq (mVar 4) (mC (.int 0)))) (tmOr (tmAnd (mB (mOp oEq (mVar 4) (mC (.int 1)))) (mB (mOp oEq (mVar 5) (mLst maNil)))) (tmOr (tmAnd (mB (mOp oEq (mVar 4) (mC (.int 2)))) (mB (mOp oEq (mDGet (mVar 1) (mC (.str "froms"))) (mLst maNil)))) (tmAnd (mB (mOp oEq (mVar 4) (mC (.int 3)))) (mB (mOp oEq (mVar 5) (mLst maNil))))))) (msRet (mTup (maCons (mC (.str "num")) (maCons (mCall (S 8) (maCons (mVar 0) (maCons (mLst (maCons (mC (.int 0)) (maCons (mC (.int 1)) (maCons (mCall (S 6) (maCons (mVar 0) (maCons (mC (.int 100)) maNil))) (maCons (mC (.int 99990)) maNil))))) maNil))) maNil)))) msNext) (msSeq (msIf (mB (mOp (oInA false) (mVar 4) (mTup (maCons (mC (.int 1)) (maCons (mC (.int 3)) maNil))))) (msRet (mTup (maCons (mC (.str "name")) (maCons (mCall (S 8) (maCons (mVar 0) (maCons (mVar 5) maNil))) maNil)))) msNext) (msSeq (msIf (mB (mOp oEq (mVar 4) (mC (.int 2)))) (msRet (mOp oAdd (mTup (maCons (mC (.str "from")) maNil)) (mCall (S 8) (maCons (mVar 0) (maCons (mDGet (mVar 1) (mC (.str "froms"))) maNil))))) msNext) (msSeq (msAsg (mIf (mB (mOp (oInA true) (mVar 4) (mTup (maCons (mC (.int 4)) (maCons (mC (.int 5)) (maCons (mC (.int 9)) maNil)))))) (mCall (S 12) (maCons (mVar 0) (maCons (mVar 1) (maCons (mVar 2) (maCons (mOp oSub (mVar 3) (mC (.int 1))) maNil))))) (mTup (maCons (mC (.str "num")) (maCons (mC (.int 0)) maNil)))) (mgName 6)) (msSeq (msIf (mB (mOp (oInA false) (mVar 4) (mTup (maCons (mC (.int 4)) (maCons (mC (.int 5)) maNil))))) (msSeq (msAsg (mCall (S 8) (maCons (mVar 0) (maCons (mDGet (mVar 1) (mC (.str "labels"))) maNil))) (mgName 7)) (msRet (mTup (maCons (mC (.str "fun")) (maCons (mVar 7) (maCons (mCall (S 12) (maCons (mVar 0) (maCons (mVar 1) (maCons (mOp oAdd (mVar 2) (mLst (maCons (mVar 7) maNil))) (maCons (mOp oSub (mVar 3) (mC (.int 1))) maNil))))) maNil)))))) msNext) (msSeq (msIf (mB (mOp (oInA false) (mVar 4) (mTup (maCons (mC (.int 6)) (maCons (mC (.int 7)) maNil))))) (msRet (mTup (maCons (mC (.str "call")) (maCons (mVar 6) (maCons (mCall (S 12) (maCons (mVar 0) (maCons (mVar 1) (maCons (mVar 2) (maCons (mOp oSub (mVar 3) (mC (.int 1))) maNil))))) maNil))))) msNext) (msSeq (msIf (mB (mOp oEq (mVar 4) (mC (.int 8)))) (msRet (mTup (maCons (mCall (S 8) (maCons (mVar 0) (maCons (mLst (maCons (mC (.str "add")) (maCons (mC (.str "less")) (maCons (mC (.str "times")) maNil)))) maNil))) (maCons (mVar 6) (maCons (mCall (S 12) (maCons (mVar 0) (maCons (mVar 1) (maCons (mVar 2) (maCons (mOp oSub (mVar 3) (mC (.int 1))) maNil))))) maNil))))) msNext) (msSeq (msIf (mB (mOp oEq (mVar 4) (mC (.int 9)))) (msSeq (msAsg (mSl (mLc (miSeq (mDGet (mVar 1) (mC (.str "labels")))) (mgName 11) (mB (mOp oEq (mCall (S 6) (maCons (mVar 0) (maCons (mC (.int 2)) maNil))) (mC (.int 0)))) (mVar 11) [11]) moN (moS (mC (.int 3)))) (mgName 8)) (msRet (mTup (maCons (mC (.str "rec")) (maCons (mCall omTuple (maCons (mLc (miSeq (mVar 8)) (mgName 11) mtYes (mTup (maCons (mVar 11) (maCons (mCall (S 12) (maCons (mVar 0) (maCons (mVar 1) (maCons (mVar 2) (maCons (mOp oSub (mVar 3) (mC (.int 1))) maNil))))) maNil))) [11]) maNil)) maNil))))) msNext) (msSeq (msIf (mB (mOp (oInA false) (mVar 4) (mTup (maCons (mC (.int 10)) (maCons (mC (.int 11)) maNil))))) (msRet (mTup (maCons (mC (.str "get")) (maCons (mVar 6) (maCons (mCall (S 8) (maCons (mVar 0) (maCons (mDGet (mVar 1) (mC (.str "labels"))) maNil))) maNil))))) msNext) (msSeq (msIf (mB (mOp oEq (mVar 4) (mC (.int 12)))) (msRet (mTup (maCons (mC (.str "put")) (maCons (mVar 6) (maCons (mCall (S 8) (maCons (mVar 0) (maCons (mDGet (mVar 1) (mC (.str "labels"))) maNil))) (maCons (mCall (S 12) (maCons (mVar 0) (maCons (mVar 1) (maCons (mVar 2) (maCons (mOp oSub (mVar 3) (mC (.int 1))) maNil))))) maNil)))))) msNext) (msSeq (msIf (mB (mOp oEq (mVar 4) (mC (.int 13)))) (msRet (mTup (maCons (mC (.str "tag")) (maCons (mCall (S 8) (maCons (mVar 0) (maCons (mDGet (mVar 1) (mC (.str "labels"))) maNil))) (maCons (mVar 6) maNil))))) msNext) (msSeq (msIf (mB (mOp oEq (mVar 4) (mC (.int 14)))) (msSeq (msPar 9 10 (maCons (mCall (S 12) (maCons (mVar 0) (maCons (mVar 1) (maCons (mVar 2) (maCons (mOp oSub (mVar 3) (mC (.int 1))) maNil))))) (maCons (mCall (S 12) (maCons (mVar 0) (maCons (mVar 1) (maCons (mVar 2) (maCons (mOp oSub (mVar 3) (mC (.int 1))) maNil))))) maNil))) (msRet (mTup (maCons (mC (.str "under")) (maCons (mVar 6) (maCons (mVar 9) (maCons (mVar 10) (maCons (mCall (S 12) (maCons (mVar 0) (maCons (mVar 1) (maCons (mVar 2) (maCons (mOp oSub (mVar 3) (mC (.int 1))) maNil))))) maNil)))))))) msNext) (msRet (mCall (S 13) (maCons (mVar 0) (maCons (mVar 1) (maCons (mVar 2) (maCons (mVar 6) (maCons (mVar 3) maNil)))))))))))))))))))))
abbrev s13 : Stmt := topS 16
/-- _law_term_case -/
def b13 (S : Nat → Sm) : MS := (msSeq (msPar 5 6 (maCons (mOrV (mSl (mLc (miSeq (mDGet (mVar 1) (mC (.str "labels")))) (mgName 7) (mB (mOp oEq (mCall (S 6) (maCons (mVar 0) (maCons (mC (.int 2)) maNil))) (mC (.int 0)))) (mVar 7) [7]) moN (moS (mC (.int 2)))) (mSl (mDGet (mVar 1) (mC (.str "labels"))) moN (moS (mC (.int 1))))) (maCons (mLst maNil) maNil))) (msSeq (msFor (miSeq (mVar 5)) (mgName 7) (msSeq (msAsg (mCall (S 8) (maCons (mVar 0) (maCons (mDGet (mVar 1) (mC (.str "labels"))) maNil))) (mgName 8)) (msExpr (mBm "list" omAppend (mVar 6) (maCons (mTup (maCons (mVar 7) (maCons (mVar 8) (maCons (mCall (S 12) (maCons (mVar 0) (maCons (mVar 1) (maCons (mOp oAdd (mVar 2) (mLst (maCons (mVar 8) maNil))) (maCons (mOp oSub (mVar 4) (mC (.int 1))) maNil))))) maNil)))) maNil))))) (msRet (mTup (maCons (mC (.str "case")) (maCons (mVar 3) (maCons (mCall omTuple (maCons (mVar 6) maNil)) maNil)))))))
abbrev s14 : Stmt := topS 17
/-- _law_named -/
def b14 (S : Nat → Sm) : MS := (msSeq (msIf (mB (mOp oEq (mOp oIx (mVar 0) (mC (.int 0))) (mC (.str "name")))) (msRet (mOp oMulU (mLst (maCons (mTup (maCons (mVar 1) (maCons (mOp oIx (mVar 0) (mC (.int 1))) maNil))) maNil)) (mCall omInt (maCons (mOp (oInA true) (mOp oIx (mVar 0) (mC (.int 1))) (mVar 2)) maNil)))) msNext) (msSeq (msAsg (mOp oMulU (mLst (maCons (mTup (maCons (mVar 1) (maCons (mSl (mVar 0) (moS (mC (.int 1))) moN) maNil))) maNil)) (mCall omInt (maCons (mOp oEq (mOp oIx (mVar 0) (mC (.int 0))) (mC (.str "from"))) maNil))) (mgName 3)) (msSeq (msFor (miEnum (mCall (S 10) (maCons (mVar 0) maNil))) (mgTup 2 (mgCons (mgName 4) (mgCons (mgName 5) mgNil))) (msSeq (msAsg (mLst maNil) (mgName 6)) (msSeq (msIf (tmOr (mB (mOp oEq (mOp oIx (mVar 0) (mC (.int 0))) (mC (.str "fun")))) (tmAnd (mB (mOp oEq (mOp oIx (mVar 0) (mC (.int 0))) (mC (.str "case")))) (mB (mOp oGtU (mVar 4) (mC (.int 0)))))) (msAsg (mLst (maCons (mIf (mB (mOp oEq (mOp oIx (mVar 0) (mC (.int 0))) (mC (.str "fun")))) (mOp oIx (mVar 0) (mC (.int 1))) (mOp oIx (mOp oIx (mOp oIx (mVar 0) (mC (.int 2))) (mOp oSub (mVar 4) (mC (.int 1)))) (mC (.int 1)))) maNil)) (mgName 6)) msNext) (msAsg (mOp oAdd (mVar 3) (mCall (S 14) (maCons (mVar 5) (maCons (mOp oAdd (mVar 1) (mTup (maCons (mVar 4) maNil))) (maCons (mOp oAdd (mVar 2) (mVar 6)) maNil))))) (mgName 3))))) (msRet (mVar 3)))))
abbrev s15 : Stmt := topS 18
/-- _law_part -/
def b15 (S : Nat → Sm) : MS := (msSeq (msFor (miSeq (mVar 1)) (mgName 2) (msAsg (mOp oIx (mCall (S 10) (maCons (mVar 0) maNil)) (mVar 2)) (mgName 0))) (msRet (mVar 0)))
abbrev s16 : Stmt := topS 19
/-- _law_is_bound -/
def b16 (S : Nat → Sm) : MS := (msSeq (msFor (miRange (mCall omLen (maCons (mVar 1) maNil))) (mgName 3) (msSeq (msPar 4 5 (maCons (mCall (S 15) (maCons (mVar 0) (maCons (mSl (mVar 1) moN (moS (mVar 3))) maNil))) (maCons (mOp oIx (mVar 1) (mVar 3)) maNil))) (msIf (tmOr (tmAnd (mB (mOp oEq (mOp oIx (mVar 4) (mC (.int 0))) (mC (.str "fun")))) (mB (mOp oEq (mOp oIx (mVar 4) (mC (.int 1))) (mVar 2)))) (tmAnd (mB (mOp oEq (mOp oIx (mVar 4) (mC (.int 0))) (mC (.str "case")))) (tmAnd (mB (mOp oGtU (mVar 5) (mC (.int 0)))) (mB (mOp oEq (mOp oIx (mOp oIx (mOp oIx (mVar 4) (mC (.int 2))) (mOp oSub (mVar 5) (mC (.int 1)))) (mC (.int 1))) (mVar 2)))))) (msRet (mC (.bl true))) msNext))) (msRet (mC (.bl false))))
abbrev s17 : Stmt := topS 20
/-- _law_looked_up -/
def b17 (S : Nat → Sm) : MS := (msSeq (msAsg (mLst maNil) (mgName 1)) (msSeq (msFor (miSeq (mCall (S 11) (maCons (mVar 0) maNil))) (mgName 2) (msSeq (msAsg (mCall (S 15) (maCons (mVar 0) (maCons (mVar 2) maNil))) (mgName 3)) (msSeq (msIf (mB (mOp oEq (mOp oIx (mVar 3) (mC (.int 0))) (mC (.str "from")))) (msExpr (mBm "list" omAppend (mVar 1) (maCons (mTup (maCons (mVar 2) (maCons (mSl (mVar 3) (moS (mC (.int 1))) moN) maNil))) maNil))) msNext) (msIf (tmAnd (mB (mOp oEq (mOp oIx (mVar 3) (mC (.int 0))) (mC (.str "name")))) (tmNot (mTru (mCall (S 16) (maCons (mVar 0) (maCons (mVar 2) (maCons (mOp oIx (mVar 3) (mC (.int 1))) maNil))))))) (msExpr (mBm "list" omAppend (mVar 1) (maCons (mTup (maCons (mVar 2) (maCons (mOp oIx (mVar 3) (mC (.int 1))) maNil))) maNil))) msNext)))) (msRet (mVar 1))))
abbrev s18 : Stmt := topS 21
/-- _law_right -/
def b18 (S : Nat → Sm) : MS := (msSeq (msAsg (mCall (S 9) (maCons (mVar 0) (maCons (mC (.int 4)) maNil))) (mgName 1)) (msSeq (msAsg (mDisp [("labels", (mCall omSortS (maCons (mSl (mVar 1) moN (moS (mOp oAdd (mC (.int 2)) (mCall (S 6) (maCons (mVar 0) (maCons (mC (.int 2)) maNil)))))) maNil))), ("knows", (mSl (mVar 1) moN (moS (mC (.int 3)))))]) (mgName 2)) (msSeq (msExpr (mBm "dict" omUpdate (mVar 2) (maCons (mDisp [("froms", (mLst (maCons (mTup (maCons (mOp oIx (mVar 1) (mC (.int 0))) (maCons (mOp oIx (mVar 1) (mC (.int 1))) maNil))) (maCons (mTup (maCons (mOp oIx (mVar 1) (mC (.int 3))) (maCons (mOp oIx (mVar 1) (mC (.int 3))) maNil))) maNil))))]) maNil))) (msSeq (msAsg (mTup (maCons (mC (.str "case")) (maCons (mTup (maCons (mC (.str "name")) (maCons (mOp oIx (mVar 1) (mC (.int 0))) maNil))) (maCons (mTup (maCons (mTup (maCons (mCall omMin1 (maCons (mSl (mVar 1) moN (moS (mC (.int 2)))) maNil)) (maCons (mOp oIx (mVar 1) (mC (.int 0))) (maCons (mTup (maCons (mC (.str "fun")) (maCons (mOp oIx (mVar 1) (mC (.int 1))) (maCons (mTup (maCons (mC (.str "name")) (maCons (mOp oIx (mVar 1) (mC (.int 0))) maNil))) maNil)))) maNil)))) maNil)) maNil)))) (mgName 3)) (msSeq (msAsg (mLst (maCons (mTup (maCons (mTup (maCons (mC (.int 0)) maNil)) (maCons (mOp oIx (mVar 1) (mC (.int 0))) maNil))) maNil)) (mgName 4)) (msSeq (msIf (tmNot (mTru (mCall (S 7) (maCons (mCall (S 4) (maCons (mVar 3) maNil)) (maCons (mVar 4) maNil))))) (msRet (mC (.bl false))) msNext) (msSeq (msFor (miRange (mC (.int 12))) (mgName 5) (msSeq (msAsg (mCall (S 12) (maCons (mVar 0) (maCons (mVar 2) (maCons (mLst maNil) (maCons (mOp oAdd (mC (.int 2)) (mCall (S 6) (maCons (mVar 0) (maCons (mC (.int 3)) maNil)))) maNil))))) (mgName 6)) (msIf (mB (mOp oLeU (mCall omLen (maCons (mCall (S 11) (maCons (mVar 6) maNil)) maNil)) (mC (.int 40)))) (msSeq (msAsg (mCall (S 17) (maCons (mVar 6) maNil)) (mgName 4)) (msFor (miRange (mC (.int 2))) (mgName 7) (msSeq (msAsg (mCall (S 4) (maCons (mVar 6) maNil)) (mgName 8)) (msSeq (msIf (tmOr (tmNot (mTru (mCall (S 7) (maCons (mVar 8) (maCons (mVar 4) maNil))))) (tmNot (mTru (mCall (S 7) (maCons (mVar 8) (maCons (mCall (S 14) (maCons (mVar 6) (maCons (mTup maNil) (maCons (mLst maNil) maNil)))) maNil)))))) (msRet (mC (.bl false))) msNext) (msExpr (mBm "list" omAppend (mVar 8) (maCons (mC (.str "more")) maNil))))))) msNext))) (msRet (mC (.bl true))))))))))
abbrev s19 : Stmt := topS 22
/-- law -/
def b19 (S : Nat → Sm) : MS := (msRet (mCall omAll (maCons (mLc (miRange (mCall omMax2 (maCons (mC (.int 1)) (maCons (mCall omMin2 (maCons (mCall omLen (maCons (mVar 0) maNil)) (maCons (mC (.int 3)) maNil))) maNil)))) (mgName 1) mtYes (mCall (S 18) (maCons (mCall (S 5) (maCons (mVar 0) (maCons (mVar 1) maNil))) maNil)) [1]) maNil)))
def SP : Nat → Nat → Sm
  | 0, _ => noSp
  | k + 1, j => match j with
    | 0 => spOf 5 1 (b0 (SP k))
    | 1 => spOf 14 4 (b1 (SP k))
    | 2 => spOf 3 1 (b2 (SP k))
    | 3 => spOf 7 1 (b3 (SP k))
    | 4 => spOf 5 1 (b4 (SP k))
    | 5 => spOf 3 2 (b5 (SP k))
    | 6 => spOf 6 2 (b6 (SP k))
    | 7 => spOf 4 2 (b7 (SP k))
    | 8 => spOf 2 2 (b8 (SP k))
    | 9 => spOf 11 2 (b9 (SP k))
    | 10 => spOf 5 1 (b10 (SP k))
    | 11 => spOf 5 1 (b11 (SP k))
    | 12 => spOf 12 4 (b12 (SP k))
    | 13 => spOf 9 5 (b13 (SP k))
    | 14 => spOf 7 3 (b14 (SP k))
    | 15 => spOf 3 2 (b15 (SP k))
    | 16 => spOf 6 3 (b16 (SP k))
    | 17 => spOf 4 1 (b17 (SP k))
    | 18 => spOf 9 1 (b18 (SP k))
    | 19 => spOf 2 1 (b19 (SP k))
    | _ => noSp
structure Txt (w : World) (K : PySem.W.Frag) (mg : Str → Option Value) (fa : Nat → Addr) (fdd : Nat → FuncData) : Prop where
  F0 : Fun K "term_parts" "term_parts" s0 (fa 0) (fdd 0)
  B0 : Binds K (fdd 0) ["term"] []
  M0 : mg "term_parts" = some (.ref (fa 0))
  F1 : Fun K "bindings" "bindings" s1 (fa 1) (fdd 1)
  B1 : Binds K (fdd 1) ["term", "first", "known", "around"] []
  M1 : mg "bindings" = some (.ref (fa 1))
  F2 : Fun K "places_of" "places_of" s2 (fa 2) (fdd 2)
  B2 : Binds K (fdd 2) ["term"] []
  M2 : mg "places_of" = some (.ref (fa 2))
  F3 : Fun K "placed_parts" "placed_parts" s3 (fa 3) (fdd 3)
  B3 : Binds K (fdd 3) ["term"] []
  M3 : mg "placed_parts" = some (.ref (fa 3))
  F4 : Fun K "named_in" "named_in" s4 (fa 4) (fdd 4)
  B4 : Binds K (fdd 4) ["term"] []
  M4 : mg "named_in" = some (.ref (fa 4))
  F5 : Fun K "_law_box" "_law_box" s5 (fa 5) (fdd 5)
  B5 : Binds K (fdd 5) ["script", "k"] []
  M5 : mg "_law_box" = some (.ref (fa 5))
  F6 : Fun K "_law_take" "_law_take" s6 (fa 6) (fdd 6)
  B6 : Binds K (fdd 6) ["box", "size"] []
  M6 : mg "_law_take" = some (.ref (fa 6))
  F7 : Fun K "_law_same" "_law_same" s7 (fa 7) (fdd 7)
  B7 : Binds K (fdd 7) ["found", "due"] []
  M7 : mg "_law_same" = some (.ref (fa 7))
  F8 : Fun K "_law_of" "_law_of" s8 (fa 8) (fdd 8)
  B8 : Binds K (fdd 8) ["box", "some"] []
  M8 : mg "_law_of" = some (.ref (fa 8))
  F9 : Fun K "_law_names" "_law_names" s9 (fa 9) (fdd 9)
  B9 : Binds K (fdd 9) ["box", "many"] []
  M9 : mg "_law_names" = some (.ref (fa 9))
  F10 : Fun K "_law_parts" "_law_parts" s10 (fa 10) (fdd 10)
  B10 : Binds K (fdd 10) ["term"] []
  M10 : mg "_law_parts" = some (.ref (fa 10))
  F11 : Fun K "_law_places" "_law_places" s11 (fa 11) (fdd 11)
  B11 : Binds K (fdd 11) ["term"] []
  M11 : mg "_law_places" = some (.ref (fa 11))
  F12 : Fun K "_law_term" "_law_term" s12 (fa 12) (fdd 12)
  B12 : Binds K (fdd 12) ["box", "w", "bound", "deep"] []
  M12 : mg "_law_term" = some (.ref (fa 12))
  F13 : Fun K "_law_term_case" "_law_term_case" s13 (fa 13) (fdd 13)
  B13 : Binds K (fdd 13) ["box", "w", "bound", "one", "deep"] []
  M13 : mg "_law_term_case" = some (.ref (fa 13))
  F14 : Fun K "_law_named" "_law_named" s14 (fa 14) (fdd 14)
  B14 : Binds K (fdd 14) ["term", "place", "bound"] []
  M14 : mg "_law_named" = some (.ref (fa 14))
  F15 : Fun K "_law_part" "_law_part" s15 (fa 15) (fdd 15)
  B15 : Binds K (fdd 15) ["term", "place"] []
  M15 : mg "_law_part" = some (.ref (fa 15))
  F16 : Fun K "_law_is_bound" "_law_is_bound" s16 (fa 16) (fdd 16)
  B16 : Binds K (fdd 16) ["term", "place", "x"] []
  M16 : mg "_law_is_bound" = some (.ref (fa 16))
  F17 : Fun K "_law_looked_up" "_law_looked_up" s17 (fa 17) (fdd 17)
  B17 : Binds K (fdd 17) ["term"] []
  M17 : mg "_law_looked_up" = some (.ref (fa 17))
  F18 : Fun K "_law_right" "_law_right" s18 (fa 18) (fdd 18)
  B18 : Binds K (fdd 18) ["box"] []
  M18 : mg "_law_right" = some (.ref (fa 18))
  F19 : Fun K "law" "law" s19 (fa 19) (fdd 19)
  B19 : Binds K (fdd 19) ["script"] []
  M19 : mg "law" = some (.ref (fa 19))
  L_TERMS_AT : KDt K w mg "TERMS_AT" kl_TERMS_AT
  zabs : mg "abs" = none
  zall : mg "all" = none
  zbool : mg "bool" = none
  zdivmod : mg "divmod" = none
  zenumerate : mg "enumerate" = none
  zint : mg "int" = none
  zisinstance : mg "isinstance" = none
  zlen : mg "len" = none
  zlist : mg "list" = none
  zmax : mg "max" = none
  zmin : mg "min" = none
  zrange : mg "range" = none
  zsorted : mg "sorted" = none
  zstr : mg "str" = none
  ztuple : mg "tuple" = none
  zzip : mg "zip" = none
structure AllOk (P : Program) (w : World) (K : PySem.W.Frag) (mg : Str → Option Value) (base : Heap) (fa : Nat → Addr) (fdd : Nat → FuncData) (k : Nat) : Prop where
  f0 : FnOk P w K mg base CX0 k (fa 0) (fdd 0) ["term"] (liM K (SP k 0))
  f1 : FnOk P w K mg base CX0 k (fa 1) (fdd 1) ["term", "first", "known", "around"] (liM K (SP k 1))
  f2 : FnOk P w K mg base CX0 k (fa 2) (fdd 2) ["term"] (liM K (SP k 2))
  f3 : FnOk P w K mg base CX0 k (fa 3) (fdd 3) ["term"] (liM K (SP k 3))
  f4 : FnOk P w K mg base CX0 k (fa 4) (fdd 4) ["term"] (liM K (SP k 4))
  f5 : FnOk P w K mg base CX0 k (fa 5) (fdd 5) ["script", "k"] (liM K (SP k 5))
  f6 : FnOk P w K mg base CX0 k (fa 6) (fdd 6) ["box", "size"] (liM K (SP k 6))
  f7 : FnOk P w K mg base CX0 k (fa 7) (fdd 7) ["found", "due"] (liM K (SP k 7))
  f8 : FnOk P w K mg base CX0 k (fa 8) (fdd 8) ["box", "some"] (liM K (SP k 8))
  f9 : FnOk P w K mg base CX0 k (fa 9) (fdd 9) ["box", "many"] (liM K (SP k 9))
  f10 : FnOk P w K mg base CX0 k (fa 10) (fdd 10) ["term"] (liM K (SP k 10))
  f11 : FnOk P w K mg base CX0 k (fa 11) (fdd 11) ["term"] (liM K (SP k 11))
  f12 : FnOk P w K mg base CX0 k (fa 12) (fdd 12) ["box", "w", "bound", "deep"] (liM K (SP k 12))
  f13 : FnOk P w K mg base CX0 k (fa 13) (fdd 13) ["box", "w", "bound", "one", "deep"] (liM K (SP k 13))
  f14 : FnOk P w K mg base CX0 k (fa 14) (fdd 14) ["term", "place", "bound"] (liM K (SP k 14))
  f15 : FnOk P w K mg base CX0 k (fa 15) (fdd 15) ["term", "place"] (liM K (SP k 15))
  f16 : FnOk P w K mg base CX0 k (fa 16) (fdd 16) ["term", "place", "x"] (liM K (SP k 16))
  f17 : FnOk P w K mg base CX0 k (fa 17) (fdd 17) ["term"] (liM K (SP k 17))
  f18 : FnOk P w K mg base CX0 k (fa 18) (fdd 18) ["box"] (liM K (SP k 18))
  f19 : FnOk P w K mg base CX0 k (fa 19) (fdd 19) ["script"] (liM K (SP k 19))
section
variable {P : Program} {w : World} {K : PySem.W.Frag} {mg : Str → Option Value} {base : Heap} {fa : Nat → Addr} {fdd : Nat → FuncData} {k : Nat}
theorem sc0 : FnScope ["term", "head", "pair", "way", "k"] ["term"] (defScope s0) := ⟨rfl, rfl, rfl, by decide +kernel, rfl, by decide +kernel, by decide +kernel⟩
theorem ok0 (Z : Txt w K mg fa fdd) (AA : AllOk P w K mg base fa fdd k) : FnOk P w K mg base CX0 (k + 1) (fa 0) (fdd 0) ["term"] (liM K (SP (k + 1) 0)) :=
  fn_ok (b := b0 (SP k)) Z.F0 sc0 (fun cdv Ar outer s H E hr => have nd := sc0.nd
   (ss_cons (s_set (i := 1) nd rfl (Or.inl rfl) (o_ix ix_oIx (o_var 0 (pe_var rfl (.inr (.inl rfl)))) (o_c pe_int) (fun _ _ => rfl)))
    (ss_cons (s_if (t_cmp (op_oEq hr.units) (o_var 1 (pe_var rfl (.inl rfl))) (o_c pe_str)) (ss_one (s_ret (o_lst a_nil))) ss_nil)
    (ss_cons (s_if (t_cmp (op_oEq hr.units) (o_var 1 (pe_var rfl (.inl rfl))) (o_c pe_str)) (ss_one (s_ret (o_lst (a_cons (o_ix ix_oIx (o_var 0 (pe_var rfl (.inr (.inl rfl)))) (o_c pe_int) (fun _ _ => rfl)) a_nil)))) ss_nil)
    (ss_cons (s_if (t_cmp (op_oEq hr.units) (o_var 1 (pe_var rfl (.inl rfl))) (o_c pe_str)) (ss_one (s_ret (o_lc (own := [("pair", 2)]) (gt := (gName 2)) rfl nd (i_seq (o_ix ix_oIx (o_var 0 (pe_var rfl (.inr (.inl rfl)))) (o_c pe_int) (fun _ _ => rfl))) (blkOk_by (N := ["term", "head", "pair", "way", "k"]) (sc := defScope s0) (by decide +kernel)) (fun _ _ _ _ _ => (gv_name 2 (pg_name nd rfl (.inl rfl)) (by decide))) (fun _ _ _ _ _ => ots_nil) (fun _ _ _ _ _ => (o_ix ix_oIx (o_var 2 (pe_var rfl (.inl rfl))) (o_c pe_int) (fun _ _ => rfl)))))) ss_nil)
    (ss_cons (s_if (t_cmp (op_oEq hr.units) (o_var 1 (pe_var rfl (.inl rfl))) (o_c pe_str)) (ss_one (s_ret (o_op op_oAdd (o_lst (a_cons (o_ix ix_oIx (o_var 0 (pe_var rfl (.inr (.inl rfl)))) (o_c pe_int) (fun _ _ => rfl)) a_nil)) (o_lc (own := [("way", 3)]) (gt := (gName 3)) rfl nd (i_seq (o_ix ix_oIx (o_var 0 (pe_var rfl (.inr (.inl rfl)))) (o_c pe_int) (fun _ _ => rfl))) (blkOk_by (N := ["term", "head", "pair", "way", "k"]) (sc := defScope s0) (by decide +kernel)) (fun _ _ _ _ _ => (gv_name 3 (pg_name nd rfl (.inl rfl)) (by decide))) (fun _ _ _ _ _ => ots_nil) (fun _ _ _ _ _ => (o_ix ix_oIx (o_var 3 (pe_var rfl (.inl rfl))) (o_c pe_int) (fun _ _ => rfl))))))) ss_nil)
    (ss_one (s_ret (o_lc (own := [("k", 4)]) (gt := (gName 4)) rfl nd (i_ksrc Z.L_TERMS_AT rfl (o_var 1 (pe_var rfl (.inl rfl))) (fun _ _ => rfl)) (blkOk_by (N := ["term", "head", "pair", "way", "k"]) (sc := defScope s0) (by decide +kernel)) (fun _ _ _ _ _ => (gv_name 4 (pg_name nd rfl (.inl rfl)) (by decide))) (fun _ _ _ _ _ => ots_nil) (fun _ _ _ _ _ => (o_ix ix_oIx (o_var 0 (pe_var rfl (by first | exact .inr (.inl rfl) | exact .inr (.inr rfl)))) (o_var 4 (pe_var rfl (.inl rfl))) (fun _ _ => rfl))))))))))))
theorem sc1 : FnScope ["term", "first", "known", "around", "found", "free", "todo", "part", "scope", "head", "which", "number", "way", "inner"] ["term", "first", "known", "around"] (defScope s1) := ⟨rfl, rfl, rfl, by decide +kernel, rfl, by decide +kernel, by decide +kernel⟩
theorem ok1 (Z : Txt w K mg fa fdd) (AA : AllOk P w K mg base fa fdd k) : FnOk P w K mg base CX0 (k + 1) (fa 1) (fdd 1) ["term", "first", "known", "around"] (liM K (SP (k + 1) 1)) :=
  fn_ok (b := b1 (SP k)) Z.F1 sc1 (fun cdv Ar outer s H E hr => have nd := sc1.nd
   (ss_cons (s_set (i := 4) nd rfl (Or.inl rfl) (o_lst a_nil))
    (ss_cons (s_set (i := 5) nd rfl (Or.inl rfl) (o_var 1 (pe_var rfl (.inl rfl))))
    (ss_cons (s_set (i := 6) nd rfl (Or.inl rfl) (o_lst (a_cons (o_tup (a_cons (o_var 0 (pe_var rfl (.inl rfl))) (a_cons (o_var 3 (pe_var rfl (.inl rfl))) a_nil))) a_nil)))
    (ss_cons (s_while PassesOwn.never (t_tru (o_var 6 (pe_var rfl (.inl rfl)))) (ss_cons (s_asg (o_bm0 PySem.F.plainAttrs_list PySem.F.slot_list_pop PySem.F.type_list_pop mt_oPop (o_var 6 (pe_var rfl (.inl rfl)))) (g_tup rfl (gs_cons (g_name 7 (pg_name nd rfl (.inl rfl))) (gs_cons (g_name 8 (pg_name nd rfl (.inl rfl))) gs_nil))))
    (ss_cons (s_set (i := 9) nd rfl (Or.inl rfl) (o_ix ix_oIx (o_var 7 (pe_var rfl (.inl rfl))) (o_c pe_int) (fun _ _ => rfl)))
    (ss_cons (s_set (i := 10) nd rfl (Or.inl rfl) (o_c pe_non))
    (ss_cons (s_if (t_cmp (op_oEq hr.units) (o_var 9 (pe_var rfl (.inl rfl))) (o_c pe_str)) (ss_cons (s_set (i := 10) nd rfl (Or.inl rfl) (o_get1 (hu_of hr) (o_var 8 (pe_var rfl (.inl rfl))) (o_ix ix_oIx (o_var 7 (pe_var rfl (.inl rfl))) (o_c pe_int) (fun _ _ => rfl)) ⟨rfl, rfl, rfl, rfl⟩))
    (ss_one (s_if (t_cmp op_oIsN (o_var 10 (pe_var rfl (.inl rfl))) (o_c pe_non)) (ss_one (s_set (i := 10) nd rfl (Or.inl rfl) (o_get1 (hu_of hr) (o_var 2 (pe_var rfl (.inl rfl))) (o_ix ix_oIx (o_var 7 (pe_var rfl (.inl rfl))) (o_c pe_int) (fun _ _ => rfl)) ⟨rfl, rfl, rfl, rfl⟩))) ss_nil))) (ss_one (s_if (t_cmp (op_oEq hr.units) (o_var 9 (pe_var rfl (.inl rfl))) (o_c pe_str)) (ss_one (s_set (i := 10) nd rfl (Or.inl rfl) (o_get1E (hu_of hr) (o_var 2 (pe_var rfl (.inl rfl))) (o_tup (a_cons (o_ix ix_oIx (o_var 7 (pe_var rfl (.inl rfl))) (o_c pe_int) (fun _ _ => rfl)) (a_cons (o_ix ix_oIx (o_var 7 (pe_var rfl (.inl rfl))) (o_c pe_int) (fun _ _ => rfl)) a_nil))) ⟨rfl, rfl, rfl, rfl⟩))) (ss_one (s_if (t_cmp (op_oEq hr.units) (o_var 9 (pe_var rfl (.inl rfl))) (o_c pe_str)) (ss_cons (s_set (i := 10) nd rfl (Or.inl rfl) (o_var 5 (pe_var rfl (.inl rfl))))
    (ss_cons (s_augI (i := 5) nd rfl (Or.inl rfl) (o_c pe_int))
    (ss_one (s_expr (o_bm PySem.F.plainAttrs_list PySem.F.slot_list_append PySem.F.type_list_append mt_oAppend (o_var 6 (pe_var rfl (.inl rfl))) (a_cons (o_tup (a_cons (o_ix ix_oIx (o_var 7 (pe_var rfl (.inl rfl))) (o_c pe_int) (fun _ _ => rfl)) (a_cons (o_merge (o_var 8 (pe_var rfl (.inl rfl))) (o_ix ix_oIx (o_var 7 (pe_var rfl (.inl rfl))) (o_c pe_int) (fun _ _ => rfl)) (o_var 10 (pe_var rfl (.inl rfl)))) a_nil))) a_nil)))))) (ss_one (s_if (t_cmp (op_oEq hr.units) (o_var 9 (pe_var rfl (.inl rfl))) (o_c pe_str)) (ss_cons (s_set (i := 10) nd rfl (Or.inl rfl) (o_var 5 (pe_var rfl (.inl rfl))))
    (ss_cons (s_augI (i := 5) nd rfl (Or.inl rfl) (o_callB c_len rfl Z.zlen PySem.boot_len (a_cons (o_ix ix_oIx (o_var 7 (pe_var rfl (.inl rfl))) (o_c pe_int) (fun _ _ => rfl)) a_nil)))
    (ss_cons (s_expr (o_bm PySem.F.plainAttrs_list PySem.F.slot_list_append PySem.F.type_list_append mt_oAppend (o_var 6 (pe_var rfl (.inl rfl))) (a_cons (o_tup (a_cons (o_ix ix_oIx (o_var 7 (pe_var rfl (.inl rfl))) (o_c pe_int) (fun _ _ => rfl)) (a_cons (o_var 8 (pe_var rfl (.inl rfl))) a_nil))) a_nil)))
    (ss_one (s_for PassesOwn.never rfl (i_enumK rfl Z.zenumerate (o_ix ix_oIx (o_var 7 (pe_var rfl (.inl rfl))) (o_c pe_int) (fun _ _ => rfl)) (o_var 10 (pe_var rfl (.inl rfl)))) (g_tup rfl (gs_cons (g_name 11 (pg_name nd rfl (.inl rfl))) (gs_cons (g_name 12 (pg_name nd rfl (.inl rfl))) gs_nil))) (ss_one (s_expr (o_bm PySem.F.plainAttrs_list PySem.F.slot_list_append PySem.F.type_list_append mt_oAppend (o_var 6 (pe_var rfl (.inl rfl))) (a_cons (o_tup (a_cons (o_ix ix_oIx (o_var 12 (pe_var rfl (.inl rfl))) (o_c pe_int) (fun _ _ => rfl)) (a_cons (o_merge (o_var 8 (pe_var rfl (.inl rfl))) (o_ix ix_oIx (o_var 12 (pe_var rfl (.inl rfl))) (o_c pe_int) (fun _ _ => rfl)) (o_var 11 (pe_var rfl (.inl rfl)))) a_nil))) a_nil))))))))) (ss_one (s_for PassesOwn.never rfl (i_seq (o_call AA.f0 hr rfl Z.M0 Z.F0.kp Z.B0 pass0 (a_cons (o_var 7 (pe_var rfl (.inl rfl))) a_nil))) (g_name 13 (pg_name nd rfl (.inl rfl))) (ss_one (s_expr (o_bm PySem.F.plainAttrs_list PySem.F.slot_list_append PySem.F.type_list_append mt_oAppend (o_var 6 (pe_var rfl (.inl rfl))) (a_cons (o_tup (a_cons (o_var 13 (pe_var rfl (.inl rfl))) (a_cons (o_var 8 (pe_var rfl (.inl rfl))) a_nil))) a_nil)))))))))))))
    (ss_one (s_expr (o_bm PySem.F.plainAttrs_list PySem.F.slot_list_append PySem.F.type_list_append mt_oAppend (o_var 4 (pe_var rfl (.inl rfl))) (a_cons (o_tup (a_cons (o_var 7 (pe_var rfl (.inl rfl))) (a_cons (o_var 10 (pe_var rfl (.inl rfl))) a_nil))) a_nil)))))))))
    (ss_one (s_ret (o_rev (o_var 4 (pe_var rfl (.inl rfl)))))))))))
theorem sc2 : FnScope ["term", "place", "_"] ["term"] (defScope s2) := ⟨rfl, rfl, rfl, by decide +kernel, rfl, by decide +kernel, by decide +kernel⟩
theorem ok2 (Z : Txt w K mg fa fdd) (AA : AllOk P w K mg base fa fdd k) : FnOk P w K mg base CX0 (k + 1) (fa 2) (fdd 2) ["term"] (liM K (SP (k + 1) 2)) :=
  fn_ok (b := b2 (SP k)) Z.F2 sc2 (fun cdv Ar outer s H E hr => have nd := sc2.nd
   (ss_one (s_ret (o_lc (own := [("place", 1), ("_", 2)]) (gt := (gTup _ 2 (gCons (gName 1) (gCons (gName 2) gNil)))) rfl nd (i_seq (o_call AA.f3 hr rfl Z.M3 Z.F3.kp Z.B3 pass0 (a_cons (o_var 0 (pe_var rfl (.inl rfl))) a_nil))) (blkOk_by (N := ["term", "place", "_"]) (sc := defScope s2) (by decide +kernel)) (fun _ _ _ _ _ => (gv_tup rfl (gvs_cons (gv_name 1 (pg_name nd rfl (.inl rfl)) (by decide)) (gvs_cons (gv_name 2 (pg_name nd rfl (.inl rfl)) (by decide)) gvs_nil)))) (fun _ _ _ _ _ => ots_nil) (fun _ _ _ _ _ => (o_var 1 (pe_var rfl (.inl rfl))))))))
theorem sc3 : FnScope ["term", "found", "todo", "place", "part", "k", "inner"] ["term"] (defScope s3) := ⟨rfl, rfl, rfl, by decide +kernel, rfl, by decide +kernel, by decide +kernel⟩
theorem ok3 (Z : Txt w K mg fa fdd) (AA : AllOk P w K mg base fa fdd k) : FnOk P w K mg base CX0 (k + 1) (fa 3) (fdd 3) ["term"] (liM K (SP (k + 1) 3)) :=
  fn_ok (b := b3 (SP k)) Z.F3 sc3 (fun cdv Ar outer s H E hr => have nd := sc3.nd
   (ss_cons (s_set (i := 1) nd rfl (Or.inl rfl) (o_lst a_nil))
    (ss_cons (s_set (i := 2) nd rfl (Or.inl rfl) (o_lst (a_cons (o_tup (a_cons (o_tup a_nil) (a_cons (o_var 0 (pe_var rfl (.inl rfl))) a_nil))) a_nil)))
    (ss_cons (s_while PassesOwn.never (t_tru (o_var 2 (pe_var rfl (.inl rfl)))) (ss_cons (s_asg (o_bm0 PySem.F.plainAttrs_list PySem.F.slot_list_pop PySem.F.type_list_pop mt_oPop (o_var 2 (pe_var rfl (.inl rfl)))) (g_tup rfl (gs_cons (g_name 3 (pg_name nd rfl (.inl rfl))) (gs_cons (g_name 4 (pg_name nd rfl (.inl rfl))) gs_nil))))
    (ss_cons (s_expr (o_bm PySem.F.plainAttrs_list PySem.F.slot_list_append PySem.F.type_list_append mt_oAppend (o_var 1 (pe_var rfl (.inl rfl))) (a_cons (o_tup (a_cons (o_var 3 (pe_var rfl (.inl rfl))) (a_cons (o_var 4 (pe_var rfl (.inl rfl))) a_nil))) a_nil)))
    (ss_one (s_for PassesOwn.never rfl (i_enum rfl Z.zenumerate (o_call AA.f0 hr rfl Z.M0 Z.F0.kp Z.B0 pass0 (a_cons (o_var 4 (pe_var rfl (.inl rfl))) a_nil))) (g_tup rfl (gs_cons (g_name 5 (pg_name nd rfl (.inl rfl))) (gs_cons (g_name 6 (pg_name nd rfl (.inl rfl))) gs_nil))) (ss_one (s_expr (o_bm PySem.F.plainAttrs_list PySem.F.slot_list_append PySem.F.type_list_append mt_oAppend (o_var 2 (pe_var rfl (.inl rfl))) (a_cons (o_tup (a_cons (o_op op_oAdd (o_var 3 (pe_var rfl (.inl rfl))) (o_tup (a_cons (o_var 5 (pe_var rfl (.inl rfl))) a_nil))) (a_cons (o_var 6 (pe_var rfl (.inl rfl))) a_nil))) a_nil)))))))))
    (ss_one (s_ret (o_rev (o_var 1 (pe_var rfl (.inl rfl))))))))))
theorem sc4 : FnScope ["term", "found", "place", "part", "which"] ["term"] (defScope s4) := ⟨rfl, rfl, rfl, by decide +kernel, rfl, by decide +kernel, by decide +kernel⟩
theorem ok4 (Z : Txt w K mg fa fdd) (AA : AllOk P w K mg base fa fdd k) : FnOk P w K mg base CX0 (k + 1) (fa 4) (fdd 4) ["term"] (liM K (SP (k + 1) 4)) :=
  fn_ok (b := b4 (SP k)) Z.F4 sc4 (fun cdv Ar outer s H E hr => have nd := sc4.nd
   (ss_cons (s_set (i := 1) nd rfl (Or.inl rfl) (o_lst a_nil))
    (ss_cons (s_for PassesOwn.never rfl (i_zip rfl Z.zzip (o_call AA.f2 hr rfl Z.M2 Z.F2.kp Z.B2 pass0 (a_cons (o_var 0 (pe_var rfl (.inl rfl))) a_nil)) (o_call AA.f1 hr rfl Z.M1 Z.F1.kp Z.B1 pass0 (a_cons (o_var 0 (pe_var rfl (.inl rfl))) (a_cons (o_c pe_int) (a_cons (o_dnew) (a_cons (o_dnew) a_nil)))))) (g_tup rfl (gs_cons (g_name 2 (pg_name nd rfl (.inl rfl))) (gs_cons (g_tup rfl (gs_cons (g_name 3 (pg_name nd rfl (.inl rfl))) (gs_cons (g_name 4 (pg_name nd rfl (.inl rfl))) gs_nil))) gs_nil))) (ss_one (s_if (t_cmp (op_oEq hr.units) (o_ix ix_oIx (o_var 3 (pe_var rfl (.inl rfl))) (o_c pe_int) (fun _ _ => rfl)) (o_c pe_str)) (ss_one (s_expr (o_bm PySem.F.plainAttrs_list PySem.F.slot_list_append PySem.F.type_list_append mt_oAppend (o_var 1 (pe_var rfl (.inl rfl))) (a_cons (o_tup (a_cons (o_var 2 (pe_var rfl (.inl rfl))) (a_cons (o_tup (a_cons (o_ix ix_oIx (o_var 3 (pe_var rfl (.inl rfl))) (o_c pe_int) (fun _ _ => rfl)) (a_cons (o_ix ix_oIx (o_var 3 (pe_var rfl (.inl rfl))) (o_c pe_int) (fun _ _ => rfl)) a_nil))) a_nil))) a_nil)))) (ss_one (s_if (OW.t (w_and (t_cmp (op_oEq hr.units) (o_ix ix_oIx (o_var 3 (pe_var rfl (.inl rfl))) (o_c pe_int) (fun _ _ => rfl)) (o_c pe_str)) (w_and1 (t_cmp op_oIsN (o_var 4 (pe_var rfl (.inl rfl))) (o_c pe_non))))) (ss_one (s_expr (o_bm PySem.F.plainAttrs_list PySem.F.slot_list_append PySem.F.type_list_append mt_oAppend (o_var 1 (pe_var rfl (.inl rfl))) (a_cons (o_tup (a_cons (o_var 2 (pe_var rfl (.inl rfl))) (a_cons (o_ix ix_oIx (o_var 3 (pe_var rfl (.inl rfl))) (o_c pe_int) (fun _ _ => rfl)) a_nil))) a_nil)))) ss_nil)))))
    (ss_one (s_ret (o_var 1 (pe_var rfl (.inl rfl))))))))
theorem sc5 : FnScope ["script", "k", "cell"] ["script", "k"] (defScope s5) := ⟨rfl, rfl, rfl, by decide +kernel, rfl, by decide +kernel, by decide +kernel⟩
theorem ok5 (Z : Txt w K mg fa fdd) (AA : AllOk P w K mg base fa fdd k) : FnOk P w K mg base CX0 (k + 1) (fa 5) (fdd 5) ["script", "k"] (liM K (SP (k + 1) 5)) :=
  fn_ok (b := b5 (SP k)) Z.F5 sc5 (fun cdv Ar outer s H E hr => have nd := sc5.nd
   (ss_cons (s_set (i := 2) nd rfl (Or.inl rfl) (o_if (t_cmp op_oLtU (o_var 1 (pe_var rfl (.inl rfl))) (o_callB c_len rfl Z.zlen PySem.boot_len (a_cons (o_var 0 (pe_var rfl (.inl rfl))) a_nil))) (o_ix ix_oIx (o_var 0 (pe_var rfl (.inl rfl))) (o_var 1 (pe_var rfl (.inl rfl))) (fun _ _ => rfl)) (o_c pe_int)))
    (ss_one (s_ret (o_lst (a_cons (o_op op_oMulU (o_callB c_abs rfl Z.zabs (by decide +kernel) (a_cons (o_var 2 (pe_var rfl (.inl rfl))) a_nil)) (o_callTy c_int rfl Z.zint (by decide +kernel) (a_cons (o_cmp op_oGeU (o_callB c_abs rfl Z.zabs (by decide +kernel) (a_cons (o_var 2 (pe_var rfl (.inl rfl))) a_nil)) (o_op op_oPow (o_c pe_int) (o_c pe_int))) a_nil))) (a_cons (o_op op_oMod (o_op op_oMulU (o_op op_oAdd (o_op op_oAdd (o_op op_oMod (o_var 2 (pe_var rfl (.inl rfl))) (o_c pe_int)) (o_op op_oMulU (o_c pe_int) (o_var 1 (pe_var rfl (.inl rfl))))) (o_c pe_int)) (o_c pe_int)) (o_c pe_int)) (a_cons (o_c pe_int) a_nil))))))))
theorem sc6 : FnScope ["box", "size", "found", "step", "once", "twice"] ["box", "size"] (defScope s6) := ⟨rfl, rfl, rfl, by decide +kernel, rfl, by decide +kernel, by decide +kernel⟩
theorem ok6 (Z : Txt w K mg fa fdd) (AA : AllOk P w K mg base fa fdd k) : FnOk P w K mg base CX0 (k + 1) (fa 6) (fdd 6) ["box", "size"] (liM K (SP (k + 1) 6)) :=
  fn_ok (b := b6 (SP k)) Z.F6 sc6 (fun cdv Ar outer s H E hr => have nd := sc6.nd
   (ss_cons (s_if (t_cmp op_oGtU (o_ix ix_oIx (o_var 0 (pe_var rfl (.inl rfl))) (o_c pe_int) (fun _ _ => rfl)) (o_c pe_int)) (ss_cons (s_asg (o_callB c_divmod rfl Z.zdivmod (by decide +kernel) (a_cons (o_ix ix_oIx (o_var 0 (pe_var rfl (.inl rfl))) (o_c pe_int) (fun _ _ => rfl)) (a_cons (o_var 1 (pe_var rfl (.inl rfl))) a_nil))) (g_tup rfl (gs_cons (g_sub (o_var 0 (pe_var rfl (.inl rfl))) (o_c pe_int) set_osLst) (gs_cons (g_name 2 (pg_name nd rfl (.inl rfl))) gs_nil))))
    (ss_one (s_ret (o_var 2 (pe_var rfl (.inl rfl)))))) ss_nil)
    (ss_cons (s_if (t_cmp op_oGtU (o_var 1 (pe_var rfl (.inl rfl))) (o_op op_oPow (o_c pe_int) (o_c pe_int))) (ss_one (s_ret (o_op op_oMod (o_op op_oAdd (o_call AA.f6 hr rfl Z.M6 Z.F6.kp Z.B6 pass0 (a_cons (o_var 0 (pe_var rfl (.inl rfl))) (a_cons (o_op op_oPow (o_c pe_int) (o_c pe_int)) a_nil))) (o_op op_oMulU (o_op op_oPow (o_c pe_int) (o_c pe_int)) (o_call AA.f6 hr rfl Z.M6 Z.F6.kp Z.B6 pass0 (a_cons (o_var 0 (pe_var rfl (.inl rfl))) (a_cons (o_op op_oAdd (o_op op_oFdiv (o_op op_oSub (o_var 1 (pe_var rfl (.inl rfl))) (o_c pe_int)) (o_op op_oPow (o_c pe_int) (o_c pe_int))) (o_c pe_int)) a_nil))))) (o_var 1 (pe_var rfl (.inl rfl)))))) ss_nil)
    (ss_cons (s_asg (o_op op_oAdd (o_ix ix_oIx (o_var 0 (pe_var rfl (.inl rfl))) (o_c pe_int) (fun _ _ => rfl)) (o_c pe_int)) (g_sub (o_var 0 (pe_var rfl (.inl rfl))) (o_c pe_int) set_osLst))
    (ss_cons (s_set (i := 3) nd rfl (Or.inl rfl) (o_op op_oAdd (o_c pe_int) (o_op op_oMulU (o_ix ix_oIx (o_var 0 (pe_var rfl (.inl rfl))) (o_c pe_int) (fun _ _ => rfl)) (o_ix ix_oIx (o_var 0 (pe_var rfl (.inl rfl))) (o_c pe_int) (fun _ _ => rfl)))))
    (ss_cons (s_set (i := 4) nd rfl (Or.inl rfl) (o_op op_oMod (o_op op_oMulU (o_op op_oAdd (o_ix ix_oIx (o_var 0 (pe_var rfl (.inl rfl))) (o_c pe_int) (fun _ _ => rfl)) (o_op op_oMulU (o_c pe_int) (o_ix ix_oIx (o_var 0 (pe_var rfl (.inl rfl))) (o_c pe_int) (fun _ _ => rfl)))) (o_var 3 (pe_var rfl (.inl rfl)))) (o_c pe_int)))
    (ss_cons (s_set (i := 5) nd rfl (Or.inl rfl) (o_op op_oMod (o_op op_oAdd (o_op op_oMulU (o_var 4 (pe_var rfl (.inl rfl))) (o_op op_oAdd (o_op op_oMod (o_var 4 (pe_var rfl (.inl rfl))) (o_c pe_int)) (o_c pe_int))) (o_ix ix_oIx (o_var 0 (pe_var rfl (.inl rfl))) (o_c pe_int) (fun _ _ => rfl))) (o_c pe_int)))
    (ss_one (s_ret (o_op op_oMod (o_op op_oFdiv (o_op op_oMod (o_op op_oMulU (o_var 5 (pe_var rfl (.inl rfl))) (o_op op_oAdd (o_op op_oMod (o_var 5 (pe_var rfl (.inl rfl))) (o_c pe_int)) (o_c pe_int))) (o_c pe_int)) (o_c pe_int)) (o_var 1 (pe_var rfl (.inl rfl)))))))))))))
theorem sc7 : FnScope ["found", "due", "one", "other"] ["found", "due"] (defScope s7) := ⟨rfl, rfl, rfl, by decide +kernel, rfl, by decide +kernel, by decide +kernel⟩
theorem ok7 (Z : Txt w K mg fa fdd) (AA : AllOk P w K mg base fa fdd k) : FnOk P w K mg base CX0 (k + 1) (fa 7) (fdd 7) ["found", "due"] (liM K (SP (k + 1) 7)) :=
  fn_ok (b := b7 (SP k)) Z.F7 sc7 (fun cdv Ar outer s H E hr => have nd := sc7.nd
   (ss_cons (s_if (t_tru (o_isi2 (o_var 1 (pe_var rfl (.inl rfl))) (pe_bltn (v := .ty "list") rfl Z.zlist (by decide +kernel) rfl) (pe_bltn (v := .ty "tuple") rfl Z.ztuple (by decide +kernel) rfl) rfl Z.zisinstance)) (ss_cons (s_if (OW.t (w_or (t_cmp (op_oNe hr.units) (o_callB c_isi rfl Z.zisinstance PyProof.Rows.boot_isinstance (a_cons (o_var 0 (pe_var rfl (.inl rfl))) (a_cons (o_c (pe_bltn (v := .ty "list") rfl Z.zlist (by decide +kernel) rfl)) a_nil))) (o_callB c_isi rfl Z.zisinstance PyProof.Rows.boot_isinstance (a_cons (o_var 1 (pe_var rfl (.inl rfl))) (a_cons (o_c (pe_bltn (v := .ty "list") rfl Z.zlist (by decide +kernel) rfl)) a_nil)))) (w_or1 (t_cmp (op_oNe hr.units) (o_callB c_isi rfl Z.zisinstance PyProof.Rows.boot_isinstance (a_cons (o_var 0 (pe_var rfl (.inl rfl))) (a_cons (o_c (pe_bltn (v := .ty "tuple") rfl Z.ztuple (by decide +kernel) rfl)) a_nil))) (o_callB c_isi rfl Z.zisinstance PyProof.Rows.boot_isinstance (a_cons (o_var 1 (pe_var rfl (.inl rfl))) (a_cons (o_c (pe_bltn (v := .ty "tuple") rfl Z.ztuple (by decide +kernel) rfl)) a_nil))))))) (ss_one (s_ret (o_c pe_bl))) ss_nil)
    (ss_one (s_ret (o_and (o_cmp (op_oEq hr.units) (o_callB c_len rfl Z.zlen PySem.boot_len (a_cons (o_var 0 (pe_var rfl (.inl rfl))) a_nil)) (o_callB c_len rfl Z.zlen PySem.boot_len (a_cons (o_var 1 (pe_var rfl (.inl rfl))) a_nil))) (o_one (o_callB (c_all rfl) rfl Z.zall (by decide +kernel) (a_cons (o_lc (own := [("one", 2), ("other", 3)]) (gt := (gTup _ 2 (gCons (gName 2) (gCons (gName 3) gNil)))) rfl nd (i_zip rfl Z.zzip (o_var 0 (pe_var rfl (.inl rfl))) (o_var 1 (pe_var rfl (.inl rfl)))) (blkOk_by (N := ["found", "due", "one", "other"]) (sc := defScope s7) (by decide +kernel)) (fun _ _ _ _ _ => (gv_tup rfl (gvs_cons (gv_name 2 (pg_name nd rfl (.inl rfl)) (by decide)) (gvs_cons (gv_name 3 (pg_name nd rfl (.inl rfl)) (by decide)) gvs_nil)))) (fun _ _ _ _ _ => ots_nil) (fun _ _ _ _ _ => (o_call AA.f7 hr rfl Z.M7 Z.F7.kp Z.B7 pass0 (a_cons (o_var 2 (pe_var rfl (.inl rfl))) (a_cons (o_var 3 (pe_var rfl (.inl rfl))) a_nil))))) a_nil))))))) ss_nil)
    (ss_cons (s_if (OW.t (w_or (t_cmp op_oIsN (o_var 1 (pe_var rfl (.inl rfl))) (o_c pe_non)) (w_or1 (t_tru (o_callB c_isi rfl Z.zisinstance PyProof.Rows.boot_isinstance (a_cons (o_var 1 (pe_var rfl (.inl rfl))) (a_cons (o_c (pe_bltn (v := .ty "str") rfl Z.zstr (by decide +kernel) rfl)) a_nil))))))) (ss_one (s_ret (o_and (o_cmp (op_oEq hr.units) (o_var 0 (pe_var rfl (.inl rfl))) (o_var 1 (pe_var rfl (.inl rfl)))) (o_one (o_cmp (op_oEq hr.units) (o_callB c_isi rfl Z.zisinstance PyProof.Rows.boot_isinstance (a_cons (o_var 0 (pe_var rfl (.inl rfl))) (a_cons (o_c (pe_bltn (v := .ty "str") rfl Z.zstr (by decide +kernel) rfl)) a_nil))) (o_callB c_isi rfl Z.zisinstance PyProof.Rows.boot_isinstance (a_cons (o_var 1 (pe_var rfl (.inl rfl))) (a_cons (o_c (pe_bltn (v := .ty "str") rfl Z.zstr (by decide +kernel) rfl)) a_nil)))))))) ss_nil)
    (ss_one (s_ret (o_and (o_callB c_isi rfl Z.zisinstance PyProof.Rows.boot_isinstance (a_cons (o_var 0 (pe_var rfl (.inl rfl))) (a_cons (o_c (pe_bltn (v := .ty "int") rfl Z.zint (by decide +kernel) rfl)) a_nil))) (o_and (o_cmp (op_oEq hr.units) (o_callB c_isi rfl Z.zisinstance PyProof.Rows.boot_isinstance (a_cons (o_var 0 (pe_var rfl (.inl rfl))) (a_cons (o_c (pe_bltn (v := .ty "bool") rfl Z.zbool (by decide +kernel) rfl)) a_nil))) (o_callB c_isi rfl Z.zisinstance PyProof.Rows.boot_isinstance (a_cons (o_var 1 (pe_var rfl (.inl rfl))) (a_cons (o_c (pe_bltn (v := .ty "bool") rfl Z.zbool (by decide +kernel) rfl)) a_nil)))) (o_one (o_cmp (op_oEq hr.units) (o_var 0 (pe_var rfl (.inl rfl))) (o_var 1 (pe_var rfl (.inl rfl))))))))))))
theorem sc8 : FnScope ["box", "some"] ["box", "some"] (defScope s8) := ⟨rfl, rfl, rfl, by decide +kernel, rfl, by decide +kernel, by decide +kernel⟩
theorem ok8 (Z : Txt w K mg fa fdd) (AA : AllOk P w K mg base fa fdd k) : FnOk P w K mg base CX0 (k + 1) (fa 8) (fdd 8) ["box", "some"] (liM K (SP (k + 1) 8)) :=
  fn_ok (b := b8 (SP k)) Z.F8 sc8 (fun cdv Ar outer s H E hr => have nd := sc8.nd
   (ss_one (s_ret (o_ix ix_oIx (o_var 1 (pe_var rfl (.inl rfl))) (o_call AA.f6 hr rfl Z.M6 Z.F6.kp Z.B6 pass0 (a_cons (o_var 0 (pe_var rfl (.inl rfl))) (a_cons (o_callB c_len rfl Z.zlen PySem.boot_len (a_cons (o_var 1 (pe_var rfl (.inl rfl))) a_nil)) a_nil))) (fun _ _ => rfl)))))
theorem sc9 : FnScope ["box", "many", "letters", "first", "found", "stem", "step", "longer", "k", "sign", "turn"] ["box", "many"] (defScope s9) := ⟨rfl, rfl, rfl, by decide +kernel, rfl, by decide +kernel, by decide +kernel⟩
theorem ok9 (Z : Txt w K mg fa fdd) (AA : AllOk P w K mg base fa fdd k) : FnOk P w K mg base CX0 (k + 1) (fa 9) (fdd 9) ["box", "many"] (liM K (SP (k + 1) 9)) :=
  fn_ok (b := b9 (SP k)) Z.F9 sc9 (fun cdv Ar outer s H E hr => have nd := sc9.nd
   (ss_cons (s_asg (o_tup (a_cons (o_c pe_str) (a_cons (o_call AA.f6 hr rfl Z.M6 Z.F6.kp Z.B6 pass0 (a_cons (o_var 0 (pe_var rfl (.inr (.inl rfl)))) (a_cons (o_c pe_int) a_nil))) (a_cons (o_lst a_nil) a_nil)))) (g_tup rfl (gs_cons (g_name 2 (pg_name nd rfl (.inr rfl))) (gs_cons (g_name 3 (pg_name nd rfl (.inl rfl))) (gs_cons (g_name 4 (pg_name nd rfl (.inl rfl))) gs_nil)))))
    (ss_cons (s_set (i := 5) nd rfl (Or.inl rfl) (o_bm PySem.F.plainAttrs_str PySem.F.slot_str_join PySem.F.type_str_join mt_oJoin (o_c pe_str) (a_cons (o_lc (own := [("turn", 10)]) (gt := (gName 10)) rfl nd (i_range rfl Z.zrange (o_call AA.f6 hr rfl Z.M6 Z.F6.kp Z.B6 pass0 (a_cons (o_var 0 (pe_var rfl (.inr (.inl rfl)))) (a_cons (o_c pe_int) a_nil)))) (blkOk_by (N := ["box", "many", "letters", "first", "found", "stem", "step", "longer", "k", "sign", "turn"]) (sc := defScope s9) (by decide +kernel)) (fun _ _ _ _ _ => (gv_name 10 (pg_name nd rfl (.inl rfl)) (by decide))) (fun _ _ _ _ _ => ots_nil) (fun _ _ _ _ _ => (o_ix ix_oIx (o_var 2 (pe_var rfl (by first | exact .inr (.inl rfl) | exact .inr (.inr rfl)))) (o_call AA.f6 hr rfl Z.M6 Z.F6.kp Z.B6 pass0 (a_cons (o_var 0 (pe_var rfl (by first | exact .inr (.inl rfl) | exact .inr (.inr rfl)))) (a_cons (o_c pe_int) a_nil))) (fun _ _ => rfl)))) a_nil)))
    (ss_cons (s_par (i := 6) (j := 7) rfl nd rfl rfl (by decide) rfl rfl (a_cons (o_ix ix_oIx (o_lst (a_cons (o_c pe_int) (a_cons (o_c pe_int) (a_cons (o_c pe_int) a_nil)))) (o_call AA.f6 hr rfl Z.M6 Z.F6.kp Z.B6 pass0 (a_cons (o_var 0 (pe_var rfl (.inr (.inl rfl)))) (a_cons (o_c pe_int) a_nil))) (fun _ _ => rfl)) (a_cons (o_call AA.f6 hr rfl Z.M6 Z.F6.kp Z.B6 pass0 (a_cons (o_var 0 (pe_var rfl (.inr (.inl rfl)))) (a_cons (o_c pe_int) a_nil))) a_nil)))
    (ss_cons (s_for PassesOwn.never rfl (i_range rfl Z.zrange (o_var 1 (pe_var rfl (.inl rfl)))) (g_name 8 (pg_name nd rfl (.inl rfl))) (ss_cons (s_set (i := 9) nd rfl (Or.inl rfl) (o_ix ix_oIx (o_var 2 (pe_var rfl (.inr (.inl rfl)))) (o_op op_oMod (o_op op_oAdd (o_var 3 (pe_var rfl (.inl rfl))) (o_op op_oMulU (o_var 6 (pe_var rfl (.inl rfl))) (o_if (t_cmp (op_oEq hr.units) (o_var 7 (pe_var rfl (.inl rfl))) (o_c pe_int)) (o_op op_oFdiv (o_var 8 (pe_var rfl (.inl rfl))) (o_c pe_int)) (o_var 8 (pe_var rfl (.inl rfl)))))) (o_c pe_int)) (fun _ _ => rfl)))
    (ss_one (s_expr (o_bm PySem.F.plainAttrs_list PySem.F.slot_list_append PySem.F.type_list_append mt_oAppend (o_var 4 (pe_var rfl (.inl rfl))) (a_cons (o_op op_oAdd (o_op op_oAdd (o_var 5 (pe_var rfl (.inl rfl))) (o_var 9 (pe_var rfl (.inl rfl)))) (o_op op_oMulU (o_c pe_str) (o_callTy c_int rfl Z.zint (by decide +kernel) (a_cons (o_and (o_cmp (op_oEq hr.units) (o_var 7 (pe_var rfl (.inl rfl))) (o_c pe_int)) (o_one (o_cmp (op_oEq hr.units) (o_op op_oMod (o_var 8 (pe_var rfl (.inl rfl))) (o_c pe_int)) (o_c pe_int)))) a_nil)))) a_nil))))))
    (ss_one (s_ret (o_var 4 (pe_var rfl (.inl rfl))))))))))
theorem sc10 : FnScope ["term", "word", "label", "part", "way"] ["term"] (defScope s10) := ⟨rfl, rfl, rfl, by decide +kernel, rfl, by decide +kernel, by decide +kernel⟩
theorem ok10 (Z : Txt w K mg fa fdd) (AA : AllOk P w K mg base fa fdd k) : FnOk P w K mg base CX0 (k + 1) (fa 10) (fdd 10) ["term"] (liM K (SP (k + 1) 10)) :=
  fn_ok (b := b10 (SP k)) Z.F10 sc10 (fun cdv Ar outer s H E hr => have nd := sc10.nd
   (ss_cons (s_set (i := 1) nd rfl (Or.inl rfl) (o_ix ix_oIx (o_var 0 (pe_var rfl (.inl rfl))) (o_c pe_int) (fun _ _ => rfl)))
    (ss_cons (s_if (t_cmp (op_oInA (hu65 hr)) (o_var 1 (pe_var rfl (.inl rfl))) (o_tup (a_cons (o_c pe_str) (a_cons (o_c pe_str) (a_cons (o_c pe_str) (a_cons (o_c pe_str) a_nil)))))) (ss_one (s_ret (o_lst a_nil))) ss_nil)
    (ss_cons (s_if (t_cmp (op_oEq hr.units) (o_var 1 (pe_var rfl (.inl rfl))) (o_c pe_str)) (ss_one (s_ret (o_lc (own := [("label", 2), ("part", 3)]) (gt := (gTup _ 2 (gCons (gName 2) (gCons (gName 3) gNil)))) rfl nd (i_seq (o_ix ix_oIx (o_var 0 (pe_var rfl (.inl rfl))) (o_c pe_int) (fun _ _ => rfl))) (blkOk_by (N := ["term", "word", "label", "part", "way"]) (sc := defScope s10) (by decide +kernel)) (fun _ _ _ _ _ => (gv_tup rfl (gvs_cons (gv_name 2 (pg_name nd rfl (.inl rfl)) (by decide)) (gvs_cons (gv_name 3 (pg_name nd rfl (.inl rfl)) (by decide)) gvs_nil)))) (fun _ _ _ _ _ => ots_nil) (fun _ _ _ _ _ => (o_var 3 (pe_var rfl (.inl rfl))))))) ss_nil)
    (ss_cons (s_if (t_cmp (op_oEq hr.units) (o_var 1 (pe_var rfl (.inl rfl))) (o_c pe_str)) (ss_one (s_ret (o_op op_oAdd (o_lst (a_cons (o_ix ix_oIx (o_var 0 (pe_var rfl (.inl rfl))) (o_c pe_int) (fun _ _ => rfl)) a_nil)) (o_lc (own := [("way", 4)]) (gt := (gName 4)) rfl nd (i_seq (o_ix ix_oIx (o_var 0 (pe_var rfl (.inl rfl))) (o_c pe_int) (fun _ _ => rfl))) (blkOk_by (N := ["term", "word", "label", "part", "way"]) (sc := defScope s10) (by decide +kernel)) (fun _ _ _ _ _ => (gv_name 4 (pg_name nd rfl (.inl rfl)) (by decide))) (fun _ _ _ _ _ => ots_nil) (fun _ _ _ _ _ => (o_ix ix_oIx (o_var 4 (pe_var rfl (.inl rfl))) (o_c pe_int) (fun _ _ => rfl))))))) ss_nil)
    (ss_one (s_ret (o_get2 (hu_of hr) (o_disp (ops_cons pe_str (o_sl (o_var 0 (pe_var rfl (.inl rfl))) (oo_some (o_c pe_int)) oo_none) (ops_cons pe_str (o_sl (o_var 0 (pe_var rfl (.inl rfl))) (oo_some (o_c pe_int)) (oo_some (o_c pe_int))) (ops_cons pe_str (o_op op_oAdd (o_sl (o_var 0 (pe_var rfl (.inl rfl))) (oo_some (o_c pe_int)) (oo_some (o_c pe_int))) (o_sl (o_var 0 (pe_var rfl (.inl rfl))) (oo_some (o_c pe_int)) oo_none)) (ops_cons pe_str (o_sl (o_var 0 (pe_var rfl (.inl rfl))) (oo_some (o_c pe_int)) oo_none) ops_nil))))) (o_var 1 (pe_var rfl (.inl rfl))) (o_sl (o_var 0 (pe_var rfl (.inl rfl))) (oo_some (o_c pe_int)) oo_none) ⟨rfl, rfl, rfl, rfl⟩))))))))
theorem sc11 : FnScope ["term", "found", "at", "part", "place"] ["term"] (defScope s11) := ⟨rfl, rfl, rfl, by decide +kernel, rfl, by decide +kernel, by decide +kernel⟩
theorem ok11 (Z : Txt w K mg fa fdd) (AA : AllOk P w K mg base fa fdd k) : FnOk P w K mg base CX0 (k + 1) (fa 11) (fdd 11) ["term"] (liM K (SP (k + 1) 11)) :=
  fn_ok (b := b11 (SP k)) Z.F11 sc11 (fun cdv Ar outer s H E hr => have nd := sc11.nd
   (ss_cons (s_set (i := 1) nd rfl (Or.inl rfl) (o_lst a_nil))
    (ss_cons (s_for PassesOwn.never rfl (i_enum rfl Z.zenumerate (o_call AA.f10 hr rfl Z.M10 Z.F10.kp Z.B10 pass0 (a_cons (o_var 0 (pe_var rfl (.inl rfl))) a_nil))) (g_tup rfl (gs_cons (g_name 2 (pg_name nd rfl (.inr rfl))) (gs_cons (g_name 3 (pg_name nd rfl (.inl rfl))) gs_nil))) (ss_one (s_set (i := 1) nd rfl (Or.inl rfl) (o_op op_oAdd (o_var 1 (pe_var rfl (.inl rfl))) (o_lc (own := [("place", 4)]) (gt := (gName 4)) rfl nd (i_seq (o_call AA.f11 hr rfl Z.M11 Z.F11.kp Z.B11 pass0 (a_cons (o_var 3 (pe_var rfl (.inl rfl))) a_nil))) (blkOk_by (N := ["term", "found", "at", "part", "place"]) (sc := defScope s11) (by decide +kernel)) (fun _ _ _ _ _ => (gv_name 4 (pg_name nd rfl (.inl rfl)) (by decide))) (fun _ _ _ _ _ => ots_nil) (fun _ _ _ _ _ => (o_op op_oAdd (o_tup (a_cons (o_var 2 (pe_var rfl (by first | exact .inr (.inl rfl) | exact .inr (.inr rfl)))) a_nil)) (o_var 4 (pe_var rfl (.inl rfl))))))))))
    (ss_one (s_ret (o_op op_oAdd (o_var 1 (pe_var rfl (.inl rfl))) (o_lst (a_cons (o_tup a_nil) a_nil))))))))
theorem sc12 : FnScope ["box", "w", "bound", "deep", "way", "names", "one", "x", "labels", "other", "more", "label"] ["box", "w", "bound", "deep"] (defScope s12) := ⟨rfl, rfl, rfl, by decide +kernel, rfl, by decide +kernel, by decide +kernel⟩
theorem ok12 (Z : Txt w K mg fa fdd) (AA : AllOk P w K mg base fa fdd k) : FnOk P w K mg base CX0 (k + 1) (fa 12) (fdd 12) ["box", "w", "bound", "deep"] (liM K (SP (k + 1) 12)) :=
  fn_ok (b := b12 (SP k)) Z.F12 sc12 (fun cdv Ar outer s H E hr => have nd := sc12.nd
   (ss_cons (s_set (i := 4) nd rfl (Or.inl rfl) (o_if (t_cmp op_oGtU (o_var 3 (pe_var rfl (.inr (.inl rfl)))) (o_c pe_int)) (o_call AA.f6 hr rfl Z.M6 Z.F6.kp Z.B6 pass0 (a_cons (o_var 0 (pe_var rfl (.inr (.inl rfl)))) (a_cons (o_c pe_int) a_nil))) (o_call AA.f6 hr rfl Z.M6 Z.F6.kp Z.B6 pass0 (a_cons (o_var 0 (pe_var rfl (.inr (.inl rfl)))) (a_cons (o_c pe_int) a_nil)))))
    (ss_cons (s_set (i := 5) nd rfl (Or.inl rfl) (o_op op_oAdd (o_var 2 (pe_var rfl (.inr (.inl rfl)))) (o_dget (hu_of hr) (o_var 1 (pe_var rfl (.inr (.inl rfl)))) (o_c pe_str) (fun _ _ => rfl))))
    (ss_cons (s_if (OW.t (w_or (t_cmp (op_oEq hr.units) (o_var 4 (pe_var rfl (.inl rfl))) (o_c pe_int)) (w_or (OW.t (w_and (t_cmp (op_oEq hr.units) (o_var 4 (pe_var rfl (.inl rfl))) (o_c pe_int)) (w_and1 (t_cmp (op_oEq hr.units) (o_var 5 (pe_var rfl (.inl rfl))) (o_lst a_nil))))) (w_or (OW.t (w_and (t_cmp (op_oEq hr.units) (o_var 4 (pe_var rfl (.inl rfl))) (o_c pe_int)) (w_and1 (t_cmp (op_oEq hr.units) (o_dget (hu_of hr) (o_var 1 (pe_var rfl (.inr (.inl rfl)))) (o_c pe_str) (fun _ _ => rfl)) (o_lst a_nil))))) (w_or1 (OW.t (w_and (t_cmp (op_oEq hr.units) (o_var 4 (pe_var rfl (.inl rfl))) (o_c pe_int)) (w_and1 (t_cmp (op_oEq hr.units) (o_var 5 (pe_var rfl (.inl rfl))) (o_lst a_nil)))))))))) (ss_one (s_ret (o_tup (a_cons (o_c pe_str) (a_cons (o_call AA.f8 hr rfl Z.M8 Z.F8.kp Z.B8 pass0 (a_cons (o_var 0 (pe_var rfl (.inr (.inl rfl)))) (a_cons (o_lst (a_cons (o_c pe_int) (a_cons (o_c pe_int) (a_cons (o_call AA.f6 hr rfl Z.M6 Z.F6.kp Z.B6 pass0 (a_cons (o_var 0 (pe_var rfl (.inr (.inl rfl)))) (a_cons (o_c pe_int) a_nil))) (a_cons (o_c pe_int) a_nil))))) a_nil))) a_nil))))) ss_nil)
    (ss_cons (s_if (t_cmp (op_oInA (hu65 hr)) (o_var 4 (pe_var rfl (.inl rfl))) (o_tup (a_cons (o_c pe_int) (a_cons (o_c pe_int) a_nil)))) (ss_one (s_ret (o_tup (a_cons (o_c pe_str) (a_cons (o_call AA.f8 hr rfl Z.M8 Z.F8.kp Z.B8 pass0 (a_cons (o_var 0 (pe_var rfl (.inr (.inl rfl)))) (a_cons (o_var 5 (pe_var rfl (.inl rfl))) a_nil))) a_nil))))) ss_nil)
    (ss_cons (s_if (t_cmp (op_oEq hr.units) (o_var 4 (pe_var rfl (.inl rfl))) (o_c pe_int)) (ss_one (s_ret (o_op op_oAdd (o_tup (a_cons (o_c pe_str) a_nil)) (o_call AA.f8 hr rfl Z.M8 Z.F8.kp Z.B8 pass0 (a_cons (o_var 0 (pe_var rfl (.inr (.inl rfl)))) (a_cons (o_dget (hu_of hr) (o_var 1 (pe_var rfl (.inr (.inl rfl)))) (o_c pe_str) (fun _ _ => rfl)) a_nil)))))) ss_nil)
    (ss_cons (s_set (i := 6) nd rfl (Or.inl rfl) (o_if (t_cmp (op_oNotInA (hu65 hr)) (o_var 4 (pe_var rfl (.inl rfl))) (o_tup (a_cons (o_c pe_int) (a_cons (o_c pe_int) (a_cons (o_c pe_int) a_nil))))) (o_call AA.f12 hr rfl Z.M12 Z.F12.kp Z.B12 pass0 (a_cons (o_var 0 (pe_var rfl (.inr (.inl rfl)))) (a_cons (o_var 1 (pe_var rfl (.inr (.inl rfl)))) (a_cons (o_var 2 (pe_var rfl (.inr (.inl rfl)))) (a_cons (o_op op_oSub (o_var 3 (pe_var rfl (.inr (.inl rfl)))) (o_c pe_int)) a_nil))))) (o_tup (a_cons (o_c pe_str) (a_cons (o_c pe_int) a_nil)))))
    (ss_cons (s_if (t_cmp (op_oInA (hu65 hr)) (o_var 4 (pe_var rfl (.inl rfl))) (o_tup (a_cons (o_c pe_int) (a_cons (o_c pe_int) a_nil)))) (ss_cons (s_set (i := 7) nd rfl (Or.inl rfl) (o_call AA.f8 hr rfl Z.M8 Z.F8.kp Z.B8 pass0 (a_cons (o_var 0 (pe_var rfl (.inr (.inl rfl)))) (a_cons (o_dget (hu_of hr) (o_var 1 (pe_var rfl (.inr (.inl rfl)))) (o_c pe_str) (fun _ _ => rfl)) a_nil))))
    (ss_one (s_ret (o_tup (a_cons (o_c pe_str) (a_cons (o_var 7 (pe_var rfl (.inl rfl))) (a_cons (o_call AA.f12 hr rfl Z.M12 Z.F12.kp Z.B12 pass0 (a_cons (o_var 0 (pe_var rfl (.inr (.inl rfl)))) (a_cons (o_var 1 (pe_var rfl (.inr (.inl rfl)))) (a_cons (o_op op_oAdd (o_var 2 (pe_var rfl (.inr (.inl rfl)))) (o_lst (a_cons (o_var 7 (pe_var rfl (.inl rfl))) a_nil))) (a_cons (o_op op_oSub (o_var 3 (pe_var rfl (.inr (.inl rfl)))) (o_c pe_int)) a_nil))))) a_nil))))))) ss_nil)
    (ss_cons (s_if (t_cmp (op_oInA (hu65 hr)) (o_var 4 (pe_var rfl (.inl rfl))) (o_tup (a_cons (o_c pe_int) (a_cons (o_c pe_int) a_nil)))) (ss_one (s_ret (o_tup (a_cons (o_c pe_str) (a_cons (o_var 6 (pe_var rfl (.inl rfl))) (a_cons (o_call AA.f12 hr rfl Z.M12 Z.F12.kp Z.B12 pass0 (a_cons (o_var 0 (pe_var rfl (.inr (.inl rfl)))) (a_cons (o_var 1 (pe_var rfl (.inr (.inl rfl)))) (a_cons (o_var 2 (pe_var rfl (.inr (.inl rfl)))) (a_cons (o_op op_oSub (o_var 3 (pe_var rfl (.inr (.inl rfl)))) (o_c pe_int)) a_nil))))) a_nil)))))) ss_nil)
    (ss_cons (s_if (t_cmp (op_oEq hr.units) (o_var 4 (pe_var rfl (.inl rfl))) (o_c pe_int)) (ss_one (s_ret (o_tup (a_cons (o_call AA.f8 hr rfl Z.M8 Z.F8.kp Z.B8 pass0 (a_cons (o_var 0 (pe_var rfl (.inr (.inl rfl)))) (a_cons (o_lst (a_cons (o_c pe_str) (a_cons (o_c pe_str) (a_cons (o_c pe_str) a_nil)))) a_nil))) (a_cons (o_var 6 (pe_var rfl (.inl rfl))) (a_cons (o_call AA.f12 hr rfl Z.M12 Z.F12.kp Z.B12 pass0 (a_cons (o_var 0 (pe_var rfl (.inr (.inl rfl)))) (a_cons (o_var 1 (pe_var rfl (.inr (.inl rfl)))) (a_cons (o_var 2 (pe_var rfl (.inr (.inl rfl)))) (a_cons (o_op op_oSub (o_var 3 (pe_var rfl (.inr (.inl rfl)))) (o_c pe_int)) a_nil))))) a_nil)))))) ss_nil)
    (ss_cons (s_if (t_cmp (op_oEq hr.units) (o_var 4 (pe_var rfl (.inl rfl))) (o_c pe_int)) (ss_cons (s_set (i := 8) nd rfl (Or.inl rfl) (o_sl (o_lc (own := [("label", 11)]) (gt := (gName 11)) rfl nd (i_seq (o_dget (hu_of hr) (o_var 1 (pe_var rfl (.inr (.inl rfl)))) (o_c pe_str) (fun _ _ => rfl))) (blkOk_by (N := ["box", "w", "bound", "deep", "way", "names", "one", "x", "labels", "other", "more", "label"]) (sc := defScope s12) (by decide +kernel)) (fun _ _ _ _ _ => (gv_name 11 (pg_name nd rfl (.inl rfl)) (by decide))) (fun _ _ _ _ _ => (ots_one (t_cmp (op_oEq hr.units) (o_call AA.f6 hr rfl Z.M6 Z.F6.kp Z.B6 pass0 (a_cons (o_var 0 (pe_var rfl (by first | exact .inr (.inl rfl) | exact .inr (.inr rfl)))) (a_cons (o_c pe_int) a_nil))) (o_c pe_int)))) (fun _ _ _ _ _ => (o_var 11 (pe_var rfl (.inl rfl))))) oo_none (oo_some (o_c pe_int))))
    (ss_one (s_ret (o_tup (a_cons (o_c pe_str) (a_cons (o_callTy c_tuple rfl Z.ztuple (by decide +kernel) (a_cons (o_lc (own := [("label", 11)]) (gt := (gName 11)) rfl nd (i_seq (o_var 8 (pe_var rfl (.inl rfl)))) (blkOk_by (N := ["box", "w", "bound", "deep", "way", "names", "one", "x", "labels", "other", "more", "label"]) (sc := defScope s12) (by decide +kernel)) (fun _ _ _ _ _ => (gv_name 11 (pg_name nd rfl (.inl rfl)) (by decide))) (fun _ _ _ _ _ => ots_nil) (fun _ _ _ _ _ => (o_tup (a_cons (o_var 11 (pe_var rfl (.inl rfl))) (a_cons (o_call AA.f12 hr rfl Z.M12 Z.F12.kp Z.B12 pass0 (a_cons (o_var 0 (pe_var rfl (by first | exact .inr (.inl rfl) | exact .inr (.inr rfl)))) (a_cons (o_var 1 (pe_var rfl (by first | exact .inr (.inl rfl) | exact .inr (.inr rfl)))) (a_cons (o_var 2 (pe_var rfl (by first | exact .inr (.inl rfl) | exact .inr (.inr rfl)))) (a_cons (o_op op_oSub (o_var 3 (pe_var rfl (by first | exact .inr (.inl rfl) | exact .inr (.inr rfl)))) (o_c pe_int)) a_nil))))) a_nil))))) a_nil)) a_nil)))))) ss_nil)
    (ss_cons (s_if (t_cmp (op_oInA (hu65 hr)) (o_var 4 (pe_var rfl (.inl rfl))) (o_tup (a_cons (o_c pe_int) (a_cons (o_c pe_int) a_nil)))) (ss_one (s_ret (o_tup (a_cons (o_c pe_str) (a_cons (o_var 6 (pe_var rfl (.inl rfl))) (a_cons (o_call AA.f8 hr rfl Z.M8 Z.F8.kp Z.B8 pass0 (a_cons (o_var 0 (pe_var rfl (.inr (.inl rfl)))) (a_cons (o_dget (hu_of hr) (o_var 1 (pe_var rfl (.inr (.inl rfl)))) (o_c pe_str) (fun _ _ => rfl)) a_nil))) a_nil)))))) ss_nil)
    (ss_cons (s_if (t_cmp (op_oEq hr.units) (o_var 4 (pe_var rfl (.inl rfl))) (o_c pe_int)) (ss_one (s_ret (o_tup (a_cons (o_c pe_str) (a_cons (o_var 6 (pe_var rfl (.inl rfl))) (a_cons (o_call AA.f8 hr rfl Z.M8 Z.F8.kp Z.B8 pass0 (a_cons (o_var 0 (pe_var rfl (.inr (.inl rfl)))) (a_cons (o_dget (hu_of hr) (o_var 1 (pe_var rfl (.inr (.inl rfl)))) (o_c pe_str) (fun _ _ => rfl)) a_nil))) (a_cons (o_call AA.f12 hr rfl Z.M12 Z.F12.kp Z.B12 pass0 (a_cons (o_var 0 (pe_var rfl (.inr (.inl rfl)))) (a_cons (o_var 1 (pe_var rfl (.inr (.inl rfl)))) (a_cons (o_var 2 (pe_var rfl (.inr (.inl rfl)))) (a_cons (o_op op_oSub (o_var 3 (pe_var rfl (.inr (.inl rfl)))) (o_c pe_int)) a_nil))))) a_nil))))))) ss_nil)
    (ss_cons (s_if (t_cmp (op_oEq hr.units) (o_var 4 (pe_var rfl (.inl rfl))) (o_c pe_int)) (ss_one (s_ret (o_tup (a_cons (o_c pe_str) (a_cons (o_call AA.f8 hr rfl Z.M8 Z.F8.kp Z.B8 pass0 (a_cons (o_var 0 (pe_var rfl (.inr (.inl rfl)))) (a_cons (o_dget (hu_of hr) (o_var 1 (pe_var rfl (.inr (.inl rfl)))) (o_c pe_str) (fun _ _ => rfl)) a_nil))) (a_cons (o_var 6 (pe_var rfl (.inl rfl))) a_nil)))))) ss_nil)
    (ss_cons (s_if (t_cmp (op_oEq hr.units) (o_var 4 (pe_var rfl (.inl rfl))) (o_c pe_int)) (ss_cons (s_par (i := 9) (j := 10) rfl nd rfl rfl (by decide) rfl rfl (a_cons (o_call AA.f12 hr rfl Z.M12 Z.F12.kp Z.B12 pass0 (a_cons (o_var 0 (pe_var rfl (.inr (.inl rfl)))) (a_cons (o_var 1 (pe_var rfl (.inr (.inl rfl)))) (a_cons (o_var 2 (pe_var rfl (.inr (.inl rfl)))) (a_cons (o_op op_oSub (o_var 3 (pe_var rfl (.inr (.inl rfl)))) (o_c pe_int)) a_nil))))) (a_cons (o_call AA.f12 hr rfl Z.M12 Z.F12.kp Z.B12 pass0 (a_cons (o_var 0 (pe_var rfl (.inr (.inl rfl)))) (a_cons (o_var 1 (pe_var rfl (.inr (.inl rfl)))) (a_cons (o_var 2 (pe_var rfl (.inr (.inl rfl)))) (a_cons (o_op op_oSub (o_var 3 (pe_var rfl (.inr (.inl rfl)))) (o_c pe_int)) a_nil))))) a_nil)))
    (ss_one (s_ret (o_tup (a_cons (o_c pe_str) (a_cons (o_var 6 (pe_var rfl (.inl rfl))) (a_cons (o_var 9 (pe_var rfl (.inl rfl))) (a_cons (o_var 10 (pe_var rfl (.inl rfl))) (a_cons (o_call AA.f12 hr rfl Z.M12 Z.F12.kp Z.B12 pass0 (a_cons (o_var 0 (pe_var rfl (.inr (.inl rfl)))) (a_cons (o_var 1 (pe_var rfl (.inr (.inl rfl)))) (a_cons (o_var 2 (pe_var rfl (.inr (.inl rfl)))) (a_cons (o_op op_oSub (o_var 3 (pe_var rfl (.inr (.inl rfl)))) (o_c pe_int)) a_nil))))) a_nil))))))))) ss_nil)
    (ss_one (s_ret (o_call AA.f13 hr rfl Z.M13 Z.F13.kp Z.B13 pass0 (a_cons (o_var 0 (pe_var rfl (.inr (.inl rfl)))) (a_cons (o_var 1 (pe_var rfl (.inr (.inl rfl)))) (a_cons (o_var 2 (pe_var rfl (.inr (.inl rfl)))) (a_cons (o_var 6 (pe_var rfl (.inl rfl))) (a_cons (o_var 3 (pe_var rfl (.inr (.inl rfl)))) a_nil)))))))))))))))))))))))
theorem sc13 : FnScope ["box", "w", "bound", "one", "deep", "labels", "ways", "label", "x"] ["box", "w", "bound", "one", "deep"] (defScope s13) := ⟨rfl, rfl, rfl, by decide +kernel, rfl, by decide +kernel, by decide +kernel⟩
theorem ok13 (Z : Txt w K mg fa fdd) (AA : AllOk P w K mg base fa fdd k) : FnOk P w K mg base CX0 (k + 1) (fa 13) (fdd 13) ["box", "w", "bound", "one", "deep"] (liM K (SP (k + 1) 13)) :=
  fn_ok (b := b13 (SP k)) Z.F13 sc13 (fun cdv Ar outer s H E hr => have nd := sc13.nd
   (ss_cons (s_par (i := 5) (j := 6) rfl nd rfl rfl (by decide) rfl rfl (a_cons (o_or (o_sl (o_lc (own := [("label", 7)]) (gt := (gName 7)) rfl nd (i_seq (o_dget (hu_of hr) (o_var 1 (pe_var rfl (.inl rfl))) (o_c pe_str) (fun _ _ => rfl))) (blkOk_by (N := ["box", "w", "bound", "one", "deep", "labels", "ways", "label", "x"]) (sc := defScope s13) (by decide +kernel)) (fun _ _ _ _ _ => (gv_name 7 (pg_name nd rfl (.inl rfl)) (by decide))) (fun _ _ _ _ _ => (ots_one (t_cmp (op_oEq hr.units) (o_call AA.f6 hr rfl Z.M6 Z.F6.kp Z.B6 pass0 (a_cons (o_var 0 (pe_var rfl (by first | exact .inr (.inl rfl) | exact .inr (.inr rfl)))) (a_cons (o_c pe_int) a_nil))) (o_c pe_int)))) (fun _ _ _ _ _ => (o_var 7 (pe_var rfl (.inl rfl))))) oo_none (oo_some (o_c pe_int))) (o_one (o_sl (o_dget (hu_of hr) (o_var 1 (pe_var rfl (.inl rfl))) (o_c pe_str) (fun _ _ => rfl)) oo_none (oo_some (o_c pe_int))))) (a_cons (o_lst a_nil) a_nil)))
    (ss_cons (s_for PassesOwn.never rfl (i_seq (o_var 5 (pe_var rfl (.inl rfl)))) (g_name 7 (pg_name nd rfl (.inl rfl))) (ss_cons (s_set (i := 8) nd rfl (Or.inl rfl) (o_call AA.f8 hr rfl Z.M8 Z.F8.kp Z.B8 pass0 (a_cons (o_var 0 (pe_var rfl (.inr (.inl rfl)))) (a_cons (o_dget (hu_of hr) (o_var 1 (pe_var rfl (.inl rfl))) (o_c pe_str) (fun _ _ => rfl)) a_nil))))
    (ss_one (s_expr (o_bm PySem.F.plainAttrs_list PySem.F.slot_list_append PySem.F.type_list_append mt_oAppend (o_var 6 (pe_var rfl (.inl rfl))) (a_cons (o_tup (a_cons (o_var 7 (pe_var rfl (.inl rfl))) (a_cons (o_var 8 (pe_var rfl (.inl rfl))) (a_cons (o_call AA.f12 hr rfl Z.M12 Z.F12.kp Z.B12 pass0 (a_cons (o_var 0 (pe_var rfl (.inr (.inl rfl)))) (a_cons (o_var 1 (pe_var rfl (.inl rfl))) (a_cons (o_op op_oAdd (o_var 2 (pe_var rfl (.inl rfl))) (o_lst (a_cons (o_var 8 (pe_var rfl (.inl rfl))) a_nil))) (a_cons (o_op op_oSub (o_var 4 (pe_var rfl (.inl rfl))) (o_c pe_int)) a_nil))))) a_nil)))) a_nil))))))
    (ss_one (s_ret (o_tup (a_cons (o_c pe_str) (a_cons (o_var 3 (pe_var rfl (.inl rfl))) (a_cons (o_callTy c_tuple rfl Z.ztuple (by decide +kernel) (a_cons (o_var 6 (pe_var rfl (.inl rfl))) a_nil)) a_nil)))))))))
theorem sc14 : FnScope ["term", "place", "bound", "found", "at", "part", "more"] ["term", "place", "bound"] (defScope s14) := ⟨rfl, rfl, rfl, by decide +kernel, rfl, by decide +kernel, by decide +kernel⟩
theorem ok14 (Z : Txt w K mg fa fdd) (AA : AllOk P w K mg base fa fdd k) : FnOk P w K mg base CX0 (k + 1) (fa 14) (fdd 14) ["term", "place", "bound"] (liM K (SP (k + 1) 14)) :=
  fn_ok (b := b14 (SP k)) Z.F14 sc14 (fun cdv Ar outer s H E hr => have nd := sc14.nd
   (ss_cons (s_if (t_cmp (op_oEq hr.units) (o_ix ix_oIx (o_var 0 (pe_var rfl (.inl rfl))) (o_c pe_int) (fun _ _ => rfl)) (o_c pe_str)) (ss_one (s_ret (o_op op_oMulU (o_lst (a_cons (o_tup (a_cons (o_var 1 (pe_var rfl (.inl rfl))) (a_cons (o_ix ix_oIx (o_var 0 (pe_var rfl (.inl rfl))) (o_c pe_int) (fun _ _ => rfl)) a_nil))) a_nil)) (o_callTy c_int rfl Z.zint (by decide +kernel) (a_cons (o_cmp (op_oNotInA (hu65 hr)) (o_ix ix_oIx (o_var 0 (pe_var rfl (.inl rfl))) (o_c pe_int) (fun _ _ => rfl)) (o_var 2 (pe_var rfl (.inl rfl)))) a_nil))))) ss_nil)
    (ss_cons (s_set (i := 3) nd rfl (Or.inl rfl) (o_op op_oMulU (o_lst (a_cons (o_tup (a_cons (o_var 1 (pe_var rfl (.inl rfl))) (a_cons (o_sl (o_var 0 (pe_var rfl (.inl rfl))) (oo_some (o_c pe_int)) oo_none) a_nil))) a_nil)) (o_callTy c_int rfl Z.zint (by decide +kernel) (a_cons (o_cmp (op_oEq hr.units) (o_ix ix_oIx (o_var 0 (pe_var rfl (.inl rfl))) (o_c pe_int) (fun _ _ => rfl)) (o_c pe_str)) a_nil))))
    (ss_cons (s_for PassesOwn.never rfl (i_enum rfl Z.zenumerate (o_call AA.f10 hr rfl Z.M10 Z.F10.kp Z.B10 pass0 (a_cons (o_var 0 (pe_var rfl (.inl rfl))) a_nil))) (g_tup rfl (gs_cons (g_name 4 (pg_name nd rfl (.inl rfl))) (gs_cons (g_name 5 (pg_name nd rfl (.inl rfl))) gs_nil))) (ss_cons (s_set (i := 6) nd rfl (Or.inl rfl) (o_lst a_nil))
    (ss_cons (s_if (OW.t (w_or (t_cmp (op_oEq hr.units) (o_ix ix_oIx (o_var 0 (pe_var rfl (.inl rfl))) (o_c pe_int) (fun _ _ => rfl)) (o_c pe_str)) (w_or1 (OW.t (w_and (t_cmp (op_oEq hr.units) (o_ix ix_oIx (o_var 0 (pe_var rfl (.inl rfl))) (o_c pe_int) (fun _ _ => rfl)) (o_c pe_str)) (w_and1 (t_cmp op_oGtU (o_var 4 (pe_var rfl (.inl rfl))) (o_c pe_int)))))))) (ss_one (s_set (i := 6) nd rfl (Or.inl rfl) (o_lst (a_cons (o_if (t_cmp (op_oEq hr.units) (o_ix ix_oIx (o_var 0 (pe_var rfl (.inl rfl))) (o_c pe_int) (fun _ _ => rfl)) (o_c pe_str)) (o_ix ix_oIx (o_var 0 (pe_var rfl (.inl rfl))) (o_c pe_int) (fun _ _ => rfl)) (o_ix ix_oIx (o_ix ix_oIx (o_ix ix_oIx (o_var 0 (pe_var rfl (.inl rfl))) (o_c pe_int) (fun _ _ => rfl)) (o_op op_oSub (o_var 4 (pe_var rfl (.inl rfl))) (o_c pe_int)) (fun _ _ => rfl)) (o_c pe_int) (fun _ _ => rfl))) a_nil)))) ss_nil)
    (ss_one (s_set (i := 3) nd rfl (Or.inl rfl) (o_op op_oAdd (o_var 3 (pe_var rfl (.inl rfl))) (o_call AA.f14 hr rfl Z.M14 Z.F14.kp Z.B14 pass0 (a_cons (o_var 5 (pe_var rfl (.inl rfl))) (a_cons (o_op op_oAdd (o_var 1 (pe_var rfl (.inl rfl))) (o_tup (a_cons (o_var 4 (pe_var rfl (.inl rfl))) a_nil))) (a_cons (o_op op_oAdd (o_var 2 (pe_var rfl (.inl rfl))) (o_var 6 (pe_var rfl (.inl rfl)))) a_nil))))))))))
    (ss_one (s_ret (o_var 3 (pe_var rfl (.inl rfl)))))))))
theorem sc15 : FnScope ["term", "place", "at"] ["term", "place"] (defScope s15) := ⟨rfl, rfl, rfl, by decide +kernel, rfl, by decide +kernel, by decide +kernel⟩
theorem ok15 (Z : Txt w K mg fa fdd) (AA : AllOk P w K mg base fa fdd k) : FnOk P w K mg base CX0 (k + 1) (fa 15) (fdd 15) ["term", "place"] (liM K (SP (k + 1) 15)) :=
  fn_ok (b := b15 (SP k)) Z.F15 sc15 (fun cdv Ar outer s H E hr => have nd := sc15.nd
   (ss_cons (s_for PassesOwn.never rfl (i_seq (o_var 1 (pe_var rfl (.inl rfl)))) (g_name 2 (pg_name nd rfl (.inl rfl))) (ss_one (s_set (i := 0) nd rfl (Or.inl rfl) (o_ix ix_oIx (o_call AA.f10 hr rfl Z.M10 Z.F10.kp Z.B10 pass0 (a_cons (o_var 0 (pe_var rfl (.inl rfl))) a_nil)) (o_var 2 (pe_var rfl (.inl rfl))) (fun _ _ => rfl)))))
    (ss_one (s_ret (o_var 0 (pe_var rfl (.inl rfl)))))))
theorem sc16 : FnScope ["term", "place", "x", "size", "whole", "at"] ["term", "place", "x"] (defScope s16) := ⟨rfl, rfl, rfl, by decide +kernel, rfl, by decide +kernel, by decide +kernel⟩
theorem ok16 (Z : Txt w K mg fa fdd) (AA : AllOk P w K mg base fa fdd k) : FnOk P w K mg base CX0 (k + 1) (fa 16) (fdd 16) ["term", "place", "x"] (liM K (SP (k + 1) 16)) :=
  fn_ok (b := b16 (SP k)) Z.F16 sc16 (fun cdv Ar outer s H E hr => have nd := sc16.nd
   (ss_cons (s_for PassesOwn.never rfl (i_range rfl Z.zrange (o_callB c_len rfl Z.zlen PySem.boot_len (a_cons (o_var 1 (pe_var rfl (.inl rfl))) a_nil))) (g_name 3 (pg_name nd rfl (.inl rfl))) (ss_cons (s_par (i := 4) (j := 5) rfl nd rfl rfl (by decide) rfl rfl (a_cons (o_call AA.f15 hr rfl Z.M15 Z.F15.kp Z.B15 pass0 (a_cons (o_var 0 (pe_var rfl (.inl rfl))) (a_cons (o_sl (o_var 1 (pe_var rfl (.inl rfl))) oo_none (oo_some (o_var 3 (pe_var rfl (.inl rfl))))) a_nil))) (a_cons (o_ix ix_oIx (o_var 1 (pe_var rfl (.inl rfl))) (o_var 3 (pe_var rfl (.inl rfl))) (fun _ _ => rfl)) a_nil)))
    (ss_one (s_if (OW.t (w_or (OW.t (w_and (t_cmp (op_oEq hr.units) (o_ix ix_oIx (o_var 4 (pe_var rfl (.inl rfl))) (o_c pe_int) (fun _ _ => rfl)) (o_c pe_str)) (w_and1 (t_cmp (op_oEq hr.units) (o_ix ix_oIx (o_var 4 (pe_var rfl (.inl rfl))) (o_c pe_int) (fun _ _ => rfl)) (o_var 2 (pe_var rfl (.inl rfl))))))) (w_or1 (OW.t (w_and (t_cmp (op_oEq hr.units) (o_ix ix_oIx (o_var 4 (pe_var rfl (.inl rfl))) (o_c pe_int) (fun _ _ => rfl)) (o_c pe_str)) (w_and (t_cmp op_oGtU (o_var 5 (pe_var rfl (.inl rfl))) (o_c pe_int)) (w_and1 (t_cmp (op_oEq hr.units) (o_ix ix_oIx (o_ix ix_oIx (o_ix ix_oIx (o_var 4 (pe_var rfl (.inl rfl))) (o_c pe_int) (fun _ _ => rfl)) (o_op op_oSub (o_var 5 (pe_var rfl (.inl rfl))) (o_c pe_int)) (fun _ _ => rfl)) (o_c pe_int) (fun _ _ => rfl)) (o_var 2 (pe_var rfl (.inl rfl))))))))))) (ss_one (s_ret (o_c pe_bl))) ss_nil))))
    (ss_one (s_ret (o_c pe_bl)))))
theorem sc17 : FnScope ["term", "found", "place", "part"] ["term"] (defScope s17) := ⟨rfl, rfl, rfl, by decide +kernel, rfl, by decide +kernel, by decide +kernel⟩
theorem ok17 (Z : Txt w K mg fa fdd) (AA : AllOk P w K mg base fa fdd k) : FnOk P w K mg base CX0 (k + 1) (fa 17) (fdd 17) ["term"] (liM K (SP (k + 1) 17)) :=
  fn_ok (b := b17 (SP k)) Z.F17 sc17 (fun cdv Ar outer s H E hr => have nd := sc17.nd
   (ss_cons (s_set (i := 1) nd rfl (Or.inl rfl) (o_lst a_nil))
    (ss_cons (s_for PassesOwn.never rfl (i_seq (o_call AA.f11 hr rfl Z.M11 Z.F11.kp Z.B11 pass0 (a_cons (o_var 0 (pe_var rfl (.inl rfl))) a_nil))) (g_name 2 (pg_name nd rfl (.inl rfl))) (ss_cons (s_set (i := 3) nd rfl (Or.inl rfl) (o_call AA.f15 hr rfl Z.M15 Z.F15.kp Z.B15 pass0 (a_cons (o_var 0 (pe_var rfl (.inl rfl))) (a_cons (o_var 2 (pe_var rfl (.inl rfl))) a_nil))))
    (ss_cons (s_if (t_cmp (op_oEq hr.units) (o_ix ix_oIx (o_var 3 (pe_var rfl (.inl rfl))) (o_c pe_int) (fun _ _ => rfl)) (o_c pe_str)) (ss_one (s_expr (o_bm PySem.F.plainAttrs_list PySem.F.slot_list_append PySem.F.type_list_append mt_oAppend (o_var 1 (pe_var rfl (.inl rfl))) (a_cons (o_tup (a_cons (o_var 2 (pe_var rfl (.inl rfl))) (a_cons (o_sl (o_var 3 (pe_var rfl (.inl rfl))) (oo_some (o_c pe_int)) oo_none) a_nil))) a_nil)))) ss_nil)
    (ss_one (s_if (OW.t (w_and (t_cmp (op_oEq hr.units) (o_ix ix_oIx (o_var 3 (pe_var rfl (.inl rfl))) (o_c pe_int) (fun _ _ => rfl)) (o_c pe_str)) (w_and1 (t_not (t_tru (o_call AA.f16 hr rfl Z.M16 Z.F16.kp Z.B16 pass0 (a_cons (o_var 0 (pe_var rfl (.inl rfl))) (a_cons (o_var 2 (pe_var rfl (.inl rfl))) (a_cons (o_ix ix_oIx (o_var 3 (pe_var rfl (.inl rfl))) (o_c pe_int) (fun _ _ => rfl)) a_nil))))))))) (ss_one (s_expr (o_bm PySem.F.plainAttrs_list PySem.F.slot_list_append PySem.F.type_list_append mt_oAppend (o_var 1 (pe_var rfl (.inl rfl))) (a_cons (o_tup (a_cons (o_var 2 (pe_var rfl (.inl rfl))) (a_cons (o_ix ix_oIx (o_var 3 (pe_var rfl (.inl rfl))) (o_c pe_int) (fun _ _ => rfl)) a_nil))) a_nil)))) ss_nil)))))
    (ss_one (s_ret (o_var 1 (pe_var rfl (.inl rfl))))))))
theorem sc18 : FnScope ["box", "names", "w", "known", "due", "turn", "term", "again", "found"] ["box"] (defScope s18) := ⟨rfl, rfl, rfl, by decide +kernel, rfl, by decide +kernel, by decide +kernel⟩
theorem ok18 (Z : Txt w K mg fa fdd) (AA : AllOk P w K mg base fa fdd k) : FnOk P w K mg base CX0 (k + 1) (fa 18) (fdd 18) ["box"] (liM K (SP (k + 1) 18)) :=
  fn_ok (b := b18 (SP k)) Z.F18 sc18 (fun cdv Ar outer s H E hr => have nd := sc18.nd
   (ss_cons (s_set (i := 1) nd rfl (Or.inl rfl) (o_call AA.f9 hr rfl Z.M9 Z.F9.kp Z.B9 pass0 (a_cons (o_var 0 (pe_var rfl (.inl rfl))) (a_cons (o_c pe_int) a_nil))))
    (ss_cons (s_set (i := 2) nd rfl (Or.inl rfl) (o_disp (ops_cons pe_str (o_callB c_sortS rfl Z.zsorted (by decide +kernel) (a_cons (o_sl (o_var 1 (pe_var rfl (.inl rfl))) oo_none (oo_some (o_op op_oAdd (o_c pe_int) (o_call AA.f6 hr rfl Z.M6 Z.F6.kp Z.B6 pass0 (a_cons (o_var 0 (pe_var rfl (.inl rfl))) (a_cons (o_c pe_int) a_nil)))))) a_nil)) (ops_cons pe_str (o_sl (o_var 1 (pe_var rfl (.inl rfl))) oo_none (oo_some (o_c pe_int))) ops_nil))))
    (ss_cons (s_expr (o_bm PySem.F.plainAttrs_dict PySem.F.slot_dict_update PySem.F.type_dict_update mt_oUpdate (o_var 2 (pe_var rfl (.inl rfl))) (a_cons (o_disp (ops_cons pe_str (o_lst (a_cons (o_tup (a_cons (o_ix ix_oIx (o_var 1 (pe_var rfl (.inl rfl))) (o_c pe_int) (fun _ _ => rfl)) (a_cons (o_ix ix_oIx (o_var 1 (pe_var rfl (.inl rfl))) (o_c pe_int) (fun _ _ => rfl)) a_nil))) (a_cons (o_tup (a_cons (o_ix ix_oIx (o_var 1 (pe_var rfl (.inl rfl))) (o_c pe_int) (fun _ _ => rfl)) (a_cons (o_ix ix_oIx (o_var 1 (pe_var rfl (.inl rfl))) (o_c pe_int) (fun _ _ => rfl)) a_nil))) a_nil))) ops_nil)) a_nil)))
    (ss_cons (s_set (i := 3) nd rfl (Or.inl rfl) (o_tup (a_cons (o_c pe_str) (a_cons (o_tup (a_cons (o_c pe_str) (a_cons (o_ix ix_oIx (o_var 1 (pe_var rfl (.inl rfl))) (o_c pe_int) (fun _ _ => rfl)) a_nil))) (a_cons (o_tup (a_cons (o_tup (a_cons (o_callB (c_min1 rfl hr.units) rfl Z.zmin (by decide +kernel) (a_cons (o_sl (o_var 1 (pe_var rfl (.inl rfl))) oo_none (oo_some (o_c pe_int))) a_nil)) (a_cons (o_ix ix_oIx (o_var 1 (pe_var rfl (.inl rfl))) (o_c pe_int) (fun _ _ => rfl)) (a_cons (o_tup (a_cons (o_c pe_str) (a_cons (o_ix ix_oIx (o_var 1 (pe_var rfl (.inl rfl))) (o_c pe_int) (fun _ _ => rfl)) (a_cons (o_tup (a_cons (o_c pe_str) (a_cons (o_ix ix_oIx (o_var 1 (pe_var rfl (.inl rfl))) (o_c pe_int) (fun _ _ => rfl)) a_nil))) a_nil)))) a_nil)))) a_nil)) a_nil)))))
    (ss_cons (s_set (i := 4) nd rfl (Or.inl rfl) (o_lst (a_cons (o_tup (a_cons (o_tup (a_cons (o_c pe_int) a_nil)) (a_cons (o_ix ix_oIx (o_var 1 (pe_var rfl (.inl rfl))) (o_c pe_int) (fun _ _ => rfl)) a_nil))) a_nil)))
    (ss_cons (s_if (t_not (t_tru (o_call AA.f7 hr rfl Z.M7 Z.F7.kp Z.B7 pass0 (a_cons (o_call AA.f4 hr rfl Z.M4 Z.F4.kp Z.B4 pass0 (a_cons (o_var 3 (pe_var rfl (.inl rfl))) a_nil)) (a_cons (o_var 4 (pe_var rfl (.inl rfl))) a_nil))))) (ss_one (s_ret (o_c pe_bl))) ss_nil)
    (ss_cons (s_for PassesOwn.never rfl (i_range rfl Z.zrange (o_c pe_int)) (g_name 5 (pg_name nd rfl (.inl rfl))) (ss_cons (s_set (i := 6) nd rfl (Or.inl rfl) (o_call AA.f12 hr rfl Z.M12 Z.F12.kp Z.B12 pass0 (a_cons (o_var 0 (pe_var rfl (.inl rfl))) (a_cons (o_var 2 (pe_var rfl (.inl rfl))) (a_cons (o_lst a_nil) (a_cons (o_op op_oAdd (o_c pe_int) (o_call AA.f6 hr rfl Z.M6 Z.F6.kp Z.B6 pass0 (a_cons (o_var 0 (pe_var rfl (.inl rfl))) (a_cons (o_c pe_int) a_nil)))) a_nil))))))
    (ss_one (s_if (t_cmp op_oLeU (o_callB c_len rfl Z.zlen PySem.boot_len (a_cons (o_call AA.f11 hr rfl Z.M11 Z.F11.kp Z.B11 pass0 (a_cons (o_var 6 (pe_var rfl (.inl rfl))) a_nil)) a_nil)) (o_c pe_int)) (ss_cons (s_set (i := 4) nd rfl (Or.inl rfl) (o_call AA.f17 hr rfl Z.M17 Z.F17.kp Z.B17 pass0 (a_cons (o_var 6 (pe_var rfl (.inl rfl))) a_nil)))
    (ss_one (s_for PassesOwn.never rfl (i_range rfl Z.zrange (o_c pe_int)) (g_name 7 (pg_name nd rfl (.inl rfl))) (ss_cons (s_set (i := 8) nd rfl (Or.inl rfl) (o_call AA.f4 hr rfl Z.M4 Z.F4.kp Z.B4 pass0 (a_cons (o_var 6 (pe_var rfl (.inl rfl))) a_nil)))
    (ss_cons (s_if (OW.t (w_or (t_not (t_tru (o_call AA.f7 hr rfl Z.M7 Z.F7.kp Z.B7 pass0 (a_cons (o_var 8 (pe_var rfl (.inl rfl))) (a_cons (o_var 4 (pe_var rfl (.inl rfl))) a_nil))))) (w_or1 (t_not (t_tru (o_call AA.f7 hr rfl Z.M7 Z.F7.kp Z.B7 pass0 (a_cons (o_var 8 (pe_var rfl (.inl rfl))) (a_cons (o_call AA.f14 hr rfl Z.M14 Z.F14.kp Z.B14 pass0 (a_cons (o_var 6 (pe_var rfl (.inl rfl))) (a_cons (o_tup a_nil) (a_cons (o_lst a_nil) a_nil)))) a_nil)))))))) (ss_one (s_ret (o_c pe_bl))) ss_nil)
    (ss_one (s_expr (o_bm PySem.F.plainAttrs_list PySem.F.slot_list_append PySem.F.type_list_append mt_oAppend (o_var 8 (pe_var rfl (.inl rfl))) (a_cons (o_c pe_str) a_nil))))))))) ss_nil))))
    (ss_one (s_ret (o_c pe_bl)))))))))))
theorem sc19 : FnScope ["script", "k"] ["script"] (defScope s19) := ⟨rfl, rfl, rfl, by decide +kernel, rfl, by decide +kernel, by decide +kernel⟩
theorem ok19 (Z : Txt w K mg fa fdd) (AA : AllOk P w K mg base fa fdd k) : FnOk P w K mg base CX0 (k + 1) (fa 19) (fdd 19) ["script"] (liM K (SP (k + 1) 19)) :=
  fn_ok (b := b19 (SP k)) Z.F19 sc19 (fun cdv Ar outer s H E hr => have nd := sc19.nd
   (ss_one (s_ret (o_callB (c_all rfl) rfl Z.zall (by decide +kernel) (a_cons (o_lc (own := [("k", 1)]) (gt := (gName 1)) rfl nd (i_range rfl Z.zrange (o_callB (c_max2 rfl) rfl Z.zmax (by decide +kernel) (a_cons (o_c pe_int) (a_cons (o_callB (c_min2 rfl) rfl Z.zmin (by decide +kernel) (a_cons (o_callB c_len rfl Z.zlen PySem.boot_len (a_cons (o_var 0 (pe_var rfl (.inr (.inl rfl)))) a_nil)) (a_cons (o_c pe_int) a_nil))) a_nil)))) (blkOk_by (N := ["script", "k"]) (sc := defScope s19) (by decide +kernel)) (fun _ _ _ _ _ => (gv_name 1 (pg_name nd rfl (.inl rfl)) (by decide))) (fun _ _ _ _ _ => ots_nil) (fun _ _ _ _ _ => (o_call AA.f18 hr rfl Z.M18 Z.F18.kp Z.B18 pass0 (a_cons (o_call AA.f5 hr rfl Z.M5 Z.F5.kp Z.B5 pass0 (a_cons (o_var 0 (pe_var rfl (by first | exact .inr (.inl rfl) | exact .inr (.inr rfl)))) (a_cons (o_var 1 (pe_var rfl (.inl rfl))) a_nil))) a_nil)))) a_nil)))))
end
end Lw

set_option Elab.async false
set_option linter.all false
set_option maxRecDepth 100000
set_option maxHeartbeats 1000000
namespace Lw
open PySem L2 Mi
local macro_rules | `(tactic| walk_at "get") => `(tactic| first | assumption | exact put_same | (refine get_new (by assumption) ?_; walk_at "get") | (refine get_ne (by assumption) ?_; walk_at "get"))
local macro_rules | `(tactic| walk_at "sq") => `(tactic| first | assumption | exact .inl rfl | exact .inr (.inl rfl) | exact .inr (.inr ⟨_, rfl, by walk_at "get"⟩))
local macro_rules | `(tactic| walk_at "size") => `(tactic| first | assumption | (simp only [List.length_cons, List.length_nil]; decide) | (have := sizeLine_eq; omega))
local macro_rules | `(tactic| walk_at "txt") => `(tactic| first | assumption | (simp only [Str.length, Str.cps_append, Array.size_append]; have := sizeLine_eq; omega))
local macro_rules | `(tactic| walk_at "go1") => `(tactic| first
  | ((with_reducible refine' x_var ?e ?_); (case e => with_unfolding_all rfl))
  | with_reducible refine x_seq ?_
  | with_reducible refine x_asg ?_
  | with_reducible refine x_if ?_
  | with_reducible refine x_ret ?_
  | with_reducible refine x_next ?_
  | with_reducible refine x_expr ?_
  | with_reducible refine x_gname ?_
  | with_reducible refine x_gcons ?_
  | with_reducible refine x_gnil ?_
  | with_reducible refine x_gsub ?_
  | with_reducible refine x_c ?_
  | with_reducible refine x_op ?_
  | with_reducible refine x_call ?_
  | with_reducible refine x_cons ?_
  | with_reducible refine x_nil ?_
  | with_reducible refine x_par ?_
  | with_reducible refine x_tup ?_
  | with_reducible refine x_lst ?_
  | with_reducible refine x_b ?_
  | with_reducible refine x_tru ?_
  | with_reducible refine x_not ?_
  | with_reducible refine x_or ?_
  | with_reducible refine x_and ?_
  | with_reducible refine x_ife ?_
  | with_reducible refine x_add ?_
  | with_reducible refine x_sub ?_
  | with_reducible refine x_gtI ?_
  | with_reducible refine x_ltI ?_
  | with_reducible refine x_geI ?_
  | with_reducible refine x_leI ?_
  | with_reducible refine x_abs ?_
  | with_reducible refine x_intb ?_
  | with_reducible refine x_for ?_
  | with_reducible refine x_irange ?_
  | with_reducible refine x_lc ?_
  | with_reducible refine x_yes ?_
  | with_reducible refine x_bm ?_
  | with_reducible refine x_bm0 ?_
  | with_reducible refine x_andv ?_
  | with_reducible refine x_orv ?_
  | with_reducible refine x_notv ?_
  | with_reducible refine x_eqI ?_
  | with_reducible refine x_tystr ?_
  | ((with_reducible refine' x_gtup ?e ?_); (case e => with_unfolding_all rfl))
  | ((with_reducible refine' x_pow ?e ?_); (case e => exact ⟨by decide, by decide, by decide⟩))
  | ((with_reducible refine' x_ix ?e ?q ?_); (case e => walk_at "get"); (case q => with_unfolding_all rfl))
  | ((with_reducible refine' x_ixt ?q ?_); (case q => with_unfolding_all rfl))
  | ((with_reducible refine' x_sto ?e ?q ?_); (case e => walk_at "get"); (case q => with_unfolding_all rfl))
  | ((with_reducible refine' x_adds ?e ?_); (case e => walk_at "txt"))
  | ((with_reducible refine' x_muls ?e ?f ?g ?_); (case e => omega); (case f => omega); (case g => walk_at "txt"))
  | ((with_reducible refine' x_divmod ?e ?_); (case e => exact ⟨by omega, by omega⟩))
  | ((with_reducible refine' x_mod ?e ?_); (case e => omega))
  | ((with_reducible refine' x_fdivC ?e ?f ?_); (case e => omega); (case f => omega))
  | ((with_reducible refine' x_mulL ?e ?f ?_); (case e => omega); (case f => omega))
  | ((with_reducible refine' x_mulR ?e ?f ?_); (case e => omega); (case f => omega))
  | ((with_reducible refine' x_len ?e ?_); (case e => walk_at "sq"))
  | ((with_reducible refine' x_range ?e ?f ?_); (case e => omega); (case f => omega))
  | ((with_reducible refine' x_tylst ?e ?_); (case e => walk_at "get"))
  | ((with_reducible refine' x_append ?e ?f ?_); (case e => walk_at "get"); (case f => walk_at "size"))
  | ((with_reducible refine' And.intro ?e ?_); (case e => (show _ ≤ sizeLine; walk_at "size")))
  | ((with_reducible refine' Exists.intro _ (And.intro ?e ?_)); (case e => with_unfolding_all rfl)))
theorem take_ok {k : Nat} {G : Gp} {a : Addr} {n N : Int} {R : KT} (h : Bx G a N) (hN : N < 1000000000) (hn : 1 ≤ n) (hn2 : n ≤ 10000000)
    (hR : ∀ (v : Int) (G' : Gp), 0 ≤ v → v < n → Fr a G G' → Bx G' a (N + 1) → R (.int v) G') : SP (k + 1) 6 [.ref a, .int n] G R := by
  obtain ⟨b0, b1, b2, h, h0, h1, h2, h3, h4⟩ := h
  show spOf 6 2 (b6 (SP k)) _ _ _
  refine ⟨rfl, ?_⟩
  unfold b6
  repeat walk_at "go1"
  refine x_ite (fun e1 => ?_) (fun e1 => ?_)
  · have e2 := of_decide_eq_true e1
    repeat walk_at "go1"
    refine fwdT.of (hR _ _ (Int.emod_nonneg _ (by omega)) (Int.emod_lt_of_pos _ (by omega)) Fr.box ⟨_, _, _, put_same, Int.ediv_nonneg h0 (by omega), h1, h2, h3, by omega⟩)
  · repeat walk_at "go1"
    refine x_ite (fun e1 => ?_) (fun e1 => ?_)
    · have e2 := of_decide_eq_true e1
      exact absurd e2 (by show ¬ (10000000 : Int) < n; omega)
    repeat walk_at "go1"
    refine fwdT.of (hR _ _ (Int.emod_nonneg _ (by omega)) (Int.emod_lt_of_pos _ (by omega)) Fr.box ⟨_, _, _, put_same, h0, h1, h2, ?_, ?_⟩) <;> omega


theorem of_ok {k : Nat} {G : Gp} {a : Addr} {N : Int} {s : T} {ts : List T} {R : KT} (h : Bx G a N) (hN : N < 1000000000) (hs : Sq a G s ts) (h1 : 1 ≤ ts.length) (h2 : ts.length ≤ 10000000)
    (hR : ∀ (t : T) (G' : Gp), t ∈ ts → Fr a G G' → Bx G' a (N + 1) → R t G') : SP (k + 2) 8 [.ref a, s] G R := by
  have hq := hs.is
  show spOf 2 2 (b8 (SP (k + 1))) _ _ _
  refine ⟨rfl, ?_⟩
  unfold b8
  repeat walk_at "go1"
  refine take_ok h hN (by omega) (by omega) fun v G' v0 v1 f b => ?_
  obtain ⟨u, e, m⟩ := atI_nat v0 v1
  exact .inl ⟨ts, u, (hs.fr f).is, e, fwdT.of (hR u G' m f b)⟩


theorem names_ok {k : Nat} {G : Gp} {a : Addr} {N m : Int} {R : KT} (h : Bx G a N) (hN : N + 20 < 1000000000) (h0 : 0 ≤ m) (h1 : m ≤ 1000)
    (hR : ∀ (p : Addr) (zs : List Str) (G' : Gp), p ≠ a → G p = none → G' p = some (.lst (zs.map T.str)) → (zs.length : Int) = m → (∀ z ∈ zs, Wd z) → Fr a G G' → Bx G' a (N + 20) → R (.ref p) G') : SP (k + 2) 9 [.ref a, .int m] G R := by
  show spOf 11 2 (b9 (SP (k + 1))) _ _ _
  refine ⟨rfl, ?_⟩
  unfold b9
  repeat walk_at "go1"
  refine take_ok h (by omega) (by omega) (by omega) fun v1 G1 v1a v1b f1 B1 => ?_
  repeat walk_at "go1"
  intro p hp
  have pa := B1.ne hp
  have p0 := f1.none pa hp
  repeat walk_at "go1"
  refine take_ok (B1.new hp) (by omega) (by omega) (by omega) fun v2 G2 v2a v2b f2 B2 => ?_
  repeat walk_at "go1"
  have P2 : G2 p = some (.lst []) := f2 _ _ pa put_same
  refine ⟨by omega, by omega, fun D hD => ⟨fun i G' => ∃ zs : List Str, zs.length = i ∧ (∀ z ∈ zs, Lt z) ∧ G' D = some (.lst (zs.map T.str)) ∧ Fr a G2 G' ∧ Bx G' a (N + 2 + i), ?_, ?_, ?_, ?_⟩⟩
  · exact ⟨[], rfl, by simp, put_same, Fr.new hD, (B2.new hD).le (by omega)⟩
  · intro i G' _ q hq
    cases hq
  · intro i t G' hi ⟨zs, z1, z2, z3, z4, z5⟩
    obtain ⟨rfl, hi2⟩ := range_at hi
    have Da := B2.ne hD
    repeat walk_at "go1"
    rw [if_pos rfl]
    repeat walk_at "go1"
    refine take_ok z5 (by omega) (by omega) (by omega) fun v3 G3 v3a v3b f3 B3 => ?_
    obtain ⟨c, e, l⟩ := letter v3a v3b
    refine x_ixs letters_len e ⟨_, f3 _ _ Da z3, by rw [List.length_map]; have := sizeLine_eq; omega, fwdG.of ⟨zs ++ [⟨#[c]⟩], by simp [z1], fun z hz => ?_, ?_, Fr.grow hD fun b d n q => f3 _ _ n (z4 _ _ n q), (B3.put Da).le (by omega)⟩⟩
    · rcases List.mem_append.mp hz with q | q
      · exact z2 z q
      · exact ⟨c, by simpa using q, l⟩
    · rw [put_same, map_str]
  · intro G3 ⟨zs, z1, z2, z3, z4, z5⟩
    have hl : zs.length ≤ 5 := by
      rw [z1]
      show (rangeT 0 v2.toNat).length ≤ 5
      simp only [rangeT, List.length_map, List.length_range]
      omega
    obtain ⟨j1, j2⟩ := join_lts zs z2
    have P3 : G3 p = some (.lst []) := z4 _ _ pa P2
    repeat walk_at "go1"
    refine ⟨_, _, zs, rfl, rfl, .inr (.inr ⟨D, rfl, z3⟩), by rw [lts_sum zs z2]; show zs.length + zs.length * 0 ≤ _; omega, ?_⟩
    generalize hst : Txt.join (Str.ofString "") zs = stem at j1 j2
    have z6 : Bx G3 a (N + 7) := z5.le (by rw [← z1]; omega)
    repeat walk_at "go1"
    intro q hq
    repeat walk_at "go1"
    refine take_ok (z6.new hq) (by omega) (by omega) (by omega) fun v4 G4 v4a v4b f4 B4 => ?_
    have Q4 : G4 q = some (.lst [.int 1, .int 3, .int 25]) := f4 _ _ (z6.ne hq) put_same
    obtain ⟨u, eu, mu⟩ := atI_nat (xs := [T.int 1, T.int 3, T.int 25]) v4a v4b
    refine x_ix Q4 eu ?_
    obtain ⟨st, rfl, st1, st2⟩ : ∃ st : Int, u = .int st ∧ 1 ≤ st ∧ st ≤ 25 := by
      simp only [List.mem_cons, List.not_mem_nil, or_false] at mu
      rcases mu with rfl | rfl | rfl
      · exact ⟨1, rfl, by omega, by omega⟩
      · exact ⟨3, rfl, by omega, by omega⟩
      · exact ⟨25, rfl, by omega, by omega⟩
    repeat walk_at "go1"
    refine take_ok B4 (by omega) (by omega) (by omega) fun lo G5 v5a v5b f5 B5 => ?_
    repeat walk_at "go1"
    refine ⟨_, _, rfl, ?_⟩
    repeat walk_at "go1"
    have P5 : G5 p = some (.lst []) := f5 _ _ pa (f4 _ _ pa (get_new hq P3))
    have F5 : Fr a G G5 := fun b c n e => f5 _ _ n (f4 _ _ n (get_new hq (z4 _ _ n (f2 _ _ n (get_new hp (f1 _ _ n e))))))
    refine ⟨by omega, by omega, fun i r G' => ∃ (zs : List Str) (x8 x9 : Option T), zs.length = i ∧ (∀ z ∈ zs, Wd z) ∧ r = [some (.ref a), some (.int m), some (.str (Str.ofString "abcdefghijklmnopqrstuvwxyz")), some (.int v1), some (.ref p), some (.str stem), some (.int st), some (.int lo), x8, x9, none] ∧
      G' p = some (.lst (zs.map T.str)) ∧ Fr a G G' ∧ Bx G' a (N + 10), ⟨[], none, none, rfl, by simp, rfl, P5, F5, B5.le (by omega)⟩, ?_, ?_, ?_⟩
    · intro i r G' _ w hw
      cases hw
    · intro i t r G' hi ⟨zs, x8, x9, w1, w2, w3, w4, w5, w6⟩
      subst w3
      obtain ⟨rfl, hi2⟩ := range_at hi
      repeat walk_at "go1"
      have done : ∀ (c n : Nat) (r2 : Mi.Env) (y8 : Option T), 97 ≤ c ∧ c < 123 → (n = 0 ∨ n = 1) → r2 = [some (.ref a), some (.int m), some (.str (Str.ofString "abcdefghijklmnopqrstuvwxyz")), some (.int v1), some (.ref p), some (.str stem), some (.int st), some (.int lo), some (.int i), y8, none] →
          fwd (fun r G' => ∃ (zs : List Str) (x8 x9 : Option T), zs.length = i + 1 ∧ (∀ z ∈ zs, Wd z) ∧ r = [some (.ref a), some (.int m), some (.str (Str.ofString "abcdefghijklmnopqrstuvwxyz")), some (.int v1), some (.ref p), some (.str stem), some (.int st), some (.int lo), x8, x9, none] ∧
            G' p = some (.lst (zs.map T.str)) ∧ Fr a G G' ∧ Bx G' a (N + 10)) r2 (put G' p (.lst (zs.map T.str ++ [.str (stem ++ ⟨#[c]⟩ ++ repS (Str.ofString "ab") n)]))) := by
        intro c n r2 y8 l hn e
        refine fwd.of ⟨zs ++ [stem ++ ⟨#[c]⟩ ++ repS (Str.ofString "ab") n], some (.int i), y8, by simp [w1], fun z hz => ?_, e, by rw [put_same, map_str], Fr.grow p0 w5, w6.put pa⟩
        rcases List.mem_append.mp hz with q | q
        · exact w2 z q
        · rw [show z = _ by simpa using q]
          exact app_wd (by rw [j1]; exact hl) j2 l hn
      have sz : (zs.map T.str).length < sizeLine := by rw [List.length_map, w1]; have := sizeLine_eq; omega
      refine x_ite (fun _ => ?_) (fun _ => ?_)
      all_goals
        repeat walk_at "go1"
        obtain ⟨c, e, l⟩ := letter (i := _ % 26) (Int.emod_nonneg _ (by omega)) (Int.emod_lt_of_pos _ (by omega))
        refine x_ixs letters_len e ?_
        repeat walk_at "go1"
        refine x_adds (by show stem.cps.size + 1 ≤ _; have := sizeLine_eq; omega) ?_
        repeat walk_at "go1"
        refine x_ite (fun _ => ?_) (fun _ => ?_)
        all_goals
          repeat walk_at "go1"
          refine x_ab fun n hn => ?_
          have hs := ab_size hn
          refine x_adds (by simp only [Str.length, Str.cps_append, Array.size_append]; show stem.cps.size + 1 + _ ≤ _; have := sizeLine_eq; omega) ?_
          repeat walk_at "go1"
          exact done c n _ _ l hn rfl
    · intro r G' ⟨zs, x8, x9, w1, w2, w3, w4, w5, w6⟩
      subst w3
      repeat walk_at "go1"
      refine fwdT.of (hR p zs G' pa p0 w4 ?_ w2 w5 (w6.le (by omega)))
      rw [w1]
      simp only [rangeT, List.length_map, List.length_range]
      omega


theorem box_ok {k i : Nat} {G : Gp} {ns : List Int} {R : KT} (hi : i ≤ 63) (hR : ∀ p G', G p = none → (∀ b c, G b = some c → G' b = some c) → Bx G' p 0 → R (.ref p) G') : SP (k + 1) 5 [.cl (ns.map T.int), .int (i : Nat)] G R := by
  show spOf 3 2 (b5 (SP k)) _ _ _
  refine ⟨rfl, ?_⟩
  unfold b5
  have z0 : ∀ b : Bool, 0 ≤ (if b = true then (1 : Int) else 0) := by decide
  have fin : ∀ c : Int, ∀ p, G p = none → fwdT R (.ref p) (put G p (.lst [.int ((if c < 0 then -c else c) * if decide ((10 : Int) ^ Int.toNat 18 ≤ if c < 0 then -c else c) = true then 1 else 0), .int ((c % 2147483629 + 15485863 * (i : Nat) + 43) * 48271 % 2147483647), .int 0])) := by
    intro c p hp
    have y0 : 0 ≤ (if c < 0 then -c else c) := by split <;> omega
    exact fwdT.of (hR p _ hp (fun b c e => get_new hp e) ⟨_, _, _, put_same, Int.mul_nonneg y0 (z0 _), Int.emod_nonneg _ (by decide), Int.emod_lt_of_pos _ (by decide), Int.le_refl _, Int.le_refl _⟩)
  repeat walk_at "go1"
  refine x_ite (fun e => ?_) (fun e => ?_)
  · have e2 := of_decide_eq_true e
    rw [List.length_map] at e2
    repeat walk_at "go1"
    obtain ⟨u, eu, mu⟩ := atI_nat (xs := ns.map T.int) (i := (i : Nat)) (by omega) (by rw [List.length_map]; exact e2)
    obtain ⟨c, _, rfl⟩ := List.mem_map.mp mu
    refine x_ixc eu ?_
    repeat walk_at "go1"
    exact fin c
  · repeat walk_at "go1"
    exact fin 0


end Lw

set_option Elab.async false
set_option linter.all false
set_option maxRecDepth 100000
set_option maxHeartbeats 1000000
namespace Lw
open PySem L2 Mi
local macro_rules | `(tactic| walk_at "get") => `(tactic| first | assumption | exact put_same | (refine get_new (by assumption) ?_; walk_at "get") | (refine get_ne (by assumption) ?_; walk_at "get"))
local macro_rules | `(tactic| walk_at "sq") => `(tactic| first | assumption | exact .inl rfl | exact .inr (.inl rfl) | exact .inr (.inr ⟨_, rfl, by walk_at "get"⟩))
local macro_rules | `(tactic| walk_at "size") => `(tactic| first | assumption | (simp only [List.length_cons, List.length_nil]; decide) | (have := sizeLine_eq; omega))
local macro_rules | `(tactic| walk_at "txt") => `(tactic| first | assumption | (simp only [Str.length, Str.cps_append, Array.size_append]; have := sizeLine_eq; omega))
local macro_rules | `(tactic| walk_at "go1") => `(tactic| first
  | ((with_reducible refine' x_var ?e ?_); (case e => with_unfolding_all rfl))
  | with_reducible refine x_seq ?_
  | with_reducible refine x_asg ?_
  | with_reducible refine x_if ?_
  | with_reducible refine x_ret ?_
  | with_reducible refine x_next ?_
  | with_reducible refine x_expr ?_
  | with_reducible refine x_gname ?_
  | with_reducible refine x_gcons ?_
  | with_reducible refine x_gnil ?_
  | with_reducible refine x_gsub ?_
  | with_reducible refine x_c ?_
  | with_reducible refine x_op ?_
  | with_reducible refine x_call ?_
  | with_reducible refine x_cons ?_
  | with_reducible refine x_nil ?_
  | with_reducible refine x_par ?_
  | with_reducible refine x_tup ?_
  | with_reducible refine x_lst ?_
  | with_reducible refine x_b ?_
  | with_reducible refine x_tru ?_
  | with_reducible refine x_not ?_
  | with_reducible refine x_or ?_
  | with_reducible refine x_and ?_
  | with_reducible refine x_ife ?_
  | with_reducible refine x_add ?_
  | with_reducible refine x_sub ?_
  | with_reducible refine x_gtI ?_
  | with_reducible refine x_ltI ?_
  | with_reducible refine x_geI ?_
  | with_reducible refine x_leI ?_
  | with_reducible refine x_abs ?_
  | with_reducible refine x_intb ?_
  | with_reducible refine x_for ?_
  | with_reducible refine x_irange ?_
  | with_reducible refine x_lc ?_
  | with_reducible refine x_yes ?_
  | with_reducible refine x_bm ?_
  | with_reducible refine x_bm0 ?_
  | with_reducible refine x_andv ?_
  | with_reducible refine x_orv ?_
  | with_reducible refine x_notv ?_
  | with_reducible refine x_eqI ?_
  | with_reducible refine x_tystr ?_
  | ((with_reducible refine' x_gtup ?e ?_); (case e => with_unfolding_all rfl))
  | ((with_reducible refine' x_pow ?e ?_); (case e => exact ⟨by decide, by decide, by decide⟩))
  | ((with_reducible refine' x_ix ?e ?q ?_); (case e => walk_at "get"); (case q => with_unfolding_all rfl))
  | ((with_reducible refine' x_ixt ?q ?_); (case q => with_unfolding_all rfl))
  | ((with_reducible refine' x_sto ?e ?q ?_); (case e => walk_at "get"); (case q => with_unfolding_all rfl))
  | ((with_reducible refine' x_adds ?e ?_); (case e => walk_at "txt"))
  | ((with_reducible refine' x_muls ?e ?f ?g ?_); (case e => omega); (case f => omega); (case g => walk_at "txt"))
  | ((with_reducible refine' x_divmod ?e ?_); (case e => exact ⟨by omega, by omega⟩))
  | ((with_reducible refine' x_mod ?e ?_); (case e => omega))
  | ((with_reducible refine' x_fdivC ?e ?f ?_); (case e => omega); (case f => omega))
  | ((with_reducible refine' x_mulL ?e ?f ?_); (case e => omega); (case f => omega))
  | ((with_reducible refine' x_mulR ?e ?f ?_); (case e => omega); (case f => omega))
  | ((with_reducible refine' x_len ?e ?_); (case e => walk_at "sq"))
  | ((with_reducible refine' x_range ?e ?f ?_); (case e => omega); (case f => omega))
  | ((with_reducible refine' x_tylst ?e ?_); (case e => walk_at "get"))
  | ((with_reducible refine' x_append ?e ?f ?_); (case e => walk_at "get"); (case f => walk_at "size"))
  | ((with_reducible refine' And.intro ?e ?_); (case e => (show _ ≤ sizeLine; walk_at "size")))
  | ((with_reducible refine' Exists.intro _ (And.intro ?e ?_)); (case e => with_unfolding_all rfl)))
def Wk (a : Addr) (G : Gp) (w : T) (ls ks : List Str) (fs : List (Str × Str)) : Prop := ∃ pw pl pk pf : Addr, w = .ref pw ∧ pw ≠ a ∧ pl ≠ a ∧ pk ≠ a ∧ pf ≠ a ∧
  G pw = some (.dK [(.inr "labels", .ref pl), (.inr "knows", .ref pk), (.inr "froms", .ref pf)]) ∧ G pl = some (.lst (ls.map T.str)) ∧ G pk = some (.lst (ks.map T.str)) ∧ G pf = some (.lst (fs.map prT))
theorem Wk.fr {a : Addr} {G G' : Gp} {w : T} {ls ks : List Str} {fs : List (Str × Str)} (f : Fr a G G') (h : Wk a G w ls ks fs) : Wk a G' w ls ks fs := by
  obtain ⟨pw, pl, pk, pf, e, n1, n2, n3, n4, e1, e2, e3, e4⟩ := h
  exact ⟨pw, pl, pk, pf, e, n1, n2, n3, n4, f _ _ n1 e1, f _ _ n2 e2, f _ _ n3 e3, f _ _ n4 e4⟩
theorem x_labels {a : Addr} {G : Gp} {w : T} {ls ks : List Str} {fs : List (Str × Str)} {R : KT} (h : Wk a G w ls ks fs) (k : ∀ p, p ≠ a → G p = some (.lst (ls.map T.str)) → R (.ref p) G) : ∃ b u, w = .ref b ∧ gtT G b (.str "labels") (some u) ∧ R u G := by
  obtain ⟨pw, pl, pk, pf, e, n1, n2, n3, n4, e1, e2, e3, e4⟩ := h
  exact ⟨pw, .ref pl, e, .inl ⟨_, .inr "labels", e1, rfl, rfl⟩, k pl n2 e2⟩
theorem x_knows {a : Addr} {G : Gp} {w : T} {ls ks : List Str} {fs : List (Str × Str)} {R : KT} (h : Wk a G w ls ks fs) (k : ∀ p, p ≠ a → G p = some (.lst (ks.map T.str)) → R (.ref p) G) : ∃ b u, w = .ref b ∧ gtT G b (.str "knows") (some u) ∧ R u G := by
  obtain ⟨pw, pl, pk, pf, e, n1, n2, n3, n4, e1, e2, e3, e4⟩ := h
  exact ⟨pw, .ref pk, e, .inl ⟨_, .inr "knows", e1, rfl, rfl⟩, k pk n3 e3⟩
theorem x_froms {a : Addr} {G : Gp} {w : T} {ls ks : List Str} {fs : List (Str × Str)} {R : KT} (h : Wk a G w ls ks fs) (k : ∀ p, p ≠ a → G p = some (.lst (fs.map prT)) → R (.ref p) G) : ∃ b u, w = .ref b ∧ gtT G b (.str "froms") (some u) ∧ R u G := by
  obtain ⟨pw, pl, pk, pf, e, n1, n2, n3, n4, e1, e2, e3, e4⟩ := h
  exact ⟨pw, .ref pf, e, .inl ⟨_, .inr "froms", e1, rfl, rfl⟩, k pf n4 e4⟩
inductive Tm : Nat → T → Prop
  | num {n : Nat} {i : Int} : 0 ≤ i → i ≤ 99990 → Tm n (.tup [.str "num", .int i])
  | name {n : Nat} {x : Str} : Wd x → Tm n (.tup [.str "name", .str x])
  | frm {n : Nat} {m x : Str} : Wd m → Wd x → Tm n (.tup [.str "from", .str m, .str x])
  | hole {n : Nat} : Tm n (.tup [.str "hole"])
  | fn {n : Nat} {x : Str} {t : T} : Wd x → Tm n t → Tm (n + 1) (.tup [.str "fun", .str x, t])
  | bin {n : Nat} {w : Str} {s t : T} : w ∈ (["call", "add", "less", "times"] : List Str) → Tm n s → Tm n t → Tm (n + 1) (.tup [.str w, s, t])
  | under {n : Nat} {s t u v : T} : Tm n s → Tm n t → Tm n u → Tm n v → Tm (n + 1) (.tup [.str "under", s, t, u, v])
  | rcd {n : Nat} {ps : List (Str × T)} : ps.length ≤ 4 → (∀ p ∈ ps, Wd p.1) → (∀ p ∈ ps, Tm n p.2) → Tm (n + 1) (.tup [.str "rec", .tup (ps.map fun p => .tup [.str p.1, p.2])])
  | get {n : Nat} {x : Str} {t : T} : Wd x → Tm n t → Tm (n + 1) (.tup [.str "get", t, .str x])
  | put {n : Nat} {x : Str} {t u : T} : Wd x → Tm n t → Tm n u → Tm (n + 1) (.tup [.str "put", t, .str x, u])
  | tag {n : Nat} {x : Str} {t : T} : Wd x → Tm n t → Tm (n + 1) (.tup [.str "tag", .str x, t])
  | case {n : Nat} {t : T} {ps : List (Str × Str × T)} : ps.length ≤ 4 → Tm n t → (∀ p ∈ ps, Wd p.1) → (∀ p ∈ ps, Wd p.2.1) → (∀ p ∈ ps, Tm n p.2.2) → Tm (n + 1) (.tup [.str "case", t, .tup (ps.map fun p => .tup [.str p.1, .str p.2.1, p.2.2])])
theorem Tm.le {n : Nat} {t : T} (h : Tm n t) : ∀ {m : Nat}, n ≤ m → Tm m t := by
  induction h with
  | num a b => intro m _; exact .num a b
  | name a => intro m _; exact .name a
  | frm a b => intro m _; exact .frm a b
  | hole => intro m _; exact .hole
  | fn a _ i => intro m l; obtain ⟨m, rfl⟩ : ∃ m', m = m' + 1 := ⟨m - 1, by omega⟩; exact .fn a (i (by omega))
  | bin a _ _ i j => intro m l; obtain ⟨m, rfl⟩ : ∃ m', m = m' + 1 := ⟨m - 1, by omega⟩; exact .bin a (i (by omega)) (j (by omega))
  | under _ _ _ _ i j k l' => intro m l; obtain ⟨m, rfl⟩ : ∃ m', m = m' + 1 := ⟨m - 1, by omega⟩; exact .under (i (by omega)) (j (by omega)) (k (by omega)) (l' (by omega))
  | rcd a b _ i => intro m l; obtain ⟨m, rfl⟩ : ∃ m', m = m' + 1 := ⟨m - 1, by omega⟩; exact .rcd a b fun p hp => i p hp (by omega)
  | get a _ i => intro m l; obtain ⟨m, rfl⟩ : ∃ m', m = m' + 1 := ⟨m - 1, by omega⟩; exact .get a (i (by omega))
  | put a _ _ i j => intro m l; obtain ⟨m, rfl⟩ : ∃ m', m = m' + 1 := ⟨m - 1, by omega⟩; exact .put a (i (by omega)) (j (by omega))
  | tag a _ i => intro m l; obtain ⟨m, rfl⟩ : ∃ m', m = m' + 1 := ⟨m - 1, by omega⟩; exact .tag a (i (by omega))
  | case a _ b c _ i j => intro m l; obtain ⟨m, rfl⟩ : ∃ m', m = m' + 1 := ⟨m - 1, by omega⟩; exact .case a (i (by omega)) b c fun p hp => j p hp (by omega)

end Lw

set_option Elab.async false
set_option linter.all false
set_option maxRecDepth 100000
set_option maxHeartbeats 1000000
namespace Lw
open PySem L2 Mi
local macro_rules | `(tactic| walk_at "get") => `(tactic| first | assumption | exact put_same | (refine get_new (by assumption) ?_; walk_at "get") | (refine get_ne (by assumption) ?_; walk_at "get"))
local macro_rules | `(tactic| walk_at "sq") => `(tactic| first | assumption | exact .inl rfl | exact .inr (.inl rfl) | exact .inr (.inr ⟨_, rfl, by walk_at "get"⟩))
local macro_rules | `(tactic| walk_at "size") => `(tactic| first | assumption | (simp only [List.length_cons, List.length_nil]; decide) | (have := sizeLine_eq; omega))
local macro_rules | `(tactic| walk_at "txt") => `(tactic| first | assumption | (simp only [Str.length, Str.cps_append, Array.size_append]; have := sizeLine_eq; omega))
local macro_rules | `(tactic| walk_at "go1") => `(tactic| first
  | ((with_reducible refine' x_var ?e ?_); (case e => with_unfolding_all rfl))
  | with_reducible refine x_seq ?_
  | with_reducible refine x_asg ?_
  | with_reducible refine x_if ?_
  | with_reducible refine x_ret ?_
  | with_reducible refine x_next ?_
  | with_reducible refine x_expr ?_
  | with_reducible refine x_gname ?_
  | with_reducible refine x_gcons ?_
  | with_reducible refine x_gnil ?_
  | with_reducible refine x_gsub ?_
  | with_reducible refine x_c ?_
  | with_reducible refine x_op ?_
  | with_reducible refine x_call ?_
  | with_reducible refine x_cons ?_
  | with_reducible refine x_nil ?_
  | with_reducible refine x_par ?_
  | with_reducible refine x_tup ?_
  | with_reducible refine x_lst ?_
  | with_reducible refine x_b ?_
  | with_reducible refine x_tru ?_
  | with_reducible refine x_not ?_
  | with_reducible refine x_or ?_
  | with_reducible refine x_and ?_
  | with_reducible refine x_ife ?_
  | with_reducible refine x_add ?_
  | with_reducible refine x_sub ?_
  | with_reducible refine x_gtI ?_
  | with_reducible refine x_ltI ?_
  | with_reducible refine x_geI ?_
  | with_reducible refine x_leI ?_
  | with_reducible refine x_abs ?_
  | with_reducible refine x_intb ?_
  | with_reducible refine x_for ?_
  | with_reducible refine x_irange ?_
  | with_reducible refine x_lc ?_
  | with_reducible refine x_yes ?_
  | with_reducible refine x_bm ?_
  | with_reducible refine x_bm0 ?_
  | with_reducible refine x_andv ?_
  | with_reducible refine x_orv ?_
  | with_reducible refine x_notv ?_
  | with_reducible refine x_eqI ?_
  | with_reducible refine x_tystr ?_
  | ((with_reducible refine' x_gtup ?e ?_); (case e => with_unfolding_all rfl))
  | ((with_reducible refine' x_pow ?e ?_); (case e => exact ⟨by decide, by decide, by decide⟩))
  | ((with_reducible refine' x_ix ?e ?q ?_); (case e => walk_at "get"); (case q => with_unfolding_all rfl))
  | ((with_reducible refine' x_ixt ?q ?_); (case q => with_unfolding_all rfl))
  | ((with_reducible refine' x_sto ?e ?q ?_); (case e => walk_at "get"); (case q => with_unfolding_all rfl))
  | ((with_reducible refine' x_adds ?e ?_); (case e => walk_at "txt"))
  | ((with_reducible refine' x_muls ?e ?f ?g ?_); (case e => omega); (case f => omega); (case g => walk_at "txt"))
  | ((with_reducible refine' x_divmod ?e ?_); (case e => exact ⟨by omega, by omega⟩))
  | ((with_reducible refine' x_mod ?e ?_); (case e => omega))
  | ((with_reducible refine' x_fdivC ?e ?f ?_); (case e => omega); (case f => omega))
  | ((with_reducible refine' x_mulL ?e ?f ?_); (case e => omega); (case f => omega))
  | ((with_reducible refine' x_mulR ?e ?f ?_); (case e => omega); (case f => omega))
  | ((with_reducible refine' x_len ?e ?_); (case e => walk_at "sq"))
  | ((with_reducible refine' x_range ?e ?f ?_); (case e => omega); (case f => omega))
  | ((with_reducible refine' x_tylst ?e ?_); (case e => walk_at "get"))
  | ((with_reducible refine' x_append ?e ?f ?_); (case e => walk_at "get"); (case f => walk_at "size"))
  | ((with_reducible refine' And.intro ?e ?_); (case e => (show _ ≤ sizeLine; walk_at "size")))
  | ((with_reducible refine' Exists.intro _ (And.intro ?e ?_)); (case e => with_unfolding_all rfl)))
theorem Wk.labels {a : Addr} {G : Gp} {w : T} {ls ks : List Str} {fs : List (Str × Str)} (h : Wk a G w ls ks fs) : ∃ b p, w = .ref b ∧ p ≠ a ∧ G p = some (.lst (ls.map T.str)) ∧ gtT G b (.str "labels") (some (.ref p)) := by
  obtain ⟨pw, pl, pk, pf, e, n1, n2, n3, n4, e1, e2, e3, e4⟩ := h
  exact ⟨pw, pl, e, n2, e2, .inl ⟨_, .inr "labels", e1, rfl, rfl⟩⟩
theorem Wk.knows {a : Addr} {G : Gp} {w : T} {ls ks : List Str} {fs : List (Str × Str)} (h : Wk a G w ls ks fs) : ∃ b p, w = .ref b ∧ p ≠ a ∧ G p = some (.lst (ks.map T.str)) ∧ gtT G b (.str "knows") (some (.ref p)) := by
  obtain ⟨pw, pl, pk, pf, e, n1, n2, n3, n4, e1, e2, e3, e4⟩ := h
  exact ⟨pw, pk, e, n3, e3, .inl ⟨_, .inr "knows", e1, rfl, rfl⟩⟩
theorem Wk.froms {a : Addr} {G : Gp} {w : T} {ls ks : List Str} {fs : List (Str × Str)} (h : Wk a G w ls ks fs) : ∃ b p, w = .ref b ∧ p ≠ a ∧ G p = some (.lst (fs.map prT)) ∧ gtT G b (.str "froms") (some (.ref p)) := by
  obtain ⟨pw, pl, pk, pf, e, n1, n2, n3, n4, e1, e2, e3, e4⟩ := h
  exact ⟨pw, pf, e, n4, e4, .inl ⟨_, .inr "froms", e1, rfl, rfl⟩⟩
theorem pick_ok {k i : Nat} {r : Mi.Env} {G : Gp} {a : Addr} {N : Int} {w : T} {ls ks : List Str} {fs : List (Str × Str)} {R : KT} (h : Bx G a N) (hN : N + 10 < 1000000000) (hw : Wk a G w ls ks fs) (hl : ls.length ≤ 4)
    (h0 : r[0]? = some (some (.ref a))) (h1 : r[1]? = some (some w)) (i0 : 0 ≠ i) (i2 : i < r.length)
    (hR : ∀ (D : Addr) (zs : List Str) (G' : Gp), D ≠ a → G' D = some (.lst (zs.map T.str)) → (∀ z ∈ zs, z ∈ ls) → zs.length ≤ 4 → Fr a G G' → Bx G' a (N + 10) → R (.ref D) G') :
    mLc (miSeq (mDGet (mVar 1) (mC (.str "labels")))) (mgName i) (mB (mOp oEq (mCall (SP (k + 1) 6) (maCons (mVar 0) (maCons (mC (.int 2)) maNil))) (mC (.int 0)))) (mVar i) [i] r G R := by
  refine x_lc (x_iseq (x_dget (x_var h1 (x_c ?_))))
  obtain ⟨b, p, ew, pa, e, ow⟩ := hw.labels
  refine ⟨b, .ref p, ew, ow, ?_⟩
  refine ⟨ls.map T.str, .inr (.inl (.inr ⟨p, rfl, e⟩)), fun D hD => ?_⟩
  have Da := h.ne hD
  have pD : p ≠ D := fun z => by rw [z, hD] at e; cases e
  refine ⟨fun j G' => ∃ zs : List Str, zs.length ≤ j ∧ (∀ z ∈ zs, z ∈ ls) ∧ G' D = some (.lst (zs.map T.str)) ∧ Fr a G G' ∧ Bx G' a (N + j), ?_, ?_, ?_, ?_⟩
  · exact ⟨[], Nat.zero_le _, by simp, put_same, Fr.new hD, (h.new hD).le (by omega)⟩
  · intro j G' ⟨zs, _, _, _, f, _⟩ q hq
    have : q = (p, ls.map T.str) := by simpa [heldT] using hq
    subst this
    exact f _ _ pa e
  · intro j t G' ht ⟨zs, z1, z2, z3, z4, z5⟩
    rw [List.getElem?_map] at ht
    cases e0 : ls[j]? with
    | none => rw [e0] at ht; cases ht
    | some y =>
      rw [e0] at ht
      cases ht
      have hj := (List.getElem?_eq_some_iff.mp e0).1
      have hy : y ∈ ls := List.mem_of_getElem? e0
      have l0 : ((wipeT r [i]).set i (some (T.str y)))[0]? = some (some (.ref a)) := by
        simp only [wipeT]
        rw [List.getElem?_set_ne (Ne.symm i0), List.getElem?_set_ne (Ne.symm i0)]
        exact h0
      have li : ((wipeT r [i]).set i (some (T.str y)))[i]? = some (some (T.str y)) := by
        rw [List.getElem?_set_self (by simp only [wipeT, List.length_set]; exact i2)]
      refine x_gname (x_b (x_op (x_call (x_cons (x_var l0 (x_cons (x_c (x_nil ?_))))))))
      refine take_ok z5 (by omega) (by omega) (by omega) fun v G3 v1 v2 f3 B3 => ?_
      refine x_c (x_eqI ⟨_, rfl, ?_⟩)
      refine x_ite (fun _ => ?_) (fun _ => ?_)
      · refine x_var li ⟨_, f3 _ _ Da z3, by rw [List.length_map]; have := sizeLine_eq; omega, fwdG.of ⟨zs ++ [y], by simp; omega, fun z hz => ?_, by rw [put_same, map_str], Fr.grow hD (z4.trans f3), (B3.put Da).le (by omega)⟩⟩
        rcases List.mem_append.mp hz with q | q
        · exact z2 z q
        · rw [show z = y by simpa using q]; exact hy
      · exact fwdG.of ⟨zs, by omega, z2, f3 _ _ Da z3, z4.trans f3, B3.le (by omega)⟩
  · intro G' ⟨zs, z1, z2, z3, z4, z5⟩
    have z1' : zs.length ≤ (ls.map T.str).length := z1
    rw [List.length_map] at z1'
    have z5' : Bx G' a (N + ((ls.map T.str).length : Nat)) := z5
    rw [List.length_map] at z5'
    exact hR D zs G' Da z3 z2 (by omega) z4 (z5'.le (by omega))

end Lw

set_option Elab.async false
set_option linter.all false
set_option maxRecDepth 100000
set_option maxHeartbeats 1000000
namespace Lw
open PySem L2 Mi
local macro_rules | `(tactic| walk_at "get") => `(tactic| first | assumption | exact put_same | (refine get_new (by assumption) ?_; walk_at "get") | (refine get_ne (by assumption) ?_; walk_at "get"))
local macro_rules | `(tactic| walk_at "sq") => `(tactic| first | assumption | exact .inl rfl | exact .inr (.inl rfl) | exact .inr (.inr ⟨_, rfl, by walk_at "get"⟩))
local macro_rules | `(tactic| walk_at "size") => `(tactic| first | assumption | (simp only [List.length_cons, List.length_nil]; decide) | (have := sizeLine_eq; omega))
local macro_rules | `(tactic| walk_at "txt") => `(tactic| first | assumption | (simp only [Str.length, Str.cps_append, Array.size_append]; have := sizeLine_eq; omega))
local macro_rules | `(tactic| walk_at "go1") => `(tactic| first
  | ((with_reducible refine' x_var ?e ?_); (case e => with_unfolding_all rfl))
  | with_reducible refine x_seq ?_
  | with_reducible refine x_asg ?_
  | with_reducible refine x_if ?_
  | with_reducible refine x_ret ?_
  | with_reducible refine x_next ?_
  | with_reducible refine x_expr ?_
  | with_reducible refine x_gname ?_
  | with_reducible refine x_gcons ?_
  | with_reducible refine x_gnil ?_
  | with_reducible refine x_gsub ?_
  | with_reducible refine x_c ?_
  | with_reducible refine x_op ?_
  | with_reducible refine x_call ?_
  | with_reducible refine x_cons ?_
  | with_reducible refine x_nil ?_
  | with_reducible refine x_par ?_
  | with_reducible refine x_tup ?_
  | with_reducible refine x_lst ?_
  | with_reducible refine x_b ?_
  | with_reducible refine x_tru ?_
  | with_reducible refine x_not ?_
  | with_reducible refine x_or ?_
  | with_reducible refine x_and ?_
  | with_reducible refine x_ife ?_
  | with_reducible refine x_add ?_
  | with_reducible refine x_sub ?_
  | with_reducible refine x_gtI ?_
  | with_reducible refine x_ltI ?_
  | with_reducible refine x_geI ?_
  | with_reducible refine x_leI ?_
  | with_reducible refine x_abs ?_
  | with_reducible refine x_intb ?_
  | with_reducible refine x_for ?_
  | with_reducible refine x_irange ?_
  | with_reducible refine x_lc ?_
  | with_reducible refine x_yes ?_
  | with_reducible refine x_bm ?_
  | with_reducible refine x_bm0 ?_
  | with_reducible refine x_andv ?_
  | with_reducible refine x_orv ?_
  | with_reducible refine x_notv ?_
  | with_reducible refine x_eqI ?_
  | with_reducible refine x_tystr ?_
  | ((with_reducible refine' x_gtup ?e ?_); (case e => with_unfolding_all rfl))
  | ((with_reducible refine' x_pow ?e ?_); (case e => exact ⟨by decide, by decide, by decide⟩))
  | ((with_reducible refine' x_ix ?e ?q ?_); (case e => walk_at "get"); (case q => with_unfolding_all rfl))
  | ((with_reducible refine' x_ixt ?q ?_); (case q => with_unfolding_all rfl))
  | ((with_reducible refine' x_sto ?e ?q ?_); (case e => walk_at "get"); (case q => with_unfolding_all rfl))
  | ((with_reducible refine' x_adds ?e ?_); (case e => walk_at "txt"))
  | ((with_reducible refine' x_muls ?e ?f ?g ?_); (case e => omega); (case f => omega); (case g => walk_at "txt"))
  | ((with_reducible refine' x_divmod ?e ?_); (case e => exact ⟨by omega, by omega⟩))
  | ((with_reducible refine' x_mod ?e ?_); (case e => omega))
  | ((with_reducible refine' x_fdivC ?e ?f ?_); (case e => omega); (case f => omega))
  | ((with_reducible refine' x_mulL ?e ?f ?_); (case e => omega); (case f => omega))
  | ((with_reducible refine' x_mulR ?e ?f ?_); (case e => omega); (case f => omega))
  | ((with_reducible refine' x_len ?e ?_); (case e => walk_at "sq"))
  | ((with_reducible refine' x_range ?e ?f ?_); (case e => omega); (case f => omega))
  | ((with_reducible refine' x_tylst ?e ?_); (case e => walk_at "get"))
  | ((with_reducible refine' x_append ?e ?f ?_); (case e => walk_at "get"); (case f => walk_at "size"))
  | ((with_reducible refine' And.intro ?e ?_); (case e => (show _ ≤ sizeLine; walk_at "size")))
  | ((with_reducible refine' Exists.intro _ (And.intro ?e ?_)); (case e => with_unfolding_all rfl)))
/-! ### the terms straight in a term, and what a fun and a way bind in them -/
def secS : T → List Str
  | .tup (_ :: .str x :: _) => [x]
  | _ => []
def rowsT : T → List T
  | .tup rs => rs
  | _ => []
def strT : T → List Str
  | .str x => [x]
  | _ => []
def cbnd (rs : List T) : Nat → List Str
  | 0 => []
  | j + 1 => (rs[j]?.map secS).getD []
def kids3 (w : Str) (a b : T) : List T :=
  if w = "from" then [] else if w = "fun" then [b] else if w = "tag" then [b] else if w = "get" then [a] else
  if w = "case" then a :: (rowsT b).map thirdT else [a, b]
def kids2 (w : Str) (a : T) : List T := if w = "rec" then (rowsT a).map secT else []
def kidsT : T → List T
  | .tup [.str w, a] => kids2 w a
  | .tup [.str w, a, b] => kids3 w a b
  | .tup [.str _, a, _, c] => [a, c]
  | .tup [.str _, a, b, c, d] => [a, b, c, d]
  | _ => []
def bnd3 (w : Str) (a b : T) (j : Nat) : List Str := if w = "fun" then strT a else if w = "case" then cbnd (rowsT b) j else []
def bndT : T → Nat → List Str
  | .tup [.str w, a, b], j => bnd3 w a b j
  | _, _ => []
theorem kids2_eq {w : Str} {a : T} : kidsT (.tup [.str w, a]) = kids2 w a := rfl
theorem kids3_eq {w : Str} {a b : T} : kidsT (.tup [.str w, a, b]) = kids3 w a b := rfl
theorem bnd3_eq {w : Str} {a b : T} {j : Nat} : bndT (.tup [.str w, a, b]) j = bnd3 w a b j := rfl
theorem kids_num {i : Int} : kidsT (.tup [.str "num", .int i]) = [] := by rw [kids2_eq, kids2, if_neg (by decide +kernel)]
theorem kids_name {x : Str} : kidsT (.tup [.str "name", .str x]) = [] := by rw [kids2_eq, kids2, if_neg (by decide +kernel)]
theorem kids_frm {m x : Str} : kidsT (.tup [.str "from", .str m, .str x]) = [] := by rw [kids3_eq, kids3, if_pos rfl]
theorem kids_hole : kidsT (.tup [.str "hole"]) = [] := rfl
theorem kids_fn {x : Str} {t : T} : kidsT (.tup [.str "fun", .str x, t]) = [t] := by rw [kids3_eq, kids3, if_neg (by decide +kernel), if_pos rfl]
theorem kids_tag {x : Str} {t : T} : kidsT (.tup [.str "tag", .str x, t]) = [t] := by rw [kids3_eq, kids3, if_neg (by decide +kernel), if_neg (by decide +kernel), if_pos rfl]
theorem kids_get {x : Str} {t : T} : kidsT (.tup [.str "get", t, .str x]) = [t] := by rw [kids3_eq, kids3, if_neg (by decide +kernel), if_neg (by decide +kernel), if_neg (by decide +kernel), if_pos rfl]
theorem kids_put {x : Str} {t u : T} : kidsT (.tup [.str "put", t, .str x, u]) = [t, u] := rfl
theorem kids_under {s t u v : T} : kidsT (.tup [.str "under", s, t, u, v]) = [s, t, u, v] := rfl
theorem bin_ne {w : Str} (h : w ∈ (["call", "add", "less", "times"] : List Str)) : w ≠ "from" ∧ w ≠ "fun" ∧ w ≠ "tag" ∧ w ≠ "get" ∧ w ≠ "case" ∧ w ≠ "name" ∧ SeqAt.shaped (.str w) = true := by
  simp only [List.mem_cons, List.not_mem_nil, or_false] at h
  rcases h with rfl | rfl | rfl | rfl <;> decide +kernel
theorem kids_bin {w : Str} {s t : T} (h : w ∈ (["call", "add", "less", "times"] : List Str)) : kidsT (.tup [.str w, s, t]) = [s, t] := by
  have n := bin_ne h
  rw [kids3_eq, kids3, if_neg n.1, if_neg n.2.1, if_neg n.2.2.1, if_neg n.2.2.2.1, if_neg n.2.2.2.2.1]
theorem kids_rcd {ps : List (Str × T)} : kidsT (.tup [.str "rec", .tup (ps.map fun p => .tup [.str p.1, p.2])]) = ps.map (·.2) := by
  rw [kids2_eq, kids2, if_pos rfl]
  show (ps.map _).map secT = _
  rw [List.map_map]
  rfl
theorem kids_case {t : T} {ps : List (Str × Str × T)} : kidsT (.tup [.str "case", t, .tup (ps.map fun p => .tup [.str p.1, .str p.2.1, p.2.2])]) = t :: ps.map (·.2.2) := by
  rw [kids3_eq, kids3, if_neg (by decide +kernel), if_neg (by decide +kernel), if_neg (by decide +kernel), if_neg (by decide +kernel), if_pos rfl]
  show t :: (ps.map _).map thirdT = _
  rw [List.map_map]
  rfl
theorem bnd_fn {x : Str} {t : T} {j : Nat} : bndT (.tup [.str "fun", .str x, t]) j = [x] := by
  rw [bnd3_eq, bnd3, if_pos rfl]
  rfl
theorem bnd_case0 {t b : T} : bndT (.tup [.str "case", t, b]) 0 = [] := by
  rw [bnd3_eq, bnd3, if_neg (by decide +kernel), if_pos rfl]
  rfl
theorem bnd_case {t : T} {ps : List (Str × Str × T)} {j : Nat} {p : Str × Str × T} (h : ps[j]? = some p) : bndT (.tup [.str "case", t, .tup (ps.map fun p => .tup [.str p.1, .str p.2.1, p.2.2])]) (j + 1) = [p.2.1] := by
  rw [bnd3_eq, bnd3, if_neg (by decide +kernel), if_pos rfl]
  show (((ps.map _)[j]?).map secS).getD [] = _
  rw [List.getElem?_map, h]
  rfl
theorem bnd_other {w : Str} {a b : T} {j : Nat} (h1 : w ≠ "fun") (h2 : w ≠ "case") : bndT (.tup [.str w, a, b]) j = [] := by
  rw [bnd3_eq, bnd3, if_neg h1, if_neg h2]
/-- a term by what its head asks of names -/
inductive Shp : Nat → T → Prop
  | name {n : Nat} {x : Str} : Wd x → Shp n (.tup [.str "name", .str x])
  | frm {n : Nat} {m x : Str} : Wd m → Wd x → Shp n (.tup [.str "from", .str m, .str x])
  | fn {n : Nat} {x : Str} {t : T} : Wd x → Tm n t → Shp (n + 1) (.tup [.str "fun", .str x, t])
  | case {n : Nat} {t : T} {ps : List (Str × Str × T)} : ps.length ≤ 4 → Tm n t → (∀ p ∈ ps, Wd p.2.1) → (∀ p ∈ ps, Tm n p.2.2) → Shp (n + 1) (.tup [.str "case", t, .tup (ps.map fun p => .tup [.str p.1, .str p.2.1, p.2.2])])
  | other {n : Nat} {w : Str} {rest : List T} : SeqAt.shaped (.str w) = true → w ≠ "name" → w ≠ "from" → w ≠ "fun" → w ≠ "case" → rest.length ≤ 4 → (∀ u ∈ kidsT (.tup (.str w :: rest)), ∃ m, n = m + 1 ∧ Tm m u) → (kidsT (.tup (.str w :: rest))).length ≤ 5 →
      (∀ j, bndT (.tup (.str w :: rest)) j = []) → Shp n (.tup (.str w :: rest))
theorem Tm.shp {n : Nat} {t : T} (h : Tm n t) : Shp n t := by
  have two : ∀ {w : Str} {a : T} (j : Nat), bndT (.tup [.str w, a]) j = [] := fun _ => rfl
  cases h with
  | num a b => exact .other (by decide +kernel) (by decide +kernel) (by decide +kernel) (by decide +kernel) (by decide +kernel) (by simp) (by rw [kids_num]; simp) (by rw [kids_num]; simp) fun _ => rfl
  | name a => exact .name a
  | frm a b => exact .frm a b
  | hole => exact .other (by decide +kernel) (by decide +kernel) (by decide +kernel) (by decide +kernel) (by decide +kernel) (by simp) (by rw [kids_hole]; simp) (by rw [kids_hole]; simp) fun _ => rfl
  | fn a b => exact .fn a b
  | bin hw a b =>
    have n := bin_ne hw
    exact .other n.2.2.2.2.2.2 n.2.2.2.2.2.1 n.1 n.2.1 n.2.2.2.2.1 (by simp) (by rw [kids_bin hw]; simpa using ⟨a, b⟩) (by rw [kids_bin hw]; simp) fun _ => bnd_other n.2.1 n.2.2.2.2.1
  | under a b c d => exact .other (by decide +kernel) (by decide +kernel) (by decide +kernel) (by decide +kernel) (by decide +kernel) (by simp) (by rw [kids_under]; simpa using ⟨a, b, c, d⟩) (by rw [kids_under]; simp) fun _ => rfl
  | rcd hl a b => exact .other (by decide +kernel) (by decide +kernel) (by decide +kernel) (by decide +kernel) (by decide +kernel) (by simp) (by
      rw [kids_rcd]
      intro u hu
      obtain ⟨p, hp, rfl⟩ := List.mem_map.mp hu
      exact ⟨_, rfl, b p hp⟩) (by rw [kids_rcd, List.length_map]; omega) fun _ => rfl
  | get a b => exact .other (by decide +kernel) (by decide +kernel) (by decide +kernel) (by decide +kernel) (by decide +kernel) (by simp) (by rw [kids_get]; simpa using b) (by rw [kids_get]; simp) fun _ => bnd_other (by decide +kernel) (by decide +kernel)
  | put a b c => exact .other (by decide +kernel) (by decide +kernel) (by decide +kernel) (by decide +kernel) (by decide +kernel) (by simp) (by rw [kids_put]; simpa using ⟨b, c⟩) (by rw [kids_put]; simp) fun _ => rfl
  | tag a b => exact .other (by decide +kernel) (by decide +kernel) (by decide +kernel) (by decide +kernel) (by decide +kernel) (by simp) (by rw [kids_tag]; simpa using b) (by rw [kids_tag]; simp) fun _ => bnd_other (by decide +kernel) (by decide +kernel)
  | case hl a b c d => exact .case hl a c d
end Lw

set_option Elab.async false
set_option linter.all false
set_option maxRecDepth 100000
set_option maxHeartbeats 1000000
namespace Lw
open PySem L2 Mi
local macro_rules | `(tactic| walk_at "get") => `(tactic| first | assumption | exact put_same | (refine get_new (by assumption) ?_; walk_at "get") | (refine get_ne (by assumption) ?_; walk_at "get"))
local macro_rules | `(tactic| walk_at "sq") => `(tactic| first | assumption | exact .inl rfl | exact .inr (.inl rfl) | exact .inr (.inr ⟨_, rfl, by walk_at "get"⟩))
local macro_rules | `(tactic| walk_at "size") => `(tactic| first | assumption | (simp only [List.length_cons, List.length_nil]; decide) | (have := sizeLine_eq; omega))
local macro_rules | `(tactic| walk_at "txt") => `(tactic| first | assumption | (simp only [Str.length, Str.cps_append, Array.size_append]; have := sizeLine_eq; omega))
local macro_rules | `(tactic| walk_at "go1") => `(tactic| first
  | ((with_reducible refine' x_var ?e ?_); (case e => with_unfolding_all rfl))
  | with_reducible refine x_seq ?_
  | with_reducible refine x_asg ?_
  | with_reducible refine x_if ?_
  | with_reducible refine x_ret ?_
  | with_reducible refine x_next ?_
  | with_reducible refine x_expr ?_
  | with_reducible refine x_gname ?_
  | with_reducible refine x_gcons ?_
  | with_reducible refine x_gnil ?_
  | with_reducible refine x_gsub ?_
  | with_reducible refine x_c ?_
  | with_reducible refine x_op ?_
  | with_reducible refine x_call ?_
  | with_reducible refine x_cons ?_
  | with_reducible refine x_nil ?_
  | with_reducible refine x_par ?_
  | with_reducible refine x_tup ?_
  | with_reducible refine x_lst ?_
  | with_reducible refine x_b ?_
  | with_reducible refine x_tru ?_
  | with_reducible refine x_not ?_
  | with_reducible refine x_or ?_
  | with_reducible refine x_and ?_
  | with_reducible refine x_ife ?_
  | with_reducible refine x_add ?_
  | with_reducible refine x_sub ?_
  | with_reducible refine x_gtI ?_
  | with_reducible refine x_ltI ?_
  | with_reducible refine x_geI ?_
  | with_reducible refine x_leI ?_
  | with_reducible refine x_abs ?_
  | with_reducible refine x_intb ?_
  | with_reducible refine x_for ?_
  | with_reducible refine x_irange ?_
  | with_reducible refine x_lc ?_
  | with_reducible refine x_yes ?_
  | with_reducible refine x_bm ?_
  | with_reducible refine x_bm0 ?_
  | with_reducible refine x_andv ?_
  | with_reducible refine x_orv ?_
  | with_reducible refine x_notv ?_
  | with_reducible refine x_eqI ?_
  | with_reducible refine x_tystr ?_
  | ((with_reducible refine' x_gtup ?e ?_); (case e => with_unfolding_all rfl))
  | ((with_reducible refine' x_pow ?e ?_); (case e => exact ⟨by decide, by decide, by decide⟩))
  | ((with_reducible refine' x_ix ?e ?q ?_); (case e => walk_at "get"); (case q => with_unfolding_all rfl))
  | ((with_reducible refine' x_ixt ?q ?_); (case q => with_unfolding_all rfl))
  | ((with_reducible refine' x_sto ?e ?q ?_); (case e => walk_at "get"); (case q => with_unfolding_all rfl))
  | ((with_reducible refine' x_adds ?e ?_); (case e => walk_at "txt"))
  | ((with_reducible refine' x_muls ?e ?f ?g ?_); (case e => omega); (case f => omega); (case g => walk_at "txt"))
  | ((with_reducible refine' x_divmod ?e ?_); (case e => exact ⟨by omega, by omega⟩))
  | ((with_reducible refine' x_mod ?e ?_); (case e => omega))
  | ((with_reducible refine' x_fdivC ?e ?f ?_); (case e => omega); (case f => omega))
  | ((with_reducible refine' x_mulL ?e ?f ?_); (case e => omega); (case f => omega))
  | ((with_reducible refine' x_mulR ?e ?f ?_); (case e => omega); (case f => omega))
  | ((with_reducible refine' x_len ?e ?_); (case e => walk_at "sq"))
  | ((with_reducible refine' x_range ?e ?f ?_); (case e => omega); (case f => omega))
  | ((with_reducible refine' x_tylst ?e ?_); (case e => walk_at "get"))
  | ((with_reducible refine' x_append ?e ?f ?_); (case e => walk_at "get"); (case f => walk_at "size"))
  | ((with_reducible refine' And.intro ?e ?_); (case e => (show _ ≤ sizeLine; walk_at "size")))
  | ((with_reducible refine' Exists.intro _ (And.intro ?e ?_)); (case e => with_unfolding_all rfl)))
/-! ### all places, what stands there, what is bound there -/
abbrev Pt := List Nat × T × List Str
def allp : Nat → T → List Nat → List Str → List Pt
  | 0, t, π, bs => [(π, t, bs)]
  | n + 1, t, π, bs => ((kidsT t).mapIdx fun j u => allp n u (π ++ [j]) (bs ++ bndT t j)).flatten ++ [(π, t, bs)]
def plc : Nat → T → List (List Nat)
  | 0, _ => [[]]
  | n + 1, t => ((kidsT t).mapIdx fun j u => (plc n u).map (j :: ·)).flatten ++ [[]]
theorem Tm.kid {n : Nat} {t u : T} (h : Tm n t) (hu : u ∈ kidsT t) : ∃ m, n = m + 1 ∧ Tm m u := by
  cases h.shp with
  | name a => rw [kids_name] at hu; cases hu
  | frm a b => rw [kids_frm] at hu; cases hu
  | fn a b =>
    rw [kids_fn, List.mem_singleton] at hu
    subst hu
    exact ⟨_, rfl, b⟩
  | case hl a b c =>
    rw [kids_case, List.mem_cons] at hu
    rcases hu with rfl | hu
    · exact ⟨_, rfl, a⟩
    · obtain ⟨p, hp, rfl⟩ := List.mem_map.mp hu
      exact ⟨_, rfl, c p hp⟩
  | other a b c d e f g => exact g u hu
theorem Tm.few {n : Nat} {t : T} (h : Tm n t) : (kidsT t).length ≤ 5 := by
  cases h.shp with
  | name a => rw [kids_name]; decide
  | frm a b => rw [kids_frm]; decide
  | fn a b => rw [kids_fn]; simp
  | case hl a b c => rw [kids_case, List.length_cons, List.length_map]; omega
  | other a b c d e f g i => exact i
theorem Tm.leaf {t : T} (h : Tm 0 t) : kidsT t = [] := by
  cases e : kidsT t with
  | nil => rfl
  | cons u r =>
    obtain ⟨m, q, _⟩ := h.kid (u := u) (by rw [e]; exact List.mem_cons_self)
    cases q
/-- the lists of the parts -/
def kin (n : Nat) (t : T) (π : List Nat) (bs : List Str) : List (List Pt) := (kidsT t).mapIdx fun j u => allp (n - 1) u (π ++ [j]) (bs ++ bndT t j)
theorem allp_eq {n : Nat} {t : T} (h : Tm n t) (π : List Nat) (bs : List Str) : allp n t π bs = (kin n t π bs).flatten ++ [(π, t, bs)] := by
  cases n with
  | zero =>
    unfold kin
    rw [h.leaf]
    rfl
  | succ m => rfl
theorem plc_eq {n : Nat} {t : T} (h : Tm n t) : plc n t = ((kidsT t).mapIdx fun j u => (plc (n - 1) u).map (j :: ·)).flatten ++ [[]] := by
  cases n with
  | zero => rw [h.leaf]; rfl
  | succ m => rfl
theorem allp_fst : ∀ (n : Nat) (t : T) (π : List Nat) (bs : List Str), (allp n t π bs).map (·.1) = (plc n t).map (π ++ ·)
  | 0, t, π, bs => by simp [allp, plc]
  | n + 1, t, π, bs => by
    unfold allp plc
    rw [List.map_append, List.map_append, List.map_flatten, List.map_flatten]
    refine congr (congrArg _ (congrArg _ ?_)) (by simp)
    refine List.ext_getElem? fun i => ?_
    rw [List.getElem?_map, List.getElem?_map, List.getElem?_mapIdx, List.getElem?_mapIdx]
    cases (kidsT t)[i]? with
    | none => rfl
    | some u =>
      show some _ = some _
      rw [allp_fst n u, List.map_map]
      refine congrArg some (List.map_congr_left fun q _ => ?_)
      simp
/-- down a place -/
def stp (o : Option (T × List Str)) (j : Nat) : Option (T × List Str) := o.bind fun p => ((kidsT p.1)[j]?).map fun u => (u, p.2 ++ bndT p.1 j)
def wlk (t : T) (π : List Nat) : Option (T × List Str) := π.foldl stp (some (t, []))
theorem wlk_nil {t : T} : wlk t [] = some (t, []) := rfl
theorem wlk_snoc {t : T} {π : List Nat} {j : Nat} : wlk t (π ++ [j]) = stp (wlk t π) j := by
  unfold wlk
  rw [List.foldl_append]
  rfl
theorem stp_none : ∀ π : List Nat, π.foldl stp none = none
  | [] => rfl
  | j :: π => stp_none π
theorem wlk_take {t u : T} {π : List Nat} {bs : List Str} (h : wlk t π = some (u, bs)) (i : Nat) : ∃ w b, wlk t (π.take i) = some (w, b) := by
  cases e : wlk t (π.take i) with
  | some p => exact ⟨p.1, p.2, rfl⟩
  | none =>
    unfold wlk at h e
    rw [← List.take_append_drop i π, List.foldl_append, e, stp_none] at h
    cases h
/-- one step further down -/
theorem wlk_step {t u : T} {π : List Nat} {bs : List Str} (h : wlk t π = some (u, bs)) {i j : Nat} (hj : π[i]? = some j) {w : T} {b : List Str} (e : wlk t (π.take i) = some (w, b)) :
    ∃ v, (kidsT w)[j]? = some v ∧ wlk t (π.take (i + 1)) = some (v, b ++ bndT w j) := by
  obtain ⟨w1, b1, e1⟩ := wlk_take h (i + 1)
  have e2 := e1
  rw [List.take_succ, hj] at e2
  have e3 : wlk t (π.take i ++ [j]) = some (w1, b1) := e2
  rw [wlk_snoc, e] at e3
  unfold stp at e3
  cases q : (kidsT w)[j]? with
  | none => rw [Option.bind_some, q] at e3; cases e3
  | some v =>
    rw [Option.bind_some, q] at e3
    cases e3
    exact ⟨_, rfl, e1⟩
theorem foldl_stp : ∀ (π : List Nat) {w u : T} {b bs : List Str} {m : Nat}, π.foldl stp (some (w, b)) = some (u, bs) → Tm m w → (∃ m', m' ≤ m ∧ Tm m' u) ∧ ∀ x ∈ b, x ∈ bs
  | [], w, u, b, bs, m, h, hw => by
    cases h
    exact ⟨⟨m, Nat.le_refl _, hw⟩, fun x hx => hx⟩
  | j :: π, w, u, b, bs, m, h, hw => by
    rw [List.foldl_cons] at h
    unfold stp at h
    rw [Option.bind_some] at h
    cases e : (kidsT w)[j]? with
    | none =>
      rw [e] at h
      have h : π.foldl stp none = some (u, bs) := h
      rw [stp_none] at h
      cases h
    | some v =>
      rw [e] at h
      obtain ⟨m1, em, hv⟩ := hw.kid (List.mem_of_getElem? e)
      obtain ⟨⟨m2, l, a⟩, b2⟩ := foldl_stp π (w := v) (b := b ++ bndT w j) h hv
      exact ⟨⟨m2, by omega, a⟩, fun x hx => b2 x (List.mem_append_left _ hx)⟩
theorem wlk_tm {t u : T} {π : List Nat} {bs : List Str} {n : Nat} (h : wlk t π = some (u, bs)) (ht : Tm n t) : ∃ m, m ≤ n ∧ Tm m u := (foldl_stp π h ht).1
theorem wlk_sub {t u w : T} {π : List Nat} {b bs : List Str} {n i : Nat} (h : wlk t π = some (u, bs)) (ht : Tm n t) (e : wlk t (π.take i) = some (w, b)) : ∀ x ∈ b, x ∈ bs := by
  obtain ⟨m, _, hw⟩ := wlk_tm e ht
  unfold wlk at h e
  rw [← List.take_append_drop i π, List.foldl_append, e] at h
  exact (foldl_stp _ h hw).2
theorem allp_wlk {t : T} : ∀ (n : Nat) (u : T) (π : List Nat) (bs : List Str), Tm n u → wlk t π = some (u, bs) → ∀ p ∈ allp n u π bs, wlk t p.1 = some (p.2.1, p.2.2) ∧ Tm n p.2.1 ∧ p.1.length ≤ π.length + n
  | 0, u, π, bs, h, e, p, hp => by
    have : p = (π, u, bs) := by simpa [allp] using hp
    subst this
    exact ⟨e, h, by simp⟩
  | n + 1, u, π, bs, h, e, p, hp => by
    unfold allp at hp
    rcases List.mem_append.mp hp with q | q
    · obtain ⟨l, hl, hp2⟩ := List.mem_flatten.mp q
      rw [List.mem_mapIdx] at hl
      obtain ⟨j, hj, rfl⟩ := hl
      obtain ⟨m, em, hm⟩ := h.kid (u := (kidsT u)[j]) (List.getElem_mem hj)
      obtain rfl : n = m := by omega
      have e2 : wlk t (π ++ [j]) = some ((kidsT u)[j], bs ++ bndT u j) := by
        rw [wlk_snoc, e]
        unfold stp
        rw [Option.bind_some, List.getElem?_eq_getElem hj]
        rfl
      obtain ⟨a, b, c⟩ := allp_wlk n _ (π ++ [j]) _ hm e2 p hp2
      rw [List.length_append, List.length_singleton] at c
      exact ⟨a, b.le (by omega), by omega⟩
    · have : p = (π, u, bs) := by simpa using q
      subst this
      exact ⟨e, h, by simp⟩
/-- what a place has to tell -/
def ownN (π : List Nat) (bs : List Str) : List T → List T
  | [.str x] => if x ∈ bs then [] else [.tup [plT π, .str x]]
  | _ => []
def ownF (π : List Nat) (rest : List T) : List T := [.tup [plT π, .tup rest]]
def ownT (π : List Nat) (bs : List Str) : T → List T
  | .tup (.str w :: rest) => if w = "name" then ownN π bs rest else if w = "from" then ownF π rest else []
  | _ => []
def own (p : Pt) : List T := ownT p.1 p.2.2 p.2.1
theorem ownT_eq {π : List Nat} {bs : List Str} {w : Str} {rest : List T} : ownT π bs (.tup (.str w :: rest)) = if w = "name" then ownN π bs rest else if w = "from" then ownF π rest else [] := rfl
theorem own_name {π : List Nat} {bs : List Str} {x : Str} : ownT π bs (.tup [.str "name", .str x]) = if x ∈ bs then [] else [.tup [plT π, .str x]] := by
  rw [ownT_eq, if_pos rfl]
  rfl
theorem own_frm {π : List Nat} {bs : List Str} {rest : List T} : ownT π bs (.tup (.str "from" :: rest)) = [.tup [plT π, .tup rest]] := by
  rw [ownT_eq, if_neg (by decide +kernel), if_pos rfl]
  rfl
theorem own_no {π : List Nat} {bs : List Str} {w : Str} {rest : List T} (h1 : w ≠ "name") (h2 : w ≠ "from") : ownT π bs (.tup (.str w :: rest)) = [] := by
  rw [ownT_eq, if_neg h1, if_neg h2]
/-- the names that aren't bound, and the froms -/
def nmd (n : Nat) (t : T) (π : List Nat) (bs : List Str) : List T := (allp n t π bs).flatMap own
theorem own_len (p : Pt) : (own p).length ≤ 1 := by
  obtain ⟨π, t, bs⟩ := p
  show (ownT π bs t).length ≤ 1
  cases t with
  | tup ts =>
    match ts with
    | .str w :: rest =>
      rw [ownT_eq]
      by_cases h1 : w = "name"
      · rw [if_pos h1]
        unfold ownN
        split
        · split <;> simp
        · simp
      rw [if_neg h1]
      by_cases h2 : w = "from"
      · rw [if_pos h2]; simp [ownF]
      · rw [if_neg h2]; simp
    | [] => simp [ownT]
    | .non :: _ => simp [ownT]
    | .bl _ :: _ => simp [ownT]
    | .int _ :: _ => simp [ownT]
    | .ty _ :: _ => simp [ownT]
    | .ref _ :: _ => simp [ownT]
    | .tup _ :: _ => simp [ownT]
    | .cl _ :: _ => simp [ownT]
  | _ => simp [ownT]
theorem flat_len : ∀ ps : List Pt, (ps.flatMap own).length ≤ ps.length
  | [] => Nat.le_refl _
  | p :: ps => by
    rw [List.flatMap_cons, List.length_append, List.length_cons]
    have := own_len p
    have := flat_len ps
    omega
end Lw

set_option Elab.async false
set_option linter.all false
set_option maxRecDepth 100000
set_option maxHeartbeats 1000000
namespace Lw
open PySem L2 Mi
local macro_rules | `(tactic| walk_at "get") => `(tactic| first | assumption | exact put_same | (refine get_new (by assumption) ?_; walk_at "get") | (refine get_ne (by assumption) ?_; walk_at "get"))
local macro_rules | `(tactic| walk_at "sq") => `(tactic| first | assumption | exact .inl rfl | exact .inr (.inl rfl) | exact .inr (.inr ⟨_, rfl, by walk_at "get"⟩))
local macro_rules | `(tactic| walk_at "size") => `(tactic| first | assumption | (simp only [List.length_cons, List.length_nil]; decide) | (have := sizeLine_eq; omega))
local macro_rules | `(tactic| walk_at "txt") => `(tactic| first | assumption | (simp only [Str.length, Str.cps_append, Array.size_append]; have := sizeLine_eq; omega))
local macro_rules | `(tactic| walk_at "go1") => `(tactic| first
  | ((with_reducible refine' x_var ?e ?_); (case e => with_unfolding_all rfl))
  | with_reducible refine x_seq ?_
  | with_reducible refine x_asg ?_
  | with_reducible refine x_if ?_
  | with_reducible refine x_ret ?_
  | with_reducible refine x_next ?_
  | with_reducible refine x_expr ?_
  | with_reducible refine x_gname ?_
  | with_reducible refine x_gcons ?_
  | with_reducible refine x_gnil ?_
  | with_reducible refine x_gsub ?_
  | with_reducible refine x_c ?_
  | with_reducible refine x_op ?_
  | with_reducible refine x_call ?_
  | with_reducible refine x_cons ?_
  | with_reducible refine x_nil ?_
  | with_reducible refine x_par ?_
  | with_reducible refine x_tup ?_
  | with_reducible refine x_lst ?_
  | with_reducible refine x_b ?_
  | with_reducible refine x_tru ?_
  | with_reducible refine x_not ?_
  | with_reducible refine x_or ?_
  | with_reducible refine x_and ?_
  | with_reducible refine x_ife ?_
  | with_reducible refine x_add ?_
  | with_reducible refine x_sub ?_
  | with_reducible refine x_gtI ?_
  | with_reducible refine x_ltI ?_
  | with_reducible refine x_geI ?_
  | with_reducible refine x_leI ?_
  | with_reducible refine x_abs ?_
  | with_reducible refine x_intb ?_
  | with_reducible refine x_for ?_
  | with_reducible refine x_irange ?_
  | with_reducible refine x_lc ?_
  | with_reducible refine x_yes ?_
  | with_reducible refine x_bm ?_
  | with_reducible refine x_bm0 ?_
  | with_reducible refine x_andv ?_
  | with_reducible refine x_orv ?_
  | with_reducible refine x_notv ?_
  | with_reducible refine x_eqI ?_
  | with_reducible refine x_tystr ?_
  | ((with_reducible refine' x_gtup ?e ?_); (case e => with_unfolding_all rfl))
  | ((with_reducible refine' x_pow ?e ?_); (case e => exact ⟨by decide, by decide, by decide⟩))
  | ((with_reducible refine' x_ix ?e ?q ?_); (case e => walk_at "get"); (case q => with_unfolding_all rfl))
  | ((with_reducible refine' x_ixt ?q ?_); (case q => with_unfolding_all rfl))
  | ((with_reducible refine' x_sto ?e ?q ?_); (case e => walk_at "get"); (case q => with_unfolding_all rfl))
  | ((with_reducible refine' x_adds ?e ?_); (case e => walk_at "txt"))
  | ((with_reducible refine' x_muls ?e ?f ?g ?_); (case e => omega); (case f => omega); (case g => walk_at "txt"))
  | ((with_reducible refine' x_divmod ?e ?_); (case e => exact ⟨by omega, by omega⟩))
  | ((with_reducible refine' x_mod ?e ?_); (case e => omega))
  | ((with_reducible refine' x_fdivC ?e ?f ?_); (case e => omega); (case f => omega))
  | ((with_reducible refine' x_mulL ?e ?f ?_); (case e => omega); (case f => omega))
  | ((with_reducible refine' x_mulR ?e ?f ?_); (case e => omega); (case f => omega))
  | ((with_reducible refine' x_len ?e ?_); (case e => walk_at "sq"))
  | ((with_reducible refine' x_range ?e ?f ?_); (case e => omega); (case f => omega))
  | ((with_reducible refine' x_tylst ?e ?_); (case e => walk_at "get"))
  | ((with_reducible refine' x_append ?e ?f ?_); (case e => walk_at "get"); (case f => walk_at "size"))
  | ((with_reducible refine' And.intro ?e ?_); (case e => (show _ ≤ sizeLine; walk_at "size")))
  | ((with_reducible refine' Exists.intro _ (And.intro ?e ?_)); (case e => with_unfolding_all rfl)))
theorem parts_ok {k n : Nat} {t : T} {G : Gp} {R : KT} (ht : Tm n t) (hR : ∀ s us G', us = kidsT t → us.length ≤ 10 → (∀ u ∈ us, ∃ m, n = m + 1 ∧ Tm m u) → Ext G G' → Fs G G' s us → R s G') : SP (k + 1) 10 [t] G R := by
  show spOf 5 1 (b10 (SP k)) _ _ _
  refine ⟨rfl, ?_⟩
  unfold b10
  have leaf : ∀ ts : List T, [] = kidsT (.tup ts) → t = .tup ts → ∀ p, G p = none → fwdT R (.ref p) (put G p (.lst [])) := fun ts kd e p hp =>
    fwdT.of (hR _ _ _ (e ▸ kd) (by simp) (by simp) (Ext.new hp) (.inr ⟨p, rfl, hp, put_same⟩))
  cases ht with
  | num a b =>
    repeat walk_at "go1"
    refine x_inS4 (b := true) (by decide) ?_
    repeat walk_at "go1"
    rw [if_pos rfl]
    repeat walk_at "go1"
    exact leaf _ kids_num.symm rfl
  | name a =>
    repeat walk_at "go1"
    refine x_inS4 (b := true) (by decide) ?_
    repeat walk_at "go1"
    rw [if_pos rfl]
    repeat walk_at "go1"
    exact leaf _ kids_name.symm rfl
  | frm a b =>
    repeat walk_at "go1"
    refine x_inS4 (b := true) (by decide) ?_
    repeat walk_at "go1"
    rw [if_pos rfl]
    repeat walk_at "go1"
    exact leaf _ kids_frm.symm rfl
  | hole =>
    repeat walk_at "go1"
    refine x_inS4 (b := true) (by decide) ?_
    repeat walk_at "go1"
    rw [if_pos rfl]
    repeat walk_at "go1"
    exact leaf _ kids_hole.symm rfl
  | fn hx h1 =>
    repeat walk_at "go1"
    refine x_inS4 (b := false) (by decide) ?_
    repeat walk_at "go1"
    rw [if_neg (by decide)]
    repeat walk_at "go1"
    refine x_eqSb (b := false) (by decide +kernel) (by decide +kernel) (by decide) ?_
    repeat walk_at "go1"
    rw [if_neg (by decide)]
    repeat walk_at "go1"
    refine x_eqSb (b := false) (by decide +kernel) (by decide +kernel) (by decide) ?_
    repeat walk_at "go1"
    rw [if_neg (by decide)]
    repeat walk_at "go1"
    refine last_ok rfl rfl rfl (by simp) fun G1 f => fwdT.of (hR _ _ G1 kids_fn.symm (by simp) (by simpa using h1) f (.inl rfl))
  | bin hw h1 h2 =>
    simp only [List.mem_cons, List.not_mem_nil, or_false] at hw
    rcases hw with rfl | rfl | rfl | rfl
    all_goals
      repeat walk_at "go1"
      refine x_inS4 (b := false) (by decide) ?_
      repeat walk_at "go1"
      rw [if_neg (by decide)]
      repeat walk_at "go1"
      refine x_eqSb (b := false) (by decide +kernel) (by decide +kernel) (by decide) ?_
      repeat walk_at "go1"
      rw [if_neg (by decide)]
      repeat walk_at "go1"
      refine x_eqSb (b := false) (by decide +kernel) (by decide +kernel) (by decide) ?_
      repeat walk_at "go1"
      rw [if_neg (by decide)]
      repeat walk_at "go1"
      refine last_ok rfl rfl rfl (by simp) fun G1 f => fwdT.of (hR _ _ G1 (kids_bin (by simp)).symm (by simp) (by simpa using ⟨h1, h2⟩) f (.inl rfl))
  | under h1 h2 h3 h4 =>
    repeat walk_at "go1"
    refine x_inS4 (b := false) (by decide) ?_
    repeat walk_at "go1"
    rw [if_neg (by decide)]
    repeat walk_at "go1"
    refine x_eqSb (b := false) (by decide +kernel) (by decide +kernel) (by decide) ?_
    repeat walk_at "go1"
    rw [if_neg (by decide)]
    repeat walk_at "go1"
    refine x_eqSb (b := false) (by decide +kernel) (by decide +kernel) (by decide) ?_
    repeat walk_at "go1"
    rw [if_neg (by decide)]
    repeat walk_at "go1"
    refine last_ok rfl rfl rfl (by simp) fun G1 f => fwdT.of (hR _ _ G1 kids_under.symm (by simp) (by simpa using ⟨h1, h2, h3, h4⟩) f (.inl rfl))
  | rcd hl hw h1 =>
    rename_i ps
    repeat walk_at "go1"
    refine x_inS4 (b := false) (by decide) ?_
    repeat walk_at "go1"
    rw [if_neg (by decide)]
    repeat walk_at "go1"
    refine x_eqSb (b := true) (by decide +kernel) (by decide +kernel) (by decide) ?_
    repeat walk_at "go1"
    rw [if_pos rfl]
    repeat walk_at "go1"
    have take_s : ∀ i y, ps[i]? = some y → (ps.take (i + 1)).map (fun p => p.2) = (ps.take i).map (fun p => p.2) ++ [y.2] := fun i y e => by
      rw [List.take_succ, e, List.map_append]
      rfl
    refine x_iseq (x_op (x_var rfl (x_c (x_ixt rfl ⟨ps.map fun p => T.tup [.str p.1, p.2], .inl rfl, fun D hD => ?_⟩))))
    refine ⟨fun i G' => G' D = some (.lst ((ps.take i).map fun p => p.2)) ∧ Ext G G', ⟨put_same, Ext.new hD⟩, fun i G' _ q hq => (by cases hq), ?_, ?_⟩
    · intro i t G' ht2 ⟨w1, w2⟩
      rw [List.getElem?_map] at ht2
      cases e0 : ps[i]? with
      | none => rw [e0] at ht2; cases ht2
      | some y =>
        rw [e0] at ht2
        cases ht2
        repeat walk_at "go1"
        rw [if_pos rfl]
        repeat walk_at "go1"
        exact ⟨_, w1, by have := sizeLine_eq; simp only [List.length_map, List.length_take]; omega, fwdG.of ⟨by rw [put_same, take_s i y e0], Ext.grow hD w2⟩⟩
    · intro G' ⟨w1, w2⟩
      have w1' : G' D = some (.lst ((ps.take (ps.map fun p => T.tup [.str p.1, p.2]).length).map fun p => p.2)) := w1
      rw [List.length_map, List.take_length] at w1'
      exact fwdT.of (hR _ _ G' kids_rcd.symm (by rw [List.length_map]; omega) (fun u hu => by
        obtain ⟨p, hp, rfl⟩ := List.mem_map.mp hu
        exact ⟨_, rfl, h1 p hp⟩) w2 (.inr ⟨D, rfl, hD, w1'⟩))
  | get hx h1 =>
    repeat walk_at "go1"
    refine x_inS4 (b := false) (by decide) ?_
    repeat walk_at "go1"
    rw [if_neg (by decide)]
    repeat walk_at "go1"
    refine x_eqSb (b := false) (by decide +kernel) (by decide +kernel) (by decide) ?_
    repeat walk_at "go1"
    rw [if_neg (by decide)]
    repeat walk_at "go1"
    refine x_eqSb (b := false) (by decide +kernel) (by decide +kernel) (by decide) ?_
    repeat walk_at "go1"
    rw [if_neg (by decide)]
    repeat walk_at "go1"
    refine last_ok rfl rfl rfl (by simp) fun G1 f => fwdT.of (hR _ _ G1 kids_get.symm (by simp) (by simpa using h1) f (.inl rfl))
  | put hx h1 h2 =>
    repeat walk_at "go1"
    refine x_inS4 (b := false) (by decide) ?_
    repeat walk_at "go1"
    rw [if_neg (by decide)]
    repeat walk_at "go1"
    refine x_eqSb (b := false) (by decide +kernel) (by decide +kernel) (by decide) ?_
    repeat walk_at "go1"
    rw [if_neg (by decide)]
    repeat walk_at "go1"
    refine x_eqSb (b := false) (by decide +kernel) (by decide +kernel) (by decide) ?_
    repeat walk_at "go1"
    rw [if_neg (by decide)]
    repeat walk_at "go1"
    refine last_ok rfl rfl rfl (by simp) fun G1 f => fwdT.of (hR _ _ G1 kids_put.symm (by simp) (by simpa using ⟨h1, h2⟩) f (.inl rfl))
  | tag hx h1 =>
    repeat walk_at "go1"
    refine x_inS4 (b := false) (by decide) ?_
    repeat walk_at "go1"
    rw [if_neg (by decide)]
    repeat walk_at "go1"
    refine x_eqSb (b := false) (by decide +kernel) (by decide +kernel) (by decide) ?_
    repeat walk_at "go1"
    rw [if_neg (by decide)]
    repeat walk_at "go1"
    refine x_eqSb (b := false) (by decide +kernel) (by decide +kernel) (by decide) ?_
    repeat walk_at "go1"
    rw [if_neg (by decide)]
    repeat walk_at "go1"
    refine last_ok rfl rfl rfl (by simp) fun G1 f => fwdT.of (hR _ _ G1 kids_tag.symm (by simp) (by simpa using h1) f (.inl rfl))
  | case hl h0 hw hx h1 =>
    rename_i t0 ps
    repeat walk_at "go1"
    refine x_inS4 (b := false) (by decide) ?_
    repeat walk_at "go1"
    rw [if_neg (by decide)]
    repeat walk_at "go1"
    refine x_eqSb (b := false) (by decide +kernel) (by decide +kernel) (by decide) ?_
    repeat walk_at "go1"
    rw [if_neg (by decide)]
    repeat walk_at "go1"
    refine x_eqSb (b := true) (by decide +kernel) (by decide +kernel) (by decide) ?_
    repeat walk_at "go1"
    rw [if_pos rfl]
    repeat walk_at "go1"
    have take_s : ∀ i y, ps[i]? = some y → (ps.take (i + 1)).map (fun p => p.2.2) = (ps.take i).map (fun p => p.2.2) ++ [y.2.2] := fun i y e => by
      rw [List.take_succ, e, List.map_append]
      rfl
    intro p0 hp0
    refine x_lc (x_iseq (x_op (x_var rfl (x_c (x_ixt rfl ⟨ps.map fun p => T.tup [.str p.1, .str p.2.1, p.2.2], .inl rfl, fun D hD => ?_⟩)))))
    have f0 : Ext G (put G p0 (.lst [t0])) := Ext.new (c := .lst [_]) hp0
    refine ⟨fun i G' => G' D = some (.lst ((ps.take i).map fun p => p.2.2)) ∧ Ext (put G p0 (.lst [t0])) G', ⟨put_same, Ext.new hD⟩, fun i G' _ q hq => (by cases hq), ?_, ?_⟩
    · intro i t G' ht2 ⟨w1, w2⟩
      rw [List.getElem?_map] at ht2
      cases e0 : ps[i]? with
      | none => rw [e0] at ht2; cases ht2
      | some y =>
        rw [e0] at ht2
        cases ht2
        repeat walk_at "go1"
        rw [if_pos rfl]
        repeat walk_at "go1"
        exact ⟨_, w1, by have := sizeLine_eq; simp only [List.length_map, List.length_take]; omega, fwdG.of ⟨by rw [put_same, take_s i y e0], Ext.grow hD w2⟩⟩
    · intro G' ⟨w1, w2⟩
      have w1' : G' D = some (.lst ((ps.take (ps.map fun p => T.tup [.str p.1, .str p.2.1, p.2.2]).length).map fun p => p.2.2)) := w1
      rw [List.length_map, List.take_length] at w1'
      refine x_catL (w2 _ _ put_same) w1' (by have := sizeLine_eq; simp only [List.length_map, List.length_cons, List.length_nil]; omega) fun n hn => ?_
      exact fwdT.of (hR _ _ _ kids_case.symm (by simp only [List.length_map, List.length_cons]; omega) (fun u hu => by
        rcases List.mem_cons.mp hu with rfl | hu
        · exact ⟨_, rfl, h0⟩
        · obtain ⟨p, hp, rfl⟩ := List.mem_map.mp hu
          exact ⟨_, rfl, h1 p hp⟩) ((f0.trans w2).trans (Ext.new hn)) (.inr ⟨n, rfl, (f0.trans w2).none hn, put_same⟩))

end Lw

set_option Elab.async false
set_option linter.all false
set_option maxRecDepth 100000
set_option maxHeartbeats 1000000
namespace Lw
open PySem L2 Mi
local macro_rules | `(tactic| walk_at "get") => `(tactic| first | assumption | exact put_same | (refine get_new (by assumption) ?_; walk_at "get") | (refine get_ne (by assumption) ?_; walk_at "get"))
local macro_rules | `(tactic| walk_at "sq") => `(tactic| first | assumption | exact .inl rfl | exact .inr (.inl rfl) | exact .inr (.inr ⟨_, rfl, by walk_at "get"⟩))
local macro_rules | `(tactic| walk_at "size") => `(tactic| first | assumption | (simp only [List.length_cons, List.length_nil]; decide) | (have := sizeLine_eq; omega))
local macro_rules | `(tactic| walk_at "txt") => `(tactic| first | assumption | (simp only [Str.length, Str.cps_append, Array.size_append]; have := sizeLine_eq; omega))
local macro_rules | `(tactic| walk_at "go1") => `(tactic| first
  | ((with_reducible refine' x_var ?e ?_); (case e => with_unfolding_all rfl))
  | with_reducible refine x_seq ?_
  | with_reducible refine x_asg ?_
  | with_reducible refine x_if ?_
  | with_reducible refine x_ret ?_
  | with_reducible refine x_next ?_
  | with_reducible refine x_expr ?_
  | with_reducible refine x_gname ?_
  | with_reducible refine x_gcons ?_
  | with_reducible refine x_gnil ?_
  | with_reducible refine x_gsub ?_
  | with_reducible refine x_c ?_
  | with_reducible refine x_op ?_
  | with_reducible refine x_call ?_
  | with_reducible refine x_cons ?_
  | with_reducible refine x_nil ?_
  | with_reducible refine x_par ?_
  | with_reducible refine x_tup ?_
  | with_reducible refine x_lst ?_
  | with_reducible refine x_b ?_
  | with_reducible refine x_tru ?_
  | with_reducible refine x_not ?_
  | with_reducible refine x_or ?_
  | with_reducible refine x_and ?_
  | with_reducible refine x_ife ?_
  | with_reducible refine x_add ?_
  | with_reducible refine x_sub ?_
  | with_reducible refine x_gtI ?_
  | with_reducible refine x_ltI ?_
  | with_reducible refine x_geI ?_
  | with_reducible refine x_leI ?_
  | with_reducible refine x_abs ?_
  | with_reducible refine x_intb ?_
  | with_reducible refine x_for ?_
  | with_reducible refine x_irange ?_
  | with_reducible refine x_lc ?_
  | with_reducible refine x_yes ?_
  | with_reducible refine x_bm ?_
  | with_reducible refine x_bm0 ?_
  | with_reducible refine x_andv ?_
  | with_reducible refine x_orv ?_
  | with_reducible refine x_notv ?_
  | with_reducible refine x_eqI ?_
  | with_reducible refine x_tystr ?_
  | ((with_reducible refine' x_gtup ?e ?_); (case e => with_unfolding_all rfl))
  | ((with_reducible refine' x_pow ?e ?_); (case e => exact ⟨by decide, by decide, by decide⟩))
  | ((with_reducible refine' x_ix ?e ?q ?_); (case e => walk_at "get"); (case q => with_unfolding_all rfl))
  | ((with_reducible refine' x_ixt ?q ?_); (case q => with_unfolding_all rfl))
  | ((with_reducible refine' x_sto ?e ?q ?_); (case e => walk_at "get"); (case q => with_unfolding_all rfl))
  | ((with_reducible refine' x_adds ?e ?_); (case e => walk_at "txt"))
  | ((with_reducible refine' x_muls ?e ?f ?g ?_); (case e => omega); (case f => omega); (case g => walk_at "txt"))
  | ((with_reducible refine' x_divmod ?e ?_); (case e => exact ⟨by omega, by omega⟩))
  | ((with_reducible refine' x_mod ?e ?_); (case e => omega))
  | ((with_reducible refine' x_fdivC ?e ?f ?_); (case e => omega); (case f => omega))
  | ((with_reducible refine' x_mulL ?e ?f ?_); (case e => omega); (case f => omega))
  | ((with_reducible refine' x_mulR ?e ?f ?_); (case e => omega); (case f => omega))
  | ((with_reducible refine' x_len ?e ?_); (case e => walk_at "sq"))
  | ((with_reducible refine' x_range ?e ?f ?_); (case e => omega); (case f => omega))
  | ((with_reducible refine' x_tylst ?e ?_); (case e => walk_at "get"))
  | ((with_reducible refine' x_append ?e ?f ?_); (case e => walk_at "get"); (case f => walk_at "size"))
  | ((with_reducible refine' And.intro ?e ?_); (case e => (show _ ≤ sizeLine; walk_at "size")))
  | ((with_reducible refine' Exists.intro _ (And.intro ?e ?_)); (case e => with_unfolding_all rfl)))
def PlOk (k n : Nat) : Prop := ∀ (t : T) (G : Gp) (R : KT), Tm n t → Pb n ≤ 1000000 → n ≤ 50 → (∀ p ps G', ps = plc n t → ps.length ≤ Pb n → (∀ q ∈ ps, q.length ≤ n) → Ext G G' → G p = none → G' p = some (.lst (ps.map plT)) → R (.ref p) G') → SP k 11 [t] G R
theorem places_step {k n : Nat} (IH : ∀ m, n = m + 1 → PlOk (k + 1) m) : PlOk (k + 2) n := by
  intro t G R ht hb hn hR
  show spOf 5 1 (b11 (SP (k + 1))) _ _ _
  refine ⟨rfl, ?_⟩
  unfold b11
  repeat walk_at "go1"
  intro p0 hp0
  repeat walk_at "go1"
  refine x_ienum ?_
  repeat walk_at "go1"
  refine parts_ok ht fun s us G1 kd ul hu f1 fs => ?_
  have kl := kd
  repeat walk_at "go1"
  refine ⟨us, fs.src, ?_⟩
  have hC : n = 0 → us = [] := fun e => by
    cases us with
    | nil => rfl
    | cons u r => obtain ⟨m, q, _⟩ := hu u (by simp); omega
  have c10 := Pn10 (Pb (n - 1))
  refine ⟨fun i r G' => ∃ (p : Addr) (pss : List (List (List Nat))) (x2 x3 x4 : Option T), pss.length = i ∧ (∀ (j : Nat) (u : T) (l : List (List Nat)), us[j]? = some u → pss[j]? = some l → l = plc (n - 1) u) ∧ (∀ l ∈ pss, ∀ q ∈ l, q.length ≤ n - 1) ∧
    r = [some t, some (.ref p), x2, x3, x4] ∧ G' p = some (.lst ((pss.mapIdx fun j l => l.map (j :: ·)).flatten.map plT)) ∧ (pss.mapIdx fun j l => l.map (j :: ·)).flatten.length ≤ Pn (Pb (n - 1)) i ∧ Ext G1 G', ?_, ?_, ?_, ?_⟩
  · exact ⟨p0, [], none, none, none, rfl, by simp, by simp, rfl, f1 _ _ put_same, by simp, Ext.refl _⟩
  · intro i r G' ⟨p, pss, x2, x3, x4, w1, w2, w3, w4, w5, w6, w7⟩
    exact fs.held w7
  · intro i t2 r G' ht2 ⟨p, pss, x2, x3, x4, w1, w2, w3, w4, w5, w6, w7⟩
    subst w4
    obtain ⟨u, eu, rfl⟩ := enum_at ht2
    obtain ⟨m, rfl, hm⟩ := hu u (List.mem_of_getElem? eu)
    have iu : i < us.length := (List.getElem?_eq_some_iff.mp eu).1
    repeat walk_at "go1"
    refine x_iseq ?_
    repeat walk_at "go1"
    refine IH m rfl u G' _ hm (by simp only [Pb] at hb; omega) (by omega) fun q ps G2 pl pn pq f2 hq e2 => ?_
    repeat walk_at "go1"
    refine ⟨ps.map plT, .inr (.inl (.inr ⟨q, rfl, e2⟩)), fun D hD => ?_⟩
    have take_s : ∀ j y, ps[j]? = some y → (ps.take (j + 1)).map (fun q => plT (i :: q)) = (ps.take j).map (fun q => plT (i :: q)) ++ [plT (i :: y)] := fun j y e => by
      rw [List.take_succ, e, List.map_append]
      rfl
    refine ⟨fun j G3 => G3 D = some (.lst ((ps.take j).map fun q => plT (i :: q))) ∧ Ext G2 G3, ⟨put_same, Ext.new hD⟩, ?_, ?_, ?_⟩
    · intro j G3 ⟨_, y2⟩ z hz
      have : z = (q, ps.map plT) := by simpa [heldT] using hz
      subst this
      exact y2 _ _ e2
    · intro j t3 G3 ht3 ⟨y1, y2⟩
      have ht4 : (ps.map plT)[j]? = some t3 := ht3
      rw [List.getElem?_map] at ht4
      cases e0 : ps[j]? with
      | none => rw [e0] at ht4; cases ht4
      | some y =>
        rw [e0] at ht4
        cases ht4
        have yl := pq y (List.mem_of_getElem? e0)
        repeat walk_at "go1"
        rw [if_pos rfl]
        repeat walk_at "go1"
        refine x_catT (by simp only [List.length_cons, List.length_nil, List.length_map]; have := sizeLine_eq; omega) ?_
        exact ⟨_, y1, by have := sizeLine_eq; simp only [List.length_map, List.length_take]; simp only [Pb] at hb; omega, fwdG.of ⟨by rw [put_same, take_s j y e0]; rfl, Ext.grow hD y2⟩⟩
    · intro G3 ⟨y1, y2⟩
      have y1' : G3 D = some (.lst ((ps.take (ps.map plT).length).map fun q => plT (i :: q))) := y1
      rw [List.length_map, List.take_length] at y1'
      have c1 := Pn_le (c := Pb (m + 1 - 1)) (i := i + 1) (m := 10) (by omega)
      have c2 : Pn (Pb (m + 1 - 1)) (i + 1) = Pn (Pb (m + 1 - 1)) i + Pb (m + 1 - 1) := rfl
      have c3 : m + 1 - 1 = m := by omega
      rw [c3] at c1 c2 c10 w6
      have w5' := y2 _ _ (f2 _ _ w5)
      refine x_catL w5' y1' (by simp only [List.length_map]; have := sizeLine_eq; simp only [Pb] at hb; omega) fun x hx => ?_
      repeat walk_at "go1"
      have e7 : ((pss ++ [ps]).mapIdx fun j l => l.map (j :: ·)).flatten = (pss.mapIdx fun j l => l.map (j :: ·)).flatten ++ ps.map (i :: ·) := by
        rw [List.mapIdx_concat, List.flatten_concat, w1]
      refine fwd.of ⟨x, pss ++ [ps], _, _, _, by simp [w1], ?_, ?_, rfl, ?_, ?_, ?_⟩
      · intro j u2 l a b
        by_cases hj : j < pss.length
        · rw [List.getElem?_append_left hj] at b
          exact w2 j u2 l a b
        · rw [List.getElem?_append_right (by omega)] at b
          have hj2 : j = i := by
            have := (List.getElem?_eq_some_iff.mp b).1
            simp at this
            omega
          subst hj2
          rw [w1, Nat.sub_self] at b
          cases b
          rw [eu] at a
          cases a
          exact pl
      · intro l hl z hz
        rcases List.mem_append.mp hl with a | a
        · exact w3 l a z hz
        · rw [show l = ps by simpa using a] at hz
          rw [c3]; exact pq z hz
      · rw [put_same, e7, List.map_append, List.map_map]; rfl
      · rw [e7, List.length_append, List.length_map, c3, c2]; omega
      · exact ((w7.trans f2).trans y2).trans (Ext.new hx)
  · intro r G' ⟨p, pss, x2, x3, x4, w1, w2, w3, w4, w5, w6, w7⟩
    subst w4
    have wl : pss.length = us.length := by rw [w1]; simp [enumT]
    have c1 := Pn_le (c := Pb (n - 1)) (i := pss.length) (m := 10) (by omega)
    have hlen : (pss.mapIdx fun j l => l.map (j :: ·)).flatten.length + 1 ≤ Pb n := by
      rw [← w1] at w6
      cases n with
      | zero =>
        have := hC rfl
        subst this
        have z : pss = [] := List.eq_nil_of_length_eq_zero (by rw [wl]; rfl)
        subst z
        decide
      | succ m =>
        simp only [Nat.add_sub_cancel] at w6 c1 c10
        show _ ≤ 10 * Pb m + 1
        omega
    repeat walk_at "go1"
    intro x hx
    repeat walk_at "go1"
    refine x_catL (get_new hx w5) put_same (by simp only [List.length_map, List.length_cons, List.length_nil]; have := sizeLine_eq; omega) fun y hy => ?_
    have E1 : Ext G G' := (Ext.new (c := .lst []) hp0).trans (f1.trans w7)
    have E2 := E1.trans ((Ext.new (c := .lst [.tup []]) hx).trans (Ext.new (c := .lst ((pss.mapIdx fun j l => l.map (j :: ·)).flatten.map plT ++ [.tup []])) hy))
    refine fwdT.of (hR y ((pss.mapIdx fun j l => l.map (j :: ·)).flatten ++ [[]]) _ ?_ (by rw [List.length_append]; exact hlen) ?_ E2 (E1.none (Ext.none (Ext.new (c := .lst [.tup []]) hx) hy)) (by rw [put_same, List.map_append]; rfl))
    · rw [plc_eq ht]
      refine congrArg (· ++ _) (congrArg _ (List.ext_getElem? fun i => ?_))
      rw [List.getElem?_mapIdx, List.getElem?_mapIdx, ← kl]
      cases eu : us[i]? with
      | none => rw [List.getElem?_eq_none (by rw [wl]; exact List.getElem?_eq_none_iff.mp eu)]; rfl
      | some u =>
        obtain ⟨l, el⟩ : ∃ l, pss[i]? = some l := ⟨_, List.getElem?_eq_getElem (by rw [wl]; exact (List.getElem?_eq_some_iff.mp eu).1)⟩
        rw [el, w2 i u l eu el]
        rfl
    intro q hq
    rcases List.mem_append.mp hq with a | a
    · obtain ⟨l, hl, hq2⟩ := List.mem_flatten.mp a
      rw [List.mem_mapIdx] at hl
      obtain ⟨j, hj, rfl⟩ := hl
      obtain ⟨z, hz, rfl⟩ := List.mem_map.mp hq2
      have := w3 _ (List.getElem_mem hj) z hz
      have n0 : n ≠ 0 := fun e => by
        have := hC e
        subst this
        simp at wl
        subst wl
        simp at hj
      rw [List.length_cons]
      omega
    · rw [show q = [] by simpa using a]; exact Nat.zero_le _
theorem places_ok : ∀ (n k : Nat), n + 2 ≤ k → PlOk k n
  | 0, k, h => by
    obtain ⟨k0, rfl⟩ : ∃ k0, k = k0 + 2 := ⟨k - 2, by omega⟩
    exact places_step fun m e => by omega
  | n + 1, k, h => by
    obtain ⟨k0, rfl⟩ : ∃ k0, k = k0 + 2 := ⟨k - 2, by omega⟩
    refine places_step fun m e => ?_
    obtain rfl : n = m := by omega
    exact places_ok n (k0 + 1) (by omega)

end Lw

set_option Elab.async false
set_option linter.all false
set_option maxRecDepth 100000
set_option maxHeartbeats 1000000
namespace Lw
open PySem L2 Mi
local macro_rules | `(tactic| walk_at "get") => `(tactic| first | assumption | exact put_same | (refine get_new (by assumption) ?_; walk_at "get") | (refine get_ne (by assumption) ?_; walk_at "get"))
local macro_rules | `(tactic| walk_at "sq") => `(tactic| first | assumption | exact .inl rfl | exact .inr (.inl rfl) | exact .inr (.inr ⟨_, rfl, by walk_at "get"⟩))
local macro_rules | `(tactic| walk_at "size") => `(tactic| first | assumption | (simp only [List.length_cons, List.length_nil]; decide) | (have := sizeLine_eq; omega))
local macro_rules | `(tactic| walk_at "txt") => `(tactic| first | assumption | (simp only [Str.length, Str.cps_append, Array.size_append]; have := sizeLine_eq; omega))
local macro_rules | `(tactic| walk_at "go1") => `(tactic| first
  | ((with_reducible refine' x_var ?e ?_); (case e => with_unfolding_all rfl))
  | with_reducible refine x_seq ?_
  | with_reducible refine x_asg ?_
  | with_reducible refine x_if ?_
  | with_reducible refine x_ret ?_
  | with_reducible refine x_next ?_
  | with_reducible refine x_expr ?_
  | with_reducible refine x_gname ?_
  | with_reducible refine x_gcons ?_
  | with_reducible refine x_gnil ?_
  | with_reducible refine x_gsub ?_
  | with_reducible refine x_c ?_
  | with_reducible refine x_op ?_
  | with_reducible refine x_call ?_
  | with_reducible refine x_cons ?_
  | with_reducible refine x_nil ?_
  | with_reducible refine x_par ?_
  | with_reducible refine x_tup ?_
  | with_reducible refine x_lst ?_
  | with_reducible refine x_b ?_
  | with_reducible refine x_tru ?_
  | with_reducible refine x_not ?_
  | with_reducible refine x_or ?_
  | with_reducible refine x_and ?_
  | with_reducible refine x_ife ?_
  | with_reducible refine x_add ?_
  | with_reducible refine x_sub ?_
  | with_reducible refine x_gtI ?_
  | with_reducible refine x_ltI ?_
  | with_reducible refine x_geI ?_
  | with_reducible refine x_leI ?_
  | with_reducible refine x_abs ?_
  | with_reducible refine x_intb ?_
  | with_reducible refine x_for ?_
  | with_reducible refine x_irange ?_
  | with_reducible refine x_lc ?_
  | with_reducible refine x_yes ?_
  | with_reducible refine x_bm ?_
  | with_reducible refine x_bm0 ?_
  | with_reducible refine x_andv ?_
  | with_reducible refine x_orv ?_
  | with_reducible refine x_notv ?_
  | with_reducible refine x_eqI ?_
  | with_reducible refine x_tystr ?_
  | ((with_reducible refine' x_gtup ?e ?_); (case e => with_unfolding_all rfl))
  | ((with_reducible refine' x_pow ?e ?_); (case e => exact ⟨by decide, by decide, by decide⟩))
  | ((with_reducible refine' x_ix ?e ?q ?_); (case e => walk_at "get"); (case q => with_unfolding_all rfl))
  | ((with_reducible refine' x_ixt ?q ?_); (case q => with_unfolding_all rfl))
  | ((with_reducible refine' x_sto ?e ?q ?_); (case e => walk_at "get"); (case q => with_unfolding_all rfl))
  | ((with_reducible refine' x_adds ?e ?_); (case e => walk_at "txt"))
  | ((with_reducible refine' x_muls ?e ?f ?g ?_); (case e => omega); (case f => omega); (case g => walk_at "txt"))
  | ((with_reducible refine' x_divmod ?e ?_); (case e => exact ⟨by omega, by omega⟩))
  | ((with_reducible refine' x_mod ?e ?_); (case e => omega))
  | ((with_reducible refine' x_fdivC ?e ?f ?_); (case e => omega); (case f => omega))
  | ((with_reducible refine' x_mulL ?e ?f ?_); (case e => omega); (case f => omega))
  | ((with_reducible refine' x_mulR ?e ?f ?_); (case e => omega); (case f => omega))
  | ((with_reducible refine' x_len ?e ?_); (case e => walk_at "sq"))
  | ((with_reducible refine' x_range ?e ?f ?_); (case e => omega); (case f => omega))
  | ((with_reducible refine' x_tylst ?e ?_); (case e => walk_at "get"))
  | ((with_reducible refine' x_append ?e ?f ?_); (case e => walk_at "get"); (case f => walk_at "size"))
  | ((with_reducible refine' And.intro ?e ?_); (case e => (show _ ≤ sizeLine; walk_at "size")))
  | ((with_reducible refine' Exists.intro _ (And.intro ?e ?_)); (case e => with_unfolding_all rfl)))
/-! ### small steps -/
theorem beqS2 (a b : Str) : (a == b) = decide (a = b) := by
  by_cases h : a = b
  · rw [decide_eq_true h, h]; exact beq_self_eq_true b
  · rw [decide_eq_false h]; exact beq_eq_false_iff_ne.mpr h
theorem Wd.sh {z : Str} (h : Wd z) : SeqAt.shaped (.str z) = true := Bool.and_eq_true_iff.mpr ⟨h.ok, rfl⟩
theorem x_eqSS {a b : Str} {G : Gp} {R : KT} (c : SeqAt.shaped (.str a) = true) (c2 : SeqAt.shaped (.str b) = true) (h : R (.bl (decide (a = b))) G) : oEq (.str a) (.str b) G R := x_eqSb c c2 (beqS2 a b) h
/-- t[0] == "w" -/
theorem hd0_test {r : Mi.Env} {G : Gp} {i : Nat} {w v : Str} {rest : List T} {R : Bool → Gp → Prop} (h : r[i]? = some (some (.tup (.str w :: rest)))) (c : SeqAt.shaped (.str w) = true) (c2 : SeqAt.shaped (.str v) = true) (k : R (decide (w = v)) G) :
    mB (mOp oEq (mOp oIx (mVar i) (mC (.int 0))) (mC (.str v))) r G R :=
  x_b (x_op (x_op (x_var h (x_c (x_ixt (atI0 _ _) (x_c (x_eqSS c c2 ⟨_, rfl, k⟩)))))))
/-- w == "v" -/
theorem hd_test {r : Mi.Env} {G : Gp} {i : Nat} {w v : Str} {R : Bool → Gp → Prop} (h : r[i]? = some (some (.str w))) (c : SeqAt.shaped (.str w) = true) (c2 : SeqAt.shaped (.str v) = true) (k : R (decide (w = v)) G) :
    mB (mOp oEq (mVar i) (mC (.str v))) r G R := x_b (x_op (x_var h (x_c (x_eqSS c c2 ⟨_, rfl, k⟩))))
theorem Shp.hd {n : Nat} {t : T} (h : Shp n t) : ∃ w rest, t = .tup (.str w :: rest) ∧ SeqAt.shaped (.str w) = true ∧ rest.length ≤ 4 := by
  cases h with
  | name a => exact ⟨_, _, rfl, by decide +kernel, by simp⟩
  | frm a b => exact ⟨_, _, rfl, by decide +kernel, by simp⟩
  | fn a b => exact ⟨_, _, rfl, by decide +kernel, by simp⟩
  | case hl a b c => exact ⟨_, _, rfl, by decide +kernel, by simp⟩
  | other a b c d e f g i j => exact ⟨_, _, rfl, a, f⟩
theorem atI_get {α : Type} {xs : List α} {j : Nat} {u : α} (h : xs[j]? = some u) : atI xs ((j : Nat) : Int) = some u := by
  have l : j < xs.length := (List.getElem?_eq_some_iff.mp h).1
  unfold atI ixN
  rw [if_pos (by omega), if_pos (by omega)]
  exact h
theorem Fs.ix {A G : Gp} {s u : T} {us : List T} {j : Nat} {R : KT} (h : Fs A G s us) (e : us[j]? = some u) (k : R u G) : oIx s (.int (j : Nat)) G R := by
  rcases h with rfl | ⟨p, rfl, _, hp⟩
  · exact x_ixt (atI_get e) k
  · exact x_ix hp (atI_get e) k
theorem plT_at {π : List Nat} {i : Nat} {t : T} (h : (π.map fun i => T.int ((i : Nat) : Int))[i]? = some t) : ∃ j, π[i]? = some j ∧ t = .int (j : Nat) := by
  rw [List.getElem?_map] at h
  cases e : π[i]? with
  | none => rw [e] at h; cases h
  | some j => rw [e] at h; exact ⟨j, rfl, (Option.some.inj h).symm⟩
/-- the part at a place -/
theorem part_ok {k n : Nat} {t u : T} {π : List Nat} {bs : List Str} {G : Gp} {R : KT} (ht : Tm n t) (hw : wlk t π = some (u, bs)) (hR : ∀ G', Ext G G' → R u G') : SP (k + 2) 15 [t, plT π] G R := by
  show spOf 3 2 (b15 (SP (k + 1))) _ _ _
  refine ⟨rfl, ?_⟩
  unfold b15
  with_reducible refine x_seq ?_
  refine x_for (x_iseq (x_var rfl ⟨π.map fun i => T.int ((i : Nat) : Int), .inl rfl, ?_⟩))
  refine ⟨fun i r G' => ∃ (w : T) (b : List Str) (x2 : Option T) (m : Nat), r = [some w, some (plT π), x2] ∧ wlk t (π.take i) = some (w, b) ∧ Tm m w ∧ Ext G G', ⟨t, [], none, n, rfl, by simp [wlk_nil], ht, Ext.refl G⟩, fun i r G' _ q hq => (by cases hq), ?_, ?_⟩
  · intro i t2 r G' ht2 ⟨w, b, x2, m, w1, w2, w3, w4⟩
    subst w1
    obtain ⟨j, ej, rfl⟩ := plT_at ht2
    obtain ⟨v, ev, ew⟩ := wlk_step hw ej w2
    refine x_gname ?_
    refine x_asg (x_op (x_call (x_cons (x_var rfl (x_nil ?_)))))
    refine parts_ok w3 fun s us G1 kd _ hu f1 fs => ?_
    subst kd
    obtain ⟨m', _, hm⟩ := w3.kid (List.mem_of_getElem? ev)
    refine x_var rfl (fs.ix ev (x_gname ?_))
    exact fwd.of ⟨v, _, _, m', rfl, ew, hm, w4.trans f1⟩
  · intro r G' ⟨w, b, x2, m, w1, w2, w3, w4⟩
    subst w1
    rw [List.length_map, List.take_length, hw] at w2
    cases w2
    exact x_ret (x_var rfl (fwdT.of (hR G' w4)))
end Lw

set_option Elab.async false
set_option linter.all false
set_option maxRecDepth 100000
set_option maxHeartbeats 1000000
namespace Lw
open PySem L2 Mi
local macro_rules | `(tactic| walk_at "get") => `(tactic| first | assumption | exact put_same | (refine get_new (by assumption) ?_; walk_at "get") | (refine get_ne (by assumption) ?_; walk_at "get"))
local macro_rules | `(tactic| walk_at "sq") => `(tactic| first | assumption | exact .inl rfl | exact .inr (.inl rfl) | exact .inr (.inr ⟨_, rfl, by walk_at "get"⟩))
local macro_rules | `(tactic| walk_at "size") => `(tactic| first | assumption | (simp only [List.length_cons, List.length_nil]; decide) | (have := sizeLine_eq; omega))
local macro_rules | `(tactic| walk_at "txt") => `(tactic| first | assumption | (simp only [Str.length, Str.cps_append, Array.size_append]; have := sizeLine_eq; omega))
local macro_rules | `(tactic| walk_at "go1") => `(tactic| first
  | ((with_reducible refine' x_var ?e ?_); (case e => with_unfolding_all rfl))
  | with_reducible refine x_seq ?_
  | with_reducible refine x_asg ?_
  | with_reducible refine x_if ?_
  | with_reducible refine x_ret ?_
  | with_reducible refine x_next ?_
  | with_reducible refine x_expr ?_
  | with_reducible refine x_gname ?_
  | with_reducible refine x_gcons ?_
  | with_reducible refine x_gnil ?_
  | with_reducible refine x_gsub ?_
  | with_reducible refine x_c ?_
  | with_reducible refine x_op ?_
  | with_reducible refine x_call ?_
  | with_reducible refine x_cons ?_
  | with_reducible refine x_nil ?_
  | with_reducible refine x_par ?_
  | with_reducible refine x_tup ?_
  | with_reducible refine x_lst ?_
  | with_reducible refine x_b ?_
  | with_reducible refine x_tru ?_
  | with_reducible refine x_not ?_
  | with_reducible refine x_or ?_
  | with_reducible refine x_and ?_
  | with_reducible refine x_ife ?_
  | with_reducible refine x_add ?_
  | with_reducible refine x_sub ?_
  | with_reducible refine x_gtI ?_
  | with_reducible refine x_ltI ?_
  | with_reducible refine x_geI ?_
  | with_reducible refine x_leI ?_
  | with_reducible refine x_abs ?_
  | with_reducible refine x_intb ?_
  | with_reducible refine x_for ?_
  | with_reducible refine x_irange ?_
  | with_reducible refine x_lc ?_
  | with_reducible refine x_yes ?_
  | with_reducible refine x_bm ?_
  | with_reducible refine x_bm0 ?_
  | with_reducible refine x_andv ?_
  | with_reducible refine x_orv ?_
  | with_reducible refine x_notv ?_
  | with_reducible refine x_eqI ?_
  | with_reducible refine x_tystr ?_
  | ((with_reducible refine' x_gtup ?e ?_); (case e => with_unfolding_all rfl))
  | ((with_reducible refine' x_pow ?e ?_); (case e => exact ⟨by decide, by decide, by decide⟩))
  | ((with_reducible refine' x_ix ?e ?q ?_); (case e => walk_at "get"); (case q => with_unfolding_all rfl))
  | ((with_reducible refine' x_ixt ?q ?_); (case q => with_unfolding_all rfl))
  | ((with_reducible refine' x_sto ?e ?q ?_); (case e => walk_at "get"); (case q => with_unfolding_all rfl))
  | ((with_reducible refine' x_adds ?e ?_); (case e => walk_at "txt"))
  | ((with_reducible refine' x_muls ?e ?f ?g ?_); (case e => omega); (case f => omega); (case g => walk_at "txt"))
  | ((with_reducible refine' x_divmod ?e ?_); (case e => exact ⟨by omega, by omega⟩))
  | ((with_reducible refine' x_mod ?e ?_); (case e => omega))
  | ((with_reducible refine' x_fdivC ?e ?f ?_); (case e => omega); (case f => omega))
  | ((with_reducible refine' x_mulL ?e ?f ?_); (case e => omega); (case f => omega))
  | ((with_reducible refine' x_mulR ?e ?f ?_); (case e => omega); (case f => omega))
  | ((with_reducible refine' x_len ?e ?_); (case e => walk_at "sq"))
  | ((with_reducible refine' x_range ?e ?f ?_); (case e => omega); (case f => omega))
  | ((with_reducible refine' x_tylst ?e ?_); (case e => walk_at "get"))
  | ((with_reducible refine' x_append ?e ?f ?_); (case e => walk_at "get"); (case f => walk_at "size"))
  | ((with_reducible refine' And.intro ?e ?_); (case e => (show _ ≤ sizeLine; walk_at "size")))
  | ((with_reducible refine' Exists.intro _ (And.intro ?e ?_)); (case e => with_unfolding_all rfl)))
theorem plT_take {π : List Nat} {i : Nat} : cutT (π.map fun i => T.int ((i : Nat) : Int)) none (some ((i : Nat) : Int)) = (π.take i).map fun i => T.int ((i : Nat) : Int) := by
  rw [cut_hi _ (by omega), List.map_take]
  rfl
/-- what a part binds in one of its parts -/
theorem bound_test {r : Mi.Env} {G : Gp} {n : Nat} {w v : T} {j : Nat} {x : Str} {R : Bool → Gp → Prop} (hw : Tm n w) (hj : (kidsT w)[j]? = some v) (h4 : r[4]? = some (some w)) (h5 : r[5]? = some (some (.int (j : Nat)))) (h2 : r[2]? = some (some (.str x))) (hx : Wd x)
    (k : R (decide (x ∈ bndT w j)) G) :
    tmOr (tmAnd (mB (mOp oEq (mOp oIx (mVar 4) (mC (.int 0))) (mC (.str "fun")))) (mB (mOp oEq (mOp oIx (mVar 4) (mC (.int 1))) (mVar 2))))
      (tmAnd (mB (mOp oEq (mOp oIx (mVar 4) (mC (.int 0))) (mC (.str "case")))) (tmAnd (mB (mOp oGtU (mVar 5) (mC (.int 0)))) (mB (mOp oEq (mOp oIx (mOp oIx (mOp oIx (mVar 4) (mC (.int 2))) (mOp oSub (mVar 5) (mC (.int 1)))) (mC (.int 1))) (mVar 2))))) r G R := by
  have sf : SeqAt.shaped (.str "fun") = true := by decide +kernel
  have sc : SeqAt.shaped (.str "case") = true := by decide +kernel
  cases hw.shp with
  | name a => rw [kids_name] at hj; cases hj
  | frm a b => rw [kids_frm] at hj; cases hj
  | fn a b =>
    rename_i y t
    refine x_orT (x_and (hd0_test h4 sf sf ?_))
    refine x_iteT (by decide +kernel) (x_b (x_op (x_op (x_var h4 (x_c (x_ixt (show atI [T.str "fun", .str y, t] 1 = some (.str y) from rfl) (x_var h2 (x_eqSS a.sh hx.sh ⟨_, rfl, ?_⟩))))))))
    have e : decide (x ∈ bndT (.tup [.str "fun", .str y, t]) j) = decide (y = x) := by
      rw [bnd_fn]
      simp [eq_comm]
    rw [e] at k
    by_cases q : y = x
    · rw [decide_eq_true q] at k ⊢
      exact x_iteT rfl k
    · rw [decide_eq_false q] at k ⊢
      refine x_iteF rfl (x_and (hd0_test h4 sf sc ?_))
      exact x_iteF (by decide +kernel) k
  | case hl a b c =>
    rename_i t ps
    refine x_orT (x_and (hd0_test h4 sc sf ?_))
    refine x_iteF (by decide +kernel) (x_iteF rfl (x_and (hd0_test h4 sc sc ?_)))
    refine x_iteT (by decide +kernel) (x_and (x_b (x_op (x_var h5 (x_c (x_gtI ⟨_, rfl, ?_⟩))))))
    cases j with
    | zero =>
      refine x_iteF (by decide) ?_
      rw [bnd_case0] at k
      exact k
    | succ j =>
      refine x_iteT (decide_eq_true (by omega)) ?_
      rw [kids_case, List.getElem?_cons_succ, List.getElem?_map] at hj
      cases ep : ps[j]? with
      | none => rw [ep] at hj; cases hj
      | some p =>
        have er : (ps.map fun p => T.tup [.str p.1, .str p.2.1, p.2.2])[j]? = some (T.tup [.str p.1, .str p.2.1, p.2.2]) := by rw [List.getElem?_map, ep]; rfl
        refine x_b (x_op (x_op (x_op (x_op (x_var h4 (x_c (x_ixt (show atI [T.str "case", t, .tup (ps.map fun p => T.tup [.str p.1, .str p.2.1, p.2.2])] 2 = some (.tup (ps.map fun p => T.tup [.str p.1, .str p.2.1, p.2.2])) from rfl) (x_op (x_var h5 (x_c (x_sub ?_)))))))))))
        rw [show (((j + 1 : Nat) : Int) - 1) = (j : Nat) by omega]
        refine x_ixt (atI_get er) (x_c (x_ixt (show atI [T.str p.1, .str p.2.1, p.2.2] 1 = some (.str p.2.1) from rfl) (x_var h2 (x_eqSS (b p (List.mem_of_getElem? ep)).sh hx.sh ⟨_, rfl, ?_⟩))))
        rw [bnd_case ep] at k
        have e : decide (x ∈ [p.2.1]) = decide (p.2.1 = x) := by simp [eq_comm]
        rw [e] at k
        exact k
  | other a b c d e f g i hb =>
    refine x_orT (x_and (hd0_test h4 a sf ?_))
    refine x_iteF (decide_eq_false d) (x_iteF rfl (x_and (hd0_test h4 a sc ?_)))
    refine x_iteF (decide_eq_false e) ?_
    rw [hb j] at k
    exact k
theorem isBound_ok {k n : Nat} {t u : T} {π : List Nat} {bs : List Str} {x : Str} {G : Gp} {R : KT} (ht : Tm n t) (hw : wlk t π = some (u, bs)) (hl : π.length ≤ 1000) (hx : Wd x) (hR : ∀ G', Ext G G' → R (.bl (decide (x ∈ bs))) G') :
    SP (k + 3) 16 [t, plT π, .str x] G R := by
  show spOf 6 3 (b16 (SP (k + 2))) _ _ _
  refine ⟨rfl, ?_⟩
  unfold b16
  with_reducible refine x_seq ?_
  refine x_for (x_irange (x_call (x_cons (x_var rfl (x_nil (x_len (.inl rfl) ⟨_, rfl, by omega, by rw [List.length_map]; omega, ?_⟩))))))
  rw [List.length_map]
  refine ⟨fun i r G' => ∃ (w : T) (b : List Str) (x3 x4 x5 : Option T), r = [some t, some (plT π), some (.str x), x3, x4, x5] ∧ wlk t (π.take i) = some (w, b) ∧ x ∉ b ∧ Ext G G',
    ⟨t, [], none, none, none, rfl, by simp [wlk_nil], by simp, Ext.refl G⟩, fun i r G' _ q hq => (by cases hq), ?_, ?_⟩
  · intro i t2 r G' ht2 ⟨w, b, x3, x4, x5, w1, w2, w3, w4⟩
    subst w1
    obtain ⟨rfl, hi⟩ := range_at ht2
    have hi : i < π.length := by simpa using hi
    obtain ⟨j, ej⟩ : ∃ j, π[i]? = some j := ⟨_, List.getElem?_eq_getElem hi⟩
    obtain ⟨v, ev, ew⟩ := wlk_step hw ej w2
    refine x_gname ?_
    with_reducible refine x_seq ?_
    with_reducible refine x_par ?_
    refine x_cons (x_call (x_cons (x_var rfl (x_cons (x_sl (x_var rfl (x_slN (x_slS (x_var rfl ⟨_, rfl, x_slT ?_⟩)))))))))
    rw [plT_take]
    refine x_nil ?_
    refine part_ok ht w2 fun G1 f1 => ?_
    refine x_cons (x_op (x_var rfl (x_var rfl (x_ixt (atI_get (show (π.map fun i => T.int ((i : Nat) : Int))[i]? = some (.int (j : Nat)) by rw [List.getElem?_map, ej]; rfl)) (x_nil ⟨_, _, rfl, ?_⟩)))))
    obtain ⟨m, _, hm⟩ := wlk_tm w2 ht
    with_reducible refine x_if ?_
    refine bound_test hm ev rfl rfl rfl hx ?_
    refine x_ite (fun q => ?_) (fun q => ?_)
    · have q := of_decide_eq_true q
      have q2 := hR G1 (w4.trans f1)
      rw [decide_eq_true (wlk_sub hw ht ew x (List.mem_append_right _ q))] at q2
      exact x_ret (x_c (fwdT.of q2))
    · have q := of_decide_eq_false q
      refine x_next (fwd.of ⟨v, _, _, _, _, rfl, ew, ?_, w4.trans f1⟩)
      intro z
      rcases List.mem_append.mp z with z | z
      · exact w3 z
      · exact q z
  · intro r G' ⟨w, b, x3, x4, x5, w1, w2, w3, w4⟩
    subst w1
    have w2 : wlk t (π.take (rangeT 0 ((π.length : Nat) : Int).toNat).length) = some (w, b) := w2
    rw [show (rangeT 0 ((π.length : Nat) : Int).toNat).length = π.length by simp [rangeT], List.take_length, hw] at w2
    cases w2
    have q := hR G' w4
    rw [decide_eq_false w3] at q
    dsimp only
    exact x_ret (x_c (fwdT.of q))
end Lw

set_option Elab.async false
set_option linter.all false
set_option maxRecDepth 100000
set_option maxHeartbeats 1000000
namespace Lw
open PySem L2 Mi
local macro_rules | `(tactic| walk_at "get") => `(tactic| first | assumption | exact put_same | (refine get_new (by assumption) ?_; walk_at "get") | (refine get_ne (by assumption) ?_; walk_at "get"))
local macro_rules | `(tactic| walk_at "sq") => `(tactic| first | assumption | exact .inl rfl | exact .inr (.inl rfl) | exact .inr (.inr ⟨_, rfl, by walk_at "get"⟩))
local macro_rules | `(tactic| walk_at "size") => `(tactic| first | assumption | (simp only [List.length_cons, List.length_nil]; decide) | (have := sizeLine_eq; omega))
local macro_rules | `(tactic| walk_at "txt") => `(tactic| first | assumption | (simp only [Str.length, Str.cps_append, Array.size_append]; have := sizeLine_eq; omega))
local macro_rules | `(tactic| walk_at "go1") => `(tactic| first
  | ((with_reducible refine' x_var ?e ?_); (case e => with_unfolding_all rfl))
  | with_reducible refine x_seq ?_
  | with_reducible refine x_asg ?_
  | with_reducible refine x_if ?_
  | with_reducible refine x_ret ?_
  | with_reducible refine x_next ?_
  | with_reducible refine x_expr ?_
  | with_reducible refine x_gname ?_
  | with_reducible refine x_gcons ?_
  | with_reducible refine x_gnil ?_
  | with_reducible refine x_gsub ?_
  | with_reducible refine x_c ?_
  | with_reducible refine x_op ?_
  | with_reducible refine x_call ?_
  | with_reducible refine x_cons ?_
  | with_reducible refine x_nil ?_
  | with_reducible refine x_par ?_
  | with_reducible refine x_tup ?_
  | with_reducible refine x_lst ?_
  | with_reducible refine x_b ?_
  | with_reducible refine x_tru ?_
  | with_reducible refine x_not ?_
  | with_reducible refine x_or ?_
  | with_reducible refine x_and ?_
  | with_reducible refine x_ife ?_
  | with_reducible refine x_add ?_
  | with_reducible refine x_sub ?_
  | with_reducible refine x_gtI ?_
  | with_reducible refine x_ltI ?_
  | with_reducible refine x_geI ?_
  | with_reducible refine x_leI ?_
  | with_reducible refine x_abs ?_
  | with_reducible refine x_intb ?_
  | with_reducible refine x_for ?_
  | with_reducible refine x_irange ?_
  | with_reducible refine x_lc ?_
  | with_reducible refine x_yes ?_
  | with_reducible refine x_bm ?_
  | with_reducible refine x_bm0 ?_
  | with_reducible refine x_andv ?_
  | with_reducible refine x_orv ?_
  | with_reducible refine x_notv ?_
  | with_reducible refine x_eqI ?_
  | with_reducible refine x_tystr ?_
  | ((with_reducible refine' x_gtup ?e ?_); (case e => with_unfolding_all rfl))
  | ((with_reducible refine' x_pow ?e ?_); (case e => exact ⟨by decide, by decide, by decide⟩))
  | ((with_reducible refine' x_ix ?e ?q ?_); (case e => walk_at "get"); (case q => with_unfolding_all rfl))
  | ((with_reducible refine' x_ixt ?q ?_); (case q => with_unfolding_all rfl))
  | ((with_reducible refine' x_sto ?e ?q ?_); (case e => walk_at "get"); (case q => with_unfolding_all rfl))
  | ((with_reducible refine' x_adds ?e ?_); (case e => walk_at "txt"))
  | ((with_reducible refine' x_muls ?e ?f ?g ?_); (case e => omega); (case f => omega); (case g => walk_at "txt"))
  | ((with_reducible refine' x_divmod ?e ?_); (case e => exact ⟨by omega, by omega⟩))
  | ((with_reducible refine' x_mod ?e ?_); (case e => omega))
  | ((with_reducible refine' x_fdivC ?e ?f ?_); (case e => omega); (case f => omega))
  | ((with_reducible refine' x_mulL ?e ?f ?_); (case e => omega); (case f => omega))
  | ((with_reducible refine' x_mulR ?e ?f ?_); (case e => omega); (case f => omega))
  | ((with_reducible refine' x_len ?e ?_); (case e => walk_at "sq"))
  | ((with_reducible refine' x_range ?e ?f ?_); (case e => omega); (case f => omega))
  | ((with_reducible refine' x_tylst ?e ?_); (case e => walk_at "get"))
  | ((with_reducible refine' x_append ?e ?f ?_); (case e => walk_at "get"); (case f => walk_at "size"))
  | ((with_reducible refine' And.intro ?e ?_); (case e => (show _ ≤ sizeLine; walk_at "size")))
  | ((with_reducible refine' Exists.intro _ (And.intro ?e ?_)); (case e => with_unfolding_all rfl)))
/-! ### the law's list, place by place -/
theorem plc_nth {n : Nat} {t : T} {i : Nat} {q : List Nat} (h : (plc n t)[i]? = some q) : ∃ p, (allp n t [] [])[i]? = some p ∧ p.1 = q := by
  have e := allp_fst n t [] []
  rw [show (plc n t).map (([] : List Nat) ++ ·) = plc n t by simp] at e
  rw [← e, List.getElem?_map] at h
  cases q2 : (allp n t [] [])[i]? with
  | none => rw [q2] at h; cases h
  | some p => rw [q2] at h; exact ⟨p, rfl, Option.some.inj h⟩
theorem plc_len {n : Nat} {t : T} : (plc n t).length = (allp n t [] []).length := by
  rw [← List.length_map (f := (·.1)) (as := allp n t [] []), allp_fst, List.length_map]
theorem take_own {ps : List Pt} {i : Nat} {p : Pt} (h : ps[i]? = some p) : (ps.take (i + 1)).flatMap own = (ps.take i).flatMap own ++ own p := by
  rw [List.take_succ, h, List.flatMap_append]
  simp
theorem lookedUp_ok {k n : Nat} {t : T} {G : Gp} {R : KT} (ht : Tm n t) (hn : n ≤ 5) (hs : (allp n t [] []).length ≤ 40) (hR : ∀ p G', G p = none → G' p = some (.lst (nmd n t [] [])) → Ext G G' → R (.ref p) G') : SP (k + 9) 17 [t] G R := by
  have szl := sizeLine_eq
  show spOf 4 1 (b17 (SP (k + 8))) _ _ _
  refine ⟨rfl, ?_⟩
  unfold b17
  have pb : Pb n ≤ 1000000 := by
    have : ∀ m, m ≤ 5 → Pb m ≤ 1000000 := by decide
    exact this n hn
  have sf : SeqAt.shaped (.str "from") = true := by decide +kernel
  have sn : SeqAt.shaped (.str "name") = true := by decide +kernel
  with_reducible refine x_seq ?_
  refine x_asg (x_lst (x_nil ⟨by show 0 ≤ sizeLine; omega, fun p1 hp1 => x_gname ?_⟩))
  with_reducible refine x_seq ?_
  refine x_for (x_iseq (x_call (x_cons (x_var rfl (x_nil ?_)))))
  refine places_ok n (k + 8) (by omega) t _ _ ht pb (by omega) fun pp ps G1 eps hlen _ f1 hpp epp => ?_
  subst eps
  refine ⟨_, .inr (.inl (.inr ⟨pp, rfl, epp⟩)), ?_⟩
  have n1 : p1 ≠ pp := fun e => by rw [← e, put_same] at hpp; cases hpp
  refine ⟨fun i r G' => ∃ (x2 x3 : Option T), r = [some t, some (.ref p1), x2, x3] ∧ G' p1 = some (.lst (((allp n t [] []).take i).flatMap own)) ∧ G' pp = some (.lst ((plc n t).map plT)) ∧ Ext G G',
    ⟨none, none, rfl, f1 _ _ put_same, epp, (Ext.new hp1).trans f1⟩, ?_, ?_, ?_⟩
  · intro i r G' ⟨x2, x3, w1, w2, w3, w4⟩ q hq
    have : q = (pp, (plc n t).map plT) := by simpa [heldT] using hq
    subst this
    exact w3
  · intro i t2 r G' ht2 ⟨x2, x3, w1, w2, w3, w4⟩
    subst w1
    have ht2 : ((plc n t).map plT)[i]? = some t2 := ht2
    rw [List.getElem?_map] at ht2
    cases eq : (plc n t)[i]? with
    | none => rw [eq] at ht2; cases ht2
    | some π0 =>
      rw [eq] at ht2
      cases ht2
      obtain ⟨⟨π, u, bs⟩, ep, rfl⟩ := plc_nth eq
      obtain ⟨hw, hu, hπ⟩ := allp_wlk (t := t) n t [] [] ht wlk_nil _ (List.mem_of_getElem? ep)
      have hπ : π.length ≤ n := by simpa using hπ
      have hl := flat_len ((allp n t [] []).take i)
      have hl2 : ((allp n t [] []).take i).length ≤ 40 := by rw [List.length_take]; omega
      have tk := take_own ep
      have eo : own (π, u, bs) = ownT π bs u := rfl
      rw [eo] at tk
      refine x_gname ?_
      with_reducible refine x_seq ?_
      refine x_asg (x_call (x_cons (x_var rfl (x_cons (x_var rfl (x_nil ?_))))))
      refine part_ok (k := k + 6) ht hw fun G2 f2 => x_gname ?_
      have c2 := f2 _ _ w2
      have c3 := f2 _ _ w3
      have c4 := w4.trans f2
      have stay : ∀ {N : Mi.Env → Gp → Prop}, ownT π bs u = [] → (N = fwd fun r G' => ∃ (x2 x3 : Option T), r = [some t, some (.ref p1), x2, x3] ∧ G' p1 = some (.lst (((allp n t [] []).take (i + 1)).flatMap own)) ∧ G' pp = some (.lst ((plc n t).map plT)) ∧ Ext G G') →
          ∀ G3, Ext G2 G3 → N [some t, some (.ref p1), some (plT π), some u] G3 := fun h0 e G3 f3 => by
        subst e
        refine fwd.of ⟨_, _, rfl, ?_, f3 _ _ c3, c4.trans f3⟩
        rw [tk, h0, List.append_nil]
        exact f3 _ _ c2
      have more : ∀ {N : Mi.Env → Gp → Prop} {v : T}, ownT π bs u = [v] → (N = fwd fun r G' => ∃ (x2 x3 : Option T), r = [some t, some (.ref p1), x2, x3] ∧ G' p1 = some (.lst (((allp n t [] []).take (i + 1)).flatMap own)) ∧ G' pp = some (.lst ((plc n t).map plT)) ∧ Ext G G') →
          ∀ G3, Ext G2 G3 → N [some t, some (.ref p1), some (plT π), some u] (Mi.put G3 p1 (.lst (((allp n t [] []).take i).flatMap own ++ [v]))) := fun h0 e G3 f3 => by
        subst e
        refine fwd.of ⟨_, _, rfl, ?_, ?_, Ext.grow hp1 (c4.trans f3)⟩
        · rw [tk, h0]; exact put_same
        · rw [put_ne (Ne.symm n1)]; exact f3 _ _ c3
      with_reducible refine x_seq ?_
      with_reducible refine x_if ?_
      obtain ⟨m0, hsh⟩ : ∃ m, Shp m u := ⟨n, hu.shp⟩
      cases hsh with
      | frm a b =>
        rename_i m x
        refine hd0_test rfl sf sf (x_iteT (by decide +kernel) ?_)
        refine x_expr (x_bm (x_var rfl (x_tylst c2 (x_cons (x_tup (x_cons (x_var rfl (x_cons (x_sl (x_var rfl (x_slS (x_c ⟨1, rfl, x_slN (x_slT ?_)⟩))))))))))))
        rw [cut1]
        refine x_nil ⟨by show 2 ≤ sizeLine; omega, x_nil (x_append c2 (by omega) ?_)⟩
        dsimp only
        with_reducible refine x_if ?_
        refine x_and (hd0_test rfl sf sn (x_iteF (by decide +kernel) (x_iteF rfl (x_next ?_))))
        exact more own_frm rfl G2 (Ext.refl _)
      | name a =>
        rename_i x
        refine hd0_test rfl sn sf (x_iteF (by decide +kernel) (x_next ?_))
        dsimp only
        with_reducible refine x_if ?_
        refine x_and (hd0_test rfl sn sn (x_iteT (by decide +kernel) ?_))
        refine x_not (x_tru (x_call (x_cons (x_var rfl (x_cons (x_var rfl (x_cons (x_op (x_var rfl (x_c (x_ixt (show atI [T.str "name", .str x] 1 = some (.str x) from rfl) (x_nil ?_))))))))))))
        refine isBound_ok (k := k + 5) ht hw (by omega) a fun G3 f3 => ⟨_, rfl, ?_⟩
        by_cases q : x ∈ bs
        · rw [decide_eq_true q]
          refine x_iteF rfl (x_next ?_)
          exact stay (by rw [own_name, if_pos q]) rfl G3 f3
        · rw [decide_eq_false q]
          refine x_iteT rfl ?_
          have c23 := f3 _ _ c2
          refine x_expr (x_bm (x_var rfl (x_tylst c23 (x_cons (x_tup (x_cons (x_var rfl (x_cons (x_op (x_var rfl (x_c (x_ixt (show atI [T.str "name", .str x] 1 = some (.str x) from rfl) (x_nil ⟨by show 2 ≤ sizeLine; omega, x_nil (x_append c23 (by omega) ?_)⟩)))))))))))))
          exact more (by rw [own_name, if_neg q]) rfl G3 f3
      | fn a b =>
        refine hd0_test rfl (by decide +kernel) sf (x_iteF (by decide +kernel) (x_next ?_))
        dsimp only
        with_reducible refine x_if ?_
        refine x_and (hd0_test rfl (by decide +kernel) sn (x_iteF (by decide +kernel) (x_iteF rfl (x_next ?_))))
        exact stay (own_no (by decide +kernel) (by decide +kernel)) rfl G2 (Ext.refl _)
      | case hl a b c =>
        refine hd0_test rfl (by decide +kernel) sf (x_iteF (by decide +kernel) (x_next ?_))
        dsimp only
        with_reducible refine x_if ?_
        refine x_and (hd0_test rfl (by decide +kernel) sn (x_iteF (by decide +kernel) (x_iteF rfl (x_next ?_))))
        exact stay (own_no (by decide +kernel) (by decide +kernel)) rfl G2 (Ext.refl _)
      | other a b c d e f g i j =>
        refine hd0_test rfl a sf (x_iteF (decide_eq_false c) (x_next ?_))
        dsimp only
        with_reducible refine x_if ?_
        refine x_and (hd0_test rfl a sn (x_iteF (decide_eq_false b) (x_iteF rfl (x_next ?_))))
        exact stay (own_no b c) rfl G2 (Ext.refl _)
  · intro r G' ⟨x2, x3, w1, w2, w3, w4⟩
    subst w1
    have w2 : G' p1 = some (.lst (((allp n t [] []).take ((plc n t).map plT).length).flatMap own)) := w2
    rw [List.length_map, plc_len, List.take_length] at w2
    dsimp only
    refine x_ret (x_var rfl ?_)
    exact fwdT.of (hR p1 G' hp1 w2 w4)
end Lw

set_option Elab.async false
set_option linter.all false
set_option maxRecDepth 100000
set_option maxHeartbeats 1000000
namespace Lw
open PySem L2 Mi
local macro_rules | `(tactic| walk_at "get") => `(tactic| first | assumption | exact put_same | (refine get_new (by assumption) ?_; walk_at "get") | (refine get_ne (by assumption) ?_; walk_at "get"))
local macro_rules | `(tactic| walk_at "sq") => `(tactic| first | assumption | exact .inl rfl | exact .inr (.inl rfl) | exact .inr (.inr ⟨_, rfl, by walk_at "get"⟩))
local macro_rules | `(tactic| walk_at "size") => `(tactic| first | assumption | (simp only [List.length_cons, List.length_nil]; decide) | (have := sizeLine_eq; omega))
local macro_rules | `(tactic| walk_at "txt") => `(tactic| first | assumption | (simp only [Str.length, Str.cps_append, Array.size_append]; have := sizeLine_eq; omega))
local macro_rules | `(tactic| walk_at "go1") => `(tactic| first
  | ((with_reducible refine' x_var ?e ?_); (case e => with_unfolding_all rfl))
  | with_reducible refine x_seq ?_
  | with_reducible refine x_asg ?_
  | with_reducible refine x_if ?_
  | with_reducible refine x_ret ?_
  | with_reducible refine x_next ?_
  | with_reducible refine x_expr ?_
  | with_reducible refine x_gname ?_
  | with_reducible refine x_gcons ?_
  | with_reducible refine x_gnil ?_
  | with_reducible refine x_gsub ?_
  | with_reducible refine x_c ?_
  | with_reducible refine x_op ?_
  | with_reducible refine x_call ?_
  | with_reducible refine x_cons ?_
  | with_reducible refine x_nil ?_
  | with_reducible refine x_par ?_
  | with_reducible refine x_tup ?_
  | with_reducible refine x_lst ?_
  | with_reducible refine x_b ?_
  | with_reducible refine x_tru ?_
  | with_reducible refine x_not ?_
  | with_reducible refine x_or ?_
  | with_reducible refine x_and ?_
  | with_reducible refine x_ife ?_
  | with_reducible refine x_add ?_
  | with_reducible refine x_sub ?_
  | with_reducible refine x_gtI ?_
  | with_reducible refine x_ltI ?_
  | with_reducible refine x_geI ?_
  | with_reducible refine x_leI ?_
  | with_reducible refine x_abs ?_
  | with_reducible refine x_intb ?_
  | with_reducible refine x_for ?_
  | with_reducible refine x_irange ?_
  | with_reducible refine x_lc ?_
  | with_reducible refine x_yes ?_
  | with_reducible refine x_bm ?_
  | with_reducible refine x_bm0 ?_
  | with_reducible refine x_andv ?_
  | with_reducible refine x_orv ?_
  | with_reducible refine x_notv ?_
  | with_reducible refine x_eqI ?_
  | with_reducible refine x_tystr ?_
  | ((with_reducible refine' x_gtup ?e ?_); (case e => with_unfolding_all rfl))
  | ((with_reducible refine' x_pow ?e ?_); (case e => exact ⟨by decide, by decide, by decide⟩))
  | ((with_reducible refine' x_ix ?e ?q ?_); (case e => walk_at "get"); (case q => with_unfolding_all rfl))
  | ((with_reducible refine' x_ixt ?q ?_); (case q => with_unfolding_all rfl))
  | ((with_reducible refine' x_sto ?e ?q ?_); (case e => walk_at "get"); (case q => with_unfolding_all rfl))
  | ((with_reducible refine' x_adds ?e ?_); (case e => walk_at "txt"))
  | ((with_reducible refine' x_muls ?e ?f ?g ?_); (case e => omega); (case f => omega); (case g => walk_at "txt"))
  | ((with_reducible refine' x_divmod ?e ?_); (case e => exact ⟨by omega, by omega⟩))
  | ((with_reducible refine' x_mod ?e ?_); (case e => omega))
  | ((with_reducible refine' x_fdivC ?e ?f ?_); (case e => omega); (case f => omega))
  | ((with_reducible refine' x_mulL ?e ?f ?_); (case e => omega); (case f => omega))
  | ((with_reducible refine' x_mulR ?e ?f ?_); (case e => omega); (case f => omega))
  | ((with_reducible refine' x_len ?e ?_); (case e => walk_at "sq"))
  | ((with_reducible refine' x_range ?e ?f ?_); (case e => omega); (case f => omega))
  | ((with_reducible refine' x_tylst ?e ?_); (case e => walk_at "get"))
  | ((with_reducible refine' x_append ?e ?f ?_); (case e => walk_at "get"); (case f => walk_at "size"))
  | ((with_reducible refine' And.intro ?e ?_); (case e => (show _ ≤ sizeLine; walk_at "size")))
  | ((with_reducible refine' Exists.intro _ (And.intro ?e ?_)); (case e => with_unfolding_all rfl)))
/-! ### the law's other list, part by part -/
theorem len_flat {α : Type} : ∀ {L : List (List α)} {l : List α}, l ∈ L → l.length ≤ L.flatten.length
  | a :: L, l, h => by
    rw [List.flatten_cons, List.length_append]
    rcases List.mem_cons.mp h with rfl | h
    · omega
    · have := len_flat h; omega
theorem x_ninL {x : Str} {p : Addr} {bs : List Str} {G : Gp} {R : KT} (e : G p = some (.lst (bs.map T.str))) (h : R (.bl (!decide (x ∈ bs))) G) : oInA true (.str x) (.ref p) G R := by
  have e2 : ((bs.map T.str).any fun y => y.eqf (.str x)) = decide (x ∈ bs) := by
    rw [List.any_map, Bool.eq_iff_iff, List.any_eq_true, decide_eq_true_iff]
    constructor
    · rintro ⟨y, hy, e⟩
      have e : (y == x) = true := e
      rw [beqS2] at e
      rwa [← of_decide_eq_true e]
    · intro h
      exact ⟨x, h, show (x == x) = true from beq_self_eq_true x⟩
  refine .inl ⟨_, .inr (.inr ⟨p, rfl, e⟩), rfl, by rw [List.all_map]; exact List.all_eq_true.mpr fun _ _ => rfl, ?_⟩
  rw [if_pos rfl, e2]
  exact h
theorem x_mulLst {p : Addr} {x : T} {b : Bool} {G : Gp} {R : KT} (e : G p = some (.lst [x])) (h : ∀ q, G q = none → R (.ref q) (Mi.put G q (.lst (if b = true then [x] else [])))) : oMulU (.ref p) (.int (if b then 1 else 0)) G R := by
  refine .inl ⟨[x], e, ?_, ?_, ?_, fun q hq => ?_⟩
  · cases b <;> decide
  · cases b <;> decide
  · have := sizeLine_eq
    cases b <;> simp <;> omega
  · have := h q hq
    cases b <;> exact this
/-- the list of what a part binds in one of its parts -/
theorem more_ok {r : Mi.Env} {G : Gp} {n : Nat} {w v : T} {j : Nat} {M : MEnds} (hw : Tm n w) (hj : (kidsT w)[j]? = some v) (h0 : r[0]? = some (some w)) (h4 : r[4]? = some (some (.int (j : Nat)))) {p6 : Addr} (h6 : r[6]? = some (some (.ref p6))) (e6 : G p6 = some (.lst []))
    (k : ∀ q G', (G' q = some (.lst ((bndT w j).map T.str))) → Ext G G' → M.nx (r.set 6 (some (.ref q))) G') :
    msIf (tmOr (mB (mOp oEq (mOp oIx (mVar 0) (mC (.int 0))) (mC (.str "fun")))) (tmAnd (mB (mOp oEq (mOp oIx (mVar 0) (mC (.int 0))) (mC (.str "case")))) (mB (mOp oGtU (mVar 4) (mC (.int 0))))))
      (msAsg (mLst (maCons (mIf (mB (mOp oEq (mOp oIx (mVar 0) (mC (.int 0))) (mC (.str "fun")))) (mOp oIx (mVar 0) (mC (.int 1))) (mOp oIx (mOp oIx (mOp oIx (mVar 0) (mC (.int 2))) (mOp oSub (mVar 4) (mC (.int 1)))) (mC (.int 1)))) maNil)) (mgName 6)) msNext M r G := by
  have szl := sizeLine_eq
  have sf : SeqAt.shaped (.str "fun") = true := by decide +kernel
  have sc : SeqAt.shaped (.str "case") = true := by decide +kernel
  have same : M.nx (r.set 6 (some (.ref p6))) G → M.nx r G := fun z => by
    rwa [show r.set 6 (some (.ref p6)) = r by
      refine List.ext_getElem? fun i => ?_
      by_cases e : 6 = i
      · subst e
        rw [List.getElem?_set_self (List.getElem?_eq_some_iff.mp h6).1, h6]
      · rw [List.getElem?_set_ne e]] at z
  with_reducible refine x_if ?_
  cases hw.shp with
  | name a => rw [kids_name] at hj; cases hj
  | frm a b => rw [kids_frm] at hj; cases hj
  | fn a b =>
    rename_i y t
    refine x_orT (hd0_test h0 sf sf (x_iteT (by decide +kernel) (x_iteT rfl ?_)))
    refine x_asg (x_lst (x_cons (x_ife (hd0_test h0 sf sf (x_iteT (by decide +kernel) (x_op (x_var h0 (x_c (x_ixt (show atI [T.str "fun", .str y, t] 1 = some (.str y) from rfl) (x_nil ⟨by show 1 ≤ sizeLine; omega, fun q hq => x_gname ?_⟩))))))))))
    exact k q _ (by rw [put_same, bnd_fn]; rfl) (Ext.new hq)
  | case hl a b c =>
    rename_i t ps
    refine x_orT (hd0_test h0 sc sf (x_iteF (by decide +kernel) (x_and (hd0_test h0 sc sc (x_iteT (by decide +kernel) (x_b (x_op (x_var h4 (x_c (x_gtI ⟨_, rfl, ?_⟩))))))))))
    cases j with
    | zero =>
      refine x_iteF (by decide) (x_next (same ?_))
      exact k p6 G (by rw [e6, bnd_case0]; rfl) (Ext.refl G)
    | succ j =>
      refine x_iteT (decide_eq_true (by omega)) ?_
      rw [kids_case, List.getElem?_cons_succ, List.getElem?_map] at hj
      cases ep : ps[j]? with
      | none => rw [ep] at hj; cases hj
      | some p =>
        have er : (ps.map fun p => T.tup [.str p.1, .str p.2.1, p.2.2])[j]? = some (T.tup [.str p.1, .str p.2.1, p.2.2]) := by rw [List.getElem?_map, ep]; rfl
        refine x_asg (x_lst (x_cons (x_ife (hd0_test h0 sc sf (x_iteF (by decide +kernel) (x_op (x_op (x_op (x_var h0 (x_c (x_ixt (show atI [T.str "case", t, .tup (ps.map fun p => T.tup [.str p.1, .str p.2.1, p.2.2])] 2 = some (.tup (ps.map fun p => T.tup [.str p.1, .str p.2.1, p.2.2])) from rfl) (x_op (x_var h4 (x_c (x_sub ?_)))))))))))))))
        rw [show (((j + 1 : Nat) : Int) - 1) = (j : Nat) by omega]
        refine x_ixt (atI_get er) (x_c (x_ixt (show atI [T.str p.1, .str p.2.1, p.2.2] 1 = some (.str p.2.1) from rfl) (x_nil ⟨by show 1 ≤ sizeLine; omega, fun q hq => x_gname ?_⟩)))
        exact k q _ (by rw [put_same, bnd_case ep]; rfl) (Ext.new hq)
  | other a b c d e f g i hb =>
    refine x_orT (hd0_test h0 a sf (x_iteF (decide_eq_false d) (x_and (hd0_test h0 a sc (x_iteF (decide_eq_false e) (x_iteF rfl (x_next (same ?_))))))))
    exact k p6 G (by rw [e6, hb]; rfl) (Ext.refl G)
def NamedOk (k n : Nat) : Prop := ∀ (t : T) (π : List Nat) (bs : List Str) (pb : Addr) (G : Gp) (R : KT), Tm n t → (allp n t π bs).length ≤ 40 → bs.length + n ≤ 900 → π.length + n ≤ 900 → G pb = some (.lst (bs.map T.str)) →
  (∀ p G', G p = none → G' p = some (.lst (nmd n t π bs)) → Ext G G' → R (.ref p) G') → SP k 14 [t, plT π, .ref pb] G R
theorem bnd_len {n : Nat} {t : T} (h : Tm n t) (j : Nat) : (bndT t j).length ≤ 1 := by
  cases h.shp with
  | name a => simp [bndT]
  | frm a b => rw [bnd_other (by decide +kernel) (by decide +kernel)]; simp
  | fn a b => rw [bnd_fn]; simp
  | case hl a b c =>
    rename_i t ps
    cases j with
    | zero => rw [bnd_case0]; simp
    | succ j =>
      cases ep : ps[j]? with
      | some p => rw [bnd_case ep]; simp
      | none =>
        rw [bnd3_eq, bnd3, if_neg (by decide +kernel), if_pos rfl]
        show ((((ps.map _)[j]?).map secS).getD []).length ≤ 1
        rw [List.getElem?_map, ep]
        simp
  | other a b c d e f g i hb => rw [hb]; simp
theorem nmd_eq {n : Nat} {t : T} (h : Tm n t) (π : List Nat) (bs : List Str) : nmd n t π bs = (kin n t π bs).flatten.flatMap own ++ ownT π bs t := by
  unfold nmd
  rw [allp_eq h, List.flatMap_append]
  simp [own]
theorem named_step {k n : Nat} (IH : ∀ m, n = m + 1 → NamedOk (k + 1) m) : NamedOk (k + 2) n := by
  intro t π bs pb G R ht hs hb hπ eb hR
  have szl := sizeLine_eq
  show spOf 7 3 (b14 (SP (k + 1))) _ _ _
  refine ⟨rfl, ?_⟩
  unfold b14
  have sf : SeqAt.shaped (.str "from") = true := by decide +kernel
  have sn : SeqAt.shaped (.str "name") = true := by decide +kernel
  have ne := nmd_eq ht π bs
  obtain ⟨w, rest, et, cw, hrl⟩ := ht.shp.hd
  by_cases hn : w = "name"
  · subst hn
    subst et
    obtain ⟨x, rfl⟩ : ∃ x, rest = [T.str x] := by
      cases ht.shp with
      | name a => exact ⟨_, rfl⟩
      | other a b => exact absurd rfl b
    with_reducible refine x_seq ?_
    with_reducible refine x_if ?_
    refine hd0_test rfl sn sn (x_iteT (by decide +kernel) ?_)
    refine x_ret (x_op (x_lst (x_cons (x_tup (x_cons (x_var rfl (x_cons (x_op (x_var rfl (x_c (x_ixt (show atI [T.str "name", .str x] 1 = some (.str x) from rfl) (x_nil ⟨by show 2 ≤ sizeLine; omega, x_nil ⟨by show 1 ≤ sizeLine; omega, fun p hp => ?_⟩⟩))))))))))))
    refine x_call (x_cons (x_op (x_var rfl (x_c (x_ixt (show atI [T.str "name", .str x] 1 = some (.str x) from rfl) (x_var rfl (x_ninL (get_new hp eb) (x_nil (x_intb (x_mulLst put_same fun q hq => ?_))))))))))
    refine fwdT.of (hR q _ (Ext.none (Ext.new hp) hq) ?_ ((Ext.new hp).trans (Ext.new hq)))
    rw [put_same, ne, own_name]
    have e0 : kin n (.tup [.str "name", .str x]) π bs = [] := by unfold kin; rw [kids_name]; rfl
    rw [e0]
    by_cases q : x ∈ bs
    · rw [decide_eq_true q, if_pos q]; rfl
    · rw [decide_eq_false q, if_neg q]; rfl
  subst et
  with_reducible refine x_seq ?_
  with_reducible refine x_if ?_
  refine hd0_test rfl cw sn (x_iteF (decide_eq_false hn) (x_next ?_))
  dsimp only
  with_reducible refine x_seq ?_
  refine x_asg (x_op (x_lst (x_cons (x_tup (x_cons (x_var rfl (x_cons (x_sl (x_var rfl (x_slS (x_c ⟨1, rfl, x_slN (x_slT ?_)⟩)))))))))))
  rw [cut1]
  refine x_nil ⟨by show 2 ≤ sizeLine; omega, x_nil ⟨by show 1 ≤ sizeLine; omega, fun p hp => ?_⟩⟩
  refine x_call (x_cons (x_op (x_op (x_var rfl (x_c (x_ixt (atI0 _ _) (x_c (x_eqSS cw sf (x_nil (x_intb (x_mulLst put_same fun q hq => x_gname ?_)))))))))))
  have eo : (if decide (w = "from") = true then [T.tup [plT π, T.tup rest]] else []) = ownT π bs (.tup (.str w :: rest)) := by
    by_cases q : w = "from"
    · rw [q, own_frm]; rfl
    · rw [own_no hn q, decide_eq_false q]; rfl
  rw [show List.drop 1 (T.str w :: rest) = rest from rfl, eo]
  have hol := own_len (π, .tup (.str w :: rest), bs)
  have F1 : Ext G (Mi.put (Mi.put G p (.lst [T.tup [plT π, T.tup rest]])) q (.lst (ownT π bs (.tup (.str w :: rest))))) := (Ext.new hp).trans (Ext.new hq)
  have e1 : Mi.put (Mi.put G p (.lst [T.tup [plT π, T.tup rest]])) q (.lst (ownT π bs (.tup (.str w :: rest)))) q = some (.lst (ownT π bs (.tup (.str w :: rest)))) := put_same
  have hq0 : G q = none := Ext.none (Ext.new hp) hq
  generalize Mi.put (Mi.put G p (.lst [T.tup [plT π, T.tup rest]])) q (.lst (ownT π bs (.tup (.str w :: rest)))) = G1 at F1 e1 ⊢
  with_reducible refine x_seq ?_
  refine x_for (x_ienum (x_call (x_cons (x_var rfl (x_nil ?_)))))
  refine parts_ok ht fun s us G2 kd _ hu f2 fs => ?_
  subst kd
  refine ⟨_, fs.src, ?_⟩
  -- so far
  have hsum : (kin n (.tup (.str w :: rest)) π bs).flatten.length + 1 ≤ 40 := by
    have := hs
    rw [allp_eq ht, List.length_append] at this
    exact this
  refine ⟨fun i r G' => ∃ (p3 : Addr) (x4 x5 x6 : Option T), r = [some (.tup (.str w :: rest)), some (plT π), some (.ref pb), some (.ref p3), x4, x5, x6] ∧ G p3 = none ∧ G' p3 = some (.lst (ownT π bs (.tup (.str w :: rest)) ++ ((kin n (.tup (.str w :: rest)) π bs).take i).flatten.flatMap own)) ∧ Ext G G' ∧ Ext G2 G',
    ⟨q, none, none, none, rfl, hq0, by rw [f2 _ _ e1]; simp, F1.trans f2, Ext.refl _⟩, ?_, ?_, ?_⟩
  · intro i r G' ⟨p3, x4, x5, x6, w1, w2, w3, w4, w5⟩
    exact fs.held w5
  · intro i t2 r G' ht2 ⟨p3, x4, x5, x6, w1, w2, w3, w4, w5⟩
    subst w1
    obtain ⟨u, eu, rfl⟩ := enum_at ht2
    obtain ⟨m, rfl, hm⟩ := hu u (List.mem_of_getElem? eu)
    have il : i < (kidsT (.tup (.str w :: rest))).length := (List.getElem?_eq_some_iff.mp eu).1
    have ek : (kin (m + 1) (.tup (.str w :: rest)) π bs)[i]? = some (allp m u (π ++ [i]) (bs ++ bndT (.tup (.str w :: rest)) i)) := by
      unfold kin
      rw [List.getElem?_mapIdx, eu]
      rfl
    have hal := len_flat (List.mem_of_getElem? ek)
    have bl := bnd_len ht i
    refine x_gtup rfl (x_gcons (x_gname (x_gcons (x_gname (x_gnil ?_)))))
    with_reducible refine x_seq ?_
    refine x_asg (x_lst (x_nil ⟨by show 0 ≤ sizeLine; omega, fun p6 hp6 => x_gname ?_⟩))
    with_reducible refine x_seq ?_
    refine more_ok (j := i) ht eu rfl rfl rfl put_same fun p7 G3 e7 f3 => ?_
    have F3 : Ext G' G3 := (Ext.new hp6).trans f3
    dsimp only
    refine x_asg (x_op (x_var rfl (x_call (x_cons (x_var rfl (x_cons (x_op (x_var rfl (x_tup (x_cons (x_var rfl (x_nil ⟨by show 1 ≤ sizeLine; omega, ?_⟩))))))))))))
    refine x_catT (by rw [List.length_map]; show π.length + 1 ≤ sizeLine; omega) ?_
    rw [show (π.map fun i => T.int ((i : Nat) : Int)) ++ [T.int ((i : Nat) : Int)] = (π ++ [i]).map fun i => T.int ((i : Nat) : Int) by rw [List.map_append]; rfl]
    refine x_cons (x_op (x_var rfl (x_var rfl (x_addL (F3 _ _ (w4 _ _ eb)) e7 (by rw [List.length_map, List.length_map]; omega) fun p8 hp8 => x_nil ?_))))
    rw [← List.map_append]
    refine IH m rfl u (π ++ [i]) (bs ++ bndT (.tup (.str w :: rest)) i) p8 _ _ hm (by omega) (by rw [List.length_append]; omega) (by rw [List.length_append, List.length_singleton]; omega) put_same fun p9 G4 hp9 e9 f4 => ?_
    have F4 : Ext G' G4 := F3.trans ((Ext.new hp8).trans f4)
    have hfl := flat_len ((kin (m + 1) (.tup (.str w :: rest)) π bs).take i).flatten
    have hfl2 : ((kin (m + 1) (.tup (.str w :: rest)) π bs).take i).flatten.length ≤ (kin (m + 1) (.tup (.str w :: rest)) π bs).flatten.length := by
      conv => rhs; rw [← List.take_append_drop i (kin (m + 1) (.tup (.str w :: rest)) π bs), List.flatten_append, List.length_append]
      omega
    have hnl := flat_len (allp m u (π ++ [i]) (bs ++ bndT (.tup (.str w :: rest)) i))
    refine x_addL (F4 _ _ w3) e9 ?_ fun p10 hp10 => x_gname ?_
    · have ho : (ownT π bs (.tup (.str w :: rest))).length ≤ 1 := hol
      rw [List.length_append]
      unfold nmd
      omega
    refine fwd.of ⟨p10, _, _, _, rfl, Ext.none (w4.trans F4) hp10, ?_, (w4.trans F4).trans (Ext.new hp10), (w5.trans F4).trans (Ext.new hp10)⟩
    rw [put_same, List.take_succ, ek, List.flatten_append, List.flatMap_append, List.append_assoc]
    unfold nmd
    simp
  · intro r G' ⟨p3, x4, x5, x6, w1, w2, w3, w4, w5⟩
    subst w1
    have w3 : G' p3 = some (.lst (ownT π bs (.tup (.str w :: rest)) ++ ((kin n (.tup (.str w :: rest)) π bs).take (enumT 0 (kidsT (.tup (.str w :: rest)))).length).flatten.flatMap own)) := w3
    have lk : (enumT 0 (kidsT (.tup (.str w :: rest)))).length = (kin n (.tup (.str w :: rest)) π bs).length := by unfold enumT kin; simp
    rw [lk, List.take_length] at w3
    dsimp only
    refine x_ret (x_var rfl (fwdT.of (hR p3 G' w2 ?_ w4)))
    rw [w3, ne]
    by_cases q0 : w = "from"
    · have e0 : kin n (.tup (.str w :: rest)) π bs = [] := by
        unfold kin
        have : kidsT (.tup (.str w :: rest)) = [] := by
          cases ht.shp with
          | frm a b => exact kids_frm
          | other a b c => exact absurd q0 c
          | name a => exact absurd rfl hn
          | fn a b => exact absurd q0 (by decide +kernel)
          | case hl a b c => exact absurd q0 (by decide +kernel)
        rw [this]
        rfl
      rw [e0]
      simp
    · rw [own_no hn q0]
      simp
theorem named_all : ∀ (n k : Nat), n + 2 ≤ k → NamedOk k n
  | 0, k, h => by
    obtain ⟨k0, rfl⟩ : ∃ k0, k = k0 + 2 := ⟨k - 2, by omega⟩
    exact named_step fun m e => by omega
  | n + 1, k, h => by
    obtain ⟨k0, rfl⟩ : ∃ k0, k = k0 + 2 := ⟨k - 2, by omega⟩
    refine named_step fun m e => ?_
    obtain rfl : n = m := by omega
    exact named_all n (k0 + 1) (by omega)
end Lw

set_option Elab.async false
set_option linter.all false
set_option maxRecDepth 100000
set_option maxHeartbeats 1000000
namespace Lw
open PySem L2 Mi
local macro_rules | `(tactic| walk_at "get") => `(tactic| first | assumption | exact put_same | (refine get_new (by assumption) ?_; walk_at "get") | (refine get_ne (by assumption) ?_; walk_at "get"))
local macro_rules | `(tactic| walk_at "sq") => `(tactic| first | assumption | exact .inl rfl | exact .inr (.inl rfl) | exact .inr (.inr ⟨_, rfl, by walk_at "get"⟩))
local macro_rules | `(tactic| walk_at "size") => `(tactic| first | assumption | (simp only [List.length_cons, List.length_nil]; decide) | (have := sizeLine_eq; omega))
local macro_rules | `(tactic| walk_at "txt") => `(tactic| first | assumption | (simp only [Str.length, Str.cps_append, Array.size_append]; have := sizeLine_eq; omega))
local macro_rules | `(tactic| walk_at "go1") => `(tactic| first
  | ((with_reducible refine' x_var ?e ?_); (case e => with_unfolding_all rfl))
  | with_reducible refine x_seq ?_
  | with_reducible refine x_asg ?_
  | with_reducible refine x_if ?_
  | with_reducible refine x_ret ?_
  | with_reducible refine x_next ?_
  | with_reducible refine x_expr ?_
  | with_reducible refine x_gname ?_
  | with_reducible refine x_gcons ?_
  | with_reducible refine x_gnil ?_
  | with_reducible refine x_gsub ?_
  | with_reducible refine x_c ?_
  | with_reducible refine x_op ?_
  | with_reducible refine x_call ?_
  | with_reducible refine x_cons ?_
  | with_reducible refine x_nil ?_
  | with_reducible refine x_par ?_
  | with_reducible refine x_tup ?_
  | with_reducible refine x_lst ?_
  | with_reducible refine x_b ?_
  | with_reducible refine x_tru ?_
  | with_reducible refine x_not ?_
  | with_reducible refine x_or ?_
  | with_reducible refine x_and ?_
  | with_reducible refine x_ife ?_
  | with_reducible refine x_add ?_
  | with_reducible refine x_sub ?_
  | with_reducible refine x_gtI ?_
  | with_reducible refine x_ltI ?_
  | with_reducible refine x_geI ?_
  | with_reducible refine x_leI ?_
  | with_reducible refine x_abs ?_
  | with_reducible refine x_intb ?_
  | with_reducible refine x_for ?_
  | with_reducible refine x_irange ?_
  | with_reducible refine x_lc ?_
  | with_reducible refine x_yes ?_
  | with_reducible refine x_bm ?_
  | with_reducible refine x_bm0 ?_
  | with_reducible refine x_andv ?_
  | with_reducible refine x_orv ?_
  | with_reducible refine x_notv ?_
  | with_reducible refine x_eqI ?_
  | with_reducible refine x_tystr ?_
  | ((with_reducible refine' x_gtup ?e ?_); (case e => with_unfolding_all rfl))
  | ((with_reducible refine' x_pow ?e ?_); (case e => exact ⟨by decide, by decide, by decide⟩))
  | ((with_reducible refine' x_ix ?e ?q ?_); (case e => walk_at "get"); (case q => with_unfolding_all rfl))
  | ((with_reducible refine' x_ixt ?q ?_); (case q => with_unfolding_all rfl))
  | ((with_reducible refine' x_sto ?e ?q ?_); (case e => walk_at "get"); (case q => with_unfolding_all rfl))
  | ((with_reducible refine' x_adds ?e ?_); (case e => walk_at "txt"))
  | ((with_reducible refine' x_muls ?e ?f ?g ?_); (case e => omega); (case f => omega); (case g => walk_at "txt"))
  | ((with_reducible refine' x_divmod ?e ?_); (case e => exact ⟨by omega, by omega⟩))
  | ((with_reducible refine' x_mod ?e ?_); (case e => omega))
  | ((with_reducible refine' x_fdivC ?e ?f ?_); (case e => omega); (case f => omega))
  | ((with_reducible refine' x_mulL ?e ?f ?_); (case e => omega); (case f => omega))
  | ((with_reducible refine' x_mulR ?e ?f ?_); (case e => omega); (case f => omega))
  | ((with_reducible refine' x_len ?e ?_); (case e => walk_at "sq"))
  | ((with_reducible refine' x_range ?e ?f ?_); (case e => omega); (case f => omega))
  | ((with_reducible refine' x_tylst ?e ?_); (case e => walk_at "get"))
  | ((with_reducible refine' x_append ?e ?f ?_); (case e => walk_at "get"); (case f => walk_at "size"))
  | ((with_reducible refine' And.intro ?e ?_); (case e => (show _ ≤ sizeLine; walk_at "size")))
  | ((with_reducible refine' Exists.intro _ (And.intro ?e ?_)); (case e => with_unfolding_all rfl)))
/-! ### the program's parts -/
theorem tail_ok {w : Str} {ts nn : List T} {G : Gp} {R : KT} (hk : lkL kl_TERMS_AT w = some nn) (hl : nn.length ≤ 1000) (hj : ∀ t ∈ nn, ∃ j : Nat, t = .int (j : Nat) ∧ j < ts.length)
    (hR : ∀ p G', Ext G G' → G p = none → G' p = some (.lst (nn.map (atT ts))) → R (.ref p) G') :
    mLc (miKSrc kl_TERMS_AT (mVar 1)) (mgName 4) mtYes (mOp oIx (mVar 0) (mVar 4)) [4] [some (.tup ts), some (.str w), none, none, none] G (fwdT R) := by
  refine comp_ok (ts := nn) (f := atT ts) hl (fun N main => x_iksrc (x_var rfl ⟨w, nn, rfl, hk, main [] G (Ext.refl G) fun _ _ q hq => by cases hq⟩)) (fun u G1 K hu f1 k2 => ?_) fun D G' hn e2 f2 => fwdT.of (hR D G' f2 hn e2)
  obtain ⟨j, rfl, jl⟩ := hj u hu
  exact x_op (x_var rfl (x_var rfl (x_ixt (atI_at jl) (k2 G1 (Ext.refl G1)))))
theorem tp_ok {k n : Nat} {t : T} {G : Gp} {R : KT} (ht : Tm n t) (hR : ∀ p G', Ext G G' → G p = none → G' p = some (.lst (kidsT t)) → R (.ref p) G') : SP (k + 1) 0 [t] G R := by
  show spOf 5 1 (b0 (SP k)) _ _ _
  refine ⟨rfl, ?_⟩
  unfold b0
  have szl := sizeLine_eq
  have sn : SeqAt.shaped (.str "name") = true := by decide +kernel
  have sf : SeqAt.shaped (.str "fun") = true := by decide +kernel
  have sr : SeqAt.shaped (.str "rec") = true := by decide +kernel
  have sc : SeqAt.shaped (.str "case") = true := by decide +kernel
  obtain ⟨w, rest, et, cw, hrl⟩ := ht.shp.hd
  clear hrl
  subst et
  have tail : ∀ nn, w ≠ "name" → w ≠ "fun" → w ≠ "rec" → w ≠ "case" → lkL kl_TERMS_AT w = some nn → nn.length ≤ 1000 → (∀ t ∈ nn, ∃ j : Nat, t = .int (j : Nat) ∧ j < (T.str w :: rest).length) → kidsT (.tup (.str w :: rest)) = nn.map (atT (.str w :: rest)) →
      (msSeq (msAsg (mOp oIx (mVar 0) (mC (.int 0))) (mgName 1)) (msSeq (msIf (mB (mOp oEq (mVar 1) (mC (.str "name")))) (msRet (mLst maNil)) msNext) (msSeq (msIf (mB (mOp oEq (mVar 1) (mC (.str "fun")))) (msRet (mLst (maCons (mOp oIx (mVar 0) (mC (.int 2))) maNil))) msNext) (msSeq (msIf (mB (mOp oEq (mVar 1) (mC (.str "rec")))) (msRet (mLc (miSeq (mOp oIx (mVar 0) (mC (.int 1)))) (mgName 2) mtYes (mOp oIx (mVar 2) (mC (.int 1))) [2])) msNext) (msSeq (msIf (mB (mOp oEq (mVar 1) (mC (.str "case")))) (msRet (mOp oAdd (mLst (maCons (mOp oIx (mVar 0) (mC (.int 1))) maNil)) (mLc (miSeq (mOp oIx (mVar 0) (mC (.int 2)))) (mgName 3) mtYes (mOp oIx (mVar 3) (mC (.int 2))) [3]))) msNext) (msRet (mLc (miKSrc kl_TERMS_AT (mVar 1)) (mgName 4) mtYes (mOp oIx (mVar 0) (mVar 4)) [4])))))))
        { nx := fun _ G' => fwdT R .non G', rt := fwdT R } (List.map some [T.tup (.str w :: rest)] ++ List.replicate (5 - 1) none) G := by
    intro nn h1 h2 h3 h4 hk hl hj he
    with_reducible refine x_seq ?_
    refine x_asg (x_op (x_var rfl (x_c (x_ixt (atI0 _ _) (x_gname ?_)))))
    with_reducible refine x_seq ?_
    with_reducible refine x_if ?_
    refine hd_test rfl cw sn (x_iteF (decide_eq_false h1) (x_next ?_))
    dsimp only
    with_reducible refine x_seq ?_
    with_reducible refine x_if ?_
    refine hd_test rfl cw sf (x_iteF (decide_eq_false h2) (x_next ?_))
    dsimp only
    with_reducible refine x_seq ?_
    with_reducible refine x_if ?_
    refine hd_test rfl cw sr (x_iteF (decide_eq_false h3) (x_next ?_))
    dsimp only
    with_reducible refine x_seq ?_
    with_reducible refine x_if ?_
    refine hd_test rfl cw sc (x_iteF (decide_eq_false h4) (x_next ?_))
    dsimp only
    exact x_ret (tail_ok hk hl hj fun p G' f hp e => hR p G' f hp (by rw [e, he]))
  cases ht with
  | num a b => exact tail [] (by decide +kernel) (by decide +kernel) (by decide +kernel) (by decide +kernel) rfl (by simp) (by simp) kids_num
  | hole => exact tail [] (by decide +kernel) (by decide +kernel) (by decide +kernel) (by decide +kernel) rfl (by simp) (by simp) rfl
  | frm a b => exact tail [] (by decide +kernel) (by decide +kernel) (by decide +kernel) (by decide +kernel) rfl (by simp) (by simp) kids_frm
  | bin hw a b =>
    have hb := bin_ne hw
    have hr : w ≠ "rec" := by
      simp only [List.mem_cons, List.not_mem_nil, or_false] at hw
      rcases hw with rfl | rfl | rfl | rfl <;> decide +kernel
    have hk : lkL kl_TERMS_AT w = some [.int ((1 : Nat) : Int), .int ((2 : Nat) : Int)] := by
      simp only [List.mem_cons, List.not_mem_nil, or_false] at hw
      rcases hw with rfl | rfl | rfl | rfl <;> rfl
    exact tail _ hb.2.2.2.2.2.1 hb.2.1 hr hb.2.2.2.2.1 hk (by simp) (by
      intro t h
      simp only [List.mem_cons, List.not_mem_nil, or_false] at h
      rcases h with rfl | rfl
      · exact ⟨1, rfl, by simp⟩
      · exact ⟨2, rfl, by simp⟩) (kids_bin hw)
  | under a b c d =>
    exact tail [.int ((1 : Nat) : Int), .int ((2 : Nat) : Int), .int ((3 : Nat) : Int), .int ((4 : Nat) : Int)] (by decide +kernel) (by decide +kernel) (by decide +kernel) (by decide +kernel) rfl (by simp) (by
      intro t h
      simp only [List.mem_cons, List.not_mem_nil, or_false] at h
      rcases h with rfl | rfl | rfl | rfl
      · exact ⟨1, rfl, by simp⟩
      · exact ⟨2, rfl, by simp⟩
      · exact ⟨3, rfl, by simp⟩
      · exact ⟨4, rfl, by simp⟩) rfl
  | get a b =>
    exact tail [.int ((1 : Nat) : Int)] (by decide +kernel) (by decide +kernel) (by decide +kernel) (by decide +kernel) rfl (by simp) (by
      intro t h
      exact ⟨1, by simpa using h, by simp⟩) kids_get
  | put a b c =>
    exact tail [.int ((1 : Nat) : Int), .int ((3 : Nat) : Int)] (by decide +kernel) (by decide +kernel) (by decide +kernel) (by decide +kernel) rfl (by simp) (by
      intro t h
      simp only [List.mem_cons, List.not_mem_nil, or_false] at h
      rcases h with rfl | rfl
      · exact ⟨1, rfl, by simp⟩
      · exact ⟨3, rfl, by simp⟩) kids_put
  | tag a b =>
    exact tail [.int ((2 : Nat) : Int)] (by decide +kernel) (by decide +kernel) (by decide +kernel) (by decide +kernel) rfl (by simp) (by
      intro t h
      exact ⟨2, by simpa using h, by simp⟩) kids_tag
  | name a =>
    with_reducible refine x_seq ?_
    refine x_asg (x_op (x_var rfl (x_c (x_ixt (atI0 _ _) (x_gname ?_)))))
    with_reducible refine x_seq ?_
    with_reducible refine x_if ?_
    refine hd_test rfl cw sn (x_iteT (by decide +kernel) ?_)
    with_reducible refine x_ret ?_
    with_reducible refine x_lst ?_
    refine x_nil ⟨by show 0 ≤ sizeLine; omega, fun p hp => ?_⟩
    exact fwdT.of (hR p _ (Ext.new hp) hp (by rw [put_same, kids_name]))
  | fn a b =>
    rename_i x t
    with_reducible refine x_seq ?_
    refine x_asg (x_op (x_var rfl (x_c (x_ixt (atI0 _ _) (x_gname ?_)))))
    with_reducible refine x_seq ?_
    with_reducible refine x_if ?_
    refine hd_test rfl cw sn (x_iteF (by decide +kernel) (x_next ?_))
    dsimp only
    with_reducible refine x_seq ?_
    with_reducible refine x_if ?_
    refine hd_test rfl cw sf (x_iteT (by decide +kernel) ?_)
    refine x_ret (x_lst (x_cons (x_op (x_var rfl (x_c (x_ixt (show atI [T.str "fun", .str x, t] 2 = some t from rfl) (x_nil ⟨by show 1 ≤ sizeLine; omega, fun p hp => ?_⟩)))))))
    exact fwdT.of (hR p _ (Ext.new hp) hp (by rw [put_same, kids_fn]))
  | rcd hl a b =>
    rename_i ps
    with_reducible refine x_seq ?_
    refine x_asg (x_op (x_var rfl (x_c (x_ixt (atI0 _ _) (x_gname ?_)))))
    with_reducible refine x_seq ?_
    with_reducible refine x_if ?_
    refine hd_test rfl cw sn (x_iteF (by decide +kernel) (x_next ?_))
    dsimp only
    with_reducible refine x_seq ?_
    with_reducible refine x_if ?_
    refine hd_test rfl cw sf (x_iteF (by decide +kernel) (x_next ?_))
    dsimp only
    with_reducible refine x_seq ?_
    with_reducible refine x_if ?_
    refine hd_test rfl cw sr (x_iteT (by decide +kernel) ?_)
    refine x_ret ?_
    refine comp_ok (ts := ps.map fun p => T.tup [.str p.1, p.2]) (f := secT) (by rw [List.length_map]; omega) (src_var fun K main => ?_) (fun u G1 K hu f1 k2 => ?_) fun D G' hn e2 f2 => fwdT.of (hR D G' f2 hn ?_)
    · exact x_op (x_var rfl (x_c (x_ixt (show atI [T.str "rec", .tup (ps.map fun p => T.tup [.str p.1, p.2])] 1 = some (.tup (ps.map fun p => T.tup [.str p.1, p.2])) from rfl) (main _ G (Ext.refl G) (.inl rfl)))))
    · obtain ⟨p, hp, rfl⟩ := List.mem_map.mp hu
      exact x_op (x_var rfl (x_c (x_ixt (show atI [T.str p.1, p.2] 1 = some p.2 from rfl) (k2 G1 (Ext.refl G1)))))
    · rw [e2, kids_rcd, List.map_map]; rfl
  | case hl a b c d =>
    rename_i t ps
    with_reducible refine x_seq ?_
    refine x_asg (x_op (x_var rfl (x_c (x_ixt (atI0 _ _) (x_gname ?_)))))
    with_reducible refine x_seq ?_
    with_reducible refine x_if ?_
    refine hd_test rfl cw sn (x_iteF (by decide +kernel) (x_next ?_))
    dsimp only
    with_reducible refine x_seq ?_
    with_reducible refine x_if ?_
    refine hd_test rfl cw sf (x_iteF (by decide +kernel) (x_next ?_))
    dsimp only
    with_reducible refine x_seq ?_
    with_reducible refine x_if ?_
    refine hd_test rfl cw sr (x_iteF (by decide +kernel) (x_next ?_))
    dsimp only
    with_reducible refine x_seq ?_
    with_reducible refine x_if ?_
    refine hd_test rfl cw sc (x_iteT (by decide +kernel) ?_)
    refine x_ret (x_op (x_lst (x_cons (x_op (x_var rfl (x_c (x_ixt (show atI [T.str "case", t, .tup (ps.map fun p => T.tup [.str p.1, .str p.2.1, p.2.2])] 1 = some t from rfl) (x_nil ⟨by show 1 ≤ sizeLine; omega, fun p hp => ?_⟩))))))))
    refine comp_ok (ts := ps.map fun p => T.tup [.str p.1, .str p.2.1, p.2.2]) (f := thirdT) (by rw [List.length_map]; omega) (src_var fun K main => ?_) (fun u G1 K hu f1 k2 => ?_) fun D G' hn e2 f2 => ?_
    · exact x_op (x_var rfl (x_c (x_ixt (show atI [T.str "case", t, .tup (ps.map fun p => T.tup [.str p.1, .str p.2.1, p.2.2])] 2 = some (.tup (ps.map fun p => T.tup [.str p.1, .str p.2.1, p.2.2])) from rfl) (main _ _ (Ext.refl _) (.inl rfl)))))
    · obtain ⟨p, hp, rfl⟩ := List.mem_map.mp hu
      exact x_op (x_var rfl (x_c (x_ixt (show atI [T.str p.1, .str p.2.1, p.2.2] 2 = some p.2.2 from rfl) (k2 G1 (Ext.refl G1)))))
    · refine x_addL (f2 _ _ put_same) e2 (by rw [List.length_map, List.length_map]; show 1 + ps.length ≤ _; omega) fun q hq => ?_
      have f3 := (Ext.new (c := .lst [t]) hp).trans f2
      exact fwdT.of (hR q _ (f3.trans (Ext.new hq)) (f3.none hq) (by rw [put_same, kids_case, List.map_map]; rfl))
end Lw

set_option Elab.async false
set_option linter.all false
set_option maxRecDepth 100000
set_option maxHeartbeats 1000000
namespace Lw
open PySem L2 Mi
local macro_rules | `(tactic| walk_at "get") => `(tactic| first | assumption | exact put_same | (refine get_new (by assumption) ?_; walk_at "get") | (refine get_ne (by assumption) ?_; walk_at "get"))
local macro_rules | `(tactic| walk_at "sq") => `(tactic| first | assumption | exact .inl rfl | exact .inr (.inl rfl) | exact .inr (.inr ⟨_, rfl, by walk_at "get"⟩))
local macro_rules | `(tactic| walk_at "size") => `(tactic| first | assumption | (simp only [List.length_cons, List.length_nil]; decide) | (have := sizeLine_eq; omega))
local macro_rules | `(tactic| walk_at "txt") => `(tactic| first | assumption | (simp only [Str.length, Str.cps_append, Array.size_append]; have := sizeLine_eq; omega))
local macro_rules | `(tactic| walk_at "go1") => `(tactic| first
  | ((with_reducible refine' x_var ?e ?_); (case e => with_unfolding_all rfl))
  | with_reducible refine x_seq ?_
  | with_reducible refine x_asg ?_
  | with_reducible refine x_if ?_
  | with_reducible refine x_ret ?_
  | with_reducible refine x_next ?_
  | with_reducible refine x_expr ?_
  | with_reducible refine x_gname ?_
  | with_reducible refine x_gcons ?_
  | with_reducible refine x_gnil ?_
  | with_reducible refine x_gsub ?_
  | with_reducible refine x_c ?_
  | with_reducible refine x_op ?_
  | with_reducible refine x_call ?_
  | with_reducible refine x_cons ?_
  | with_reducible refine x_nil ?_
  | with_reducible refine x_par ?_
  | with_reducible refine x_tup ?_
  | with_reducible refine x_lst ?_
  | with_reducible refine x_b ?_
  | with_reducible refine x_tru ?_
  | with_reducible refine x_not ?_
  | with_reducible refine x_or ?_
  | with_reducible refine x_and ?_
  | with_reducible refine x_ife ?_
  | with_reducible refine x_add ?_
  | with_reducible refine x_sub ?_
  | with_reducible refine x_gtI ?_
  | with_reducible refine x_ltI ?_
  | with_reducible refine x_geI ?_
  | with_reducible refine x_leI ?_
  | with_reducible refine x_abs ?_
  | with_reducible refine x_intb ?_
  | with_reducible refine x_for ?_
  | with_reducible refine x_irange ?_
  | with_reducible refine x_lc ?_
  | with_reducible refine x_yes ?_
  | with_reducible refine x_bm ?_
  | with_reducible refine x_bm0 ?_
  | with_reducible refine x_andv ?_
  | with_reducible refine x_orv ?_
  | with_reducible refine x_notv ?_
  | with_reducible refine x_eqI ?_
  | with_reducible refine x_tystr ?_
  | ((with_reducible refine' x_gtup ?e ?_); (case e => with_unfolding_all rfl))
  | ((with_reducible refine' x_pow ?e ?_); (case e => exact ⟨by decide, by decide, by decide⟩))
  | ((with_reducible refine' x_ix ?e ?q ?_); (case e => walk_at "get"); (case q => with_unfolding_all rfl))
  | ((with_reducible refine' x_ixt ?q ?_); (case q => with_unfolding_all rfl))
  | ((with_reducible refine' x_sto ?e ?q ?_); (case e => walk_at "get"); (case q => with_unfolding_all rfl))
  | ((with_reducible refine' x_adds ?e ?_); (case e => walk_at "txt"))
  | ((with_reducible refine' x_muls ?e ?f ?g ?_); (case e => omega); (case f => omega); (case g => walk_at "txt"))
  | ((with_reducible refine' x_divmod ?e ?_); (case e => exact ⟨by omega, by omega⟩))
  | ((with_reducible refine' x_mod ?e ?_); (case e => omega))
  | ((with_reducible refine' x_fdivC ?e ?f ?_); (case e => omega); (case f => omega))
  | ((with_reducible refine' x_mulL ?e ?f ?_); (case e => omega); (case f => omega))
  | ((with_reducible refine' x_mulR ?e ?f ?_); (case e => omega); (case f => omega))
  | ((with_reducible refine' x_len ?e ?_); (case e => walk_at "sq"))
  | ((with_reducible refine' x_range ?e ?f ?_); (case e => omega); (case f => omega))
  | ((with_reducible refine' x_tylst ?e ?_); (case e => walk_at "get"))
  | ((with_reducible refine' x_append ?e ?f ?_); (case e => walk_at "get"); (case f => walk_at "size"))
  | ((with_reducible refine' And.intro ?e ?_); (case e => (show _ ≤ sizeLine; walk_at "size")))
  | ((with_reducible refine' Exists.intro _ (And.intro ?e ?_)); (case e => with_unfolding_all rfl)))
/-! ### what stands on the stack -/
abbrev En := Nat × List Nat × T × List Str
def outE (e : En) : List Pt := allp e.1 e.2.2.1 e.2.1 e.2.2.2
def kidE (e : En) : List En := (kidsT e.2.2.1).mapIdx fun j v => (e.1 - 1, e.2.1 ++ [j], v, e.2.2.2 ++ bndT e.2.2.1 j)
theorem outE_eq {e : En} (h : Tm e.1 e.2.2.1) : outE e = (kidE e).flatMap outE ++ [(e.2.1, e.2.2.1, e.2.2.2)] := by
  unfold outE
  rw [allp_eq h]
  refine congrArg (· ++ _) ?_
  unfold kin kidE
  rw [List.flatMap_def]
  refine congrArg List.flatten (List.ext_getElem? fun i => ?_)
  rw [List.getElem?_map, List.getElem?_mapIdx, List.getElem?_mapIdx]
  cases (kidsT e.2.2.1)[i]? <;> rfl
theorem kidE_tm {e k : En} (h : Tm e.1 e.2.2.1) (hk : k ∈ kidE e) : Tm k.1 k.2.2.1 ∧ k.2.1.length = e.2.1.length + 1 := by
  unfold kidE at hk
  rw [List.mem_mapIdx] at hk
  obtain ⟨j, hj, rfl⟩ := hk
  obtain ⟨m, em, hm⟩ := h.kid (List.getElem_mem hj)
  refine ⟨?_, by simp⟩
  show Tm (e.1 - 1) _
  rw [em]
  exact hm
theorem outE_pos (e : En) : 1 ≤ (outE e).length := by
  obtain ⟨n, π, u, bs⟩ := e
  show 1 ≤ (allp n u π bs).length
  cases n with
  | zero => exact Nat.le_refl _
  | succ n => unfold allp; rw [List.length_append]; exact Nat.le_add_left _ _
def outs (es : List En) : List Pt := es.flatMap outE
theorem outs_len : ∀ es : List En, es.length ≤ (outs es).length
  | [] => Nat.le_refl _
  | e :: es => by
    have := outs_len es
    have := outE_pos e
    unfold outs at *
    rw [List.flatMap_cons, List.length_append, List.length_cons]
    omega
theorem outs_app (a b : List En) : outs (a ++ b) = outs a ++ outs b := List.flatMap_append
theorem outs_pop {xs : List En} {e : En} (h : Tm e.1 e.2.2.1) : outs (xs ++ [e]) = outs (xs ++ kidE e) ++ [(e.2.1, e.2.2.1, e.2.2.2)] := by
  rw [outs_app, outs_app, List.append_assoc]
  refine congrArg _ ?_
  show [e].flatMap outE = _
  rw [List.flatMap_cons, List.flatMap_nil, List.append_nil, outE_eq h]
  rfl
theorem rev_pop {f : Pt → T} {F W : List T} {xs : List En} {e : En} (h : Tm e.1 e.2.2.1) (w : F ++ (outs (xs ++ [e])).reverse.map f = W) : (F ++ [f (e.2.1, e.2.2.1, e.2.2.2)]) ++ (outs (xs ++ kidE e)).reverse.map f = W := by
  rw [outs_pop h, List.reverse_append, List.map_append] at w
  rw [← w]
  simp
theorem len_pop {xs : List En} {e : En} (h : Tm e.1 e.2.2.1) : (outs (xs ++ [e])).length = (outs (xs ++ kidE e)).length + 1 := by
  rw [outs_pop h, List.length_append]
  rfl
def entT (e : En) : T := .tup [plT e.2.1, e.2.2.1]
def ptT (p : Pt) : T := .tup [plT p.1, p.2.1]
/-- the pairs of place and part -/
theorem placed_ok {k n : Nat} {t : T} {G : Gp} {R : KT} (ht : Tm n t) (hs : (allp n t [] []).length ≤ 40) (hn : n ≤ 900) (hR : ∀ p G', G p = none → G' p = some (.lst ((allp n t [] []).map ptT)) → Ext G G' → R (.ref p) G') : SP (k + 2) 3 [t] G R := by
  have szl := sizeLine_eq
  show spOf 7 1 (b3 (SP (k + 1))) _ _ _
  refine ⟨rfl, ?_⟩
  unfold b3
  with_reducible refine x_seq ?_
  refine x_asg (x_lst (x_nil ⟨by show 0 ≤ sizeLine; omega, fun p1 hp1 => x_gname ?_⟩))
  with_reducible refine x_seq ?_
  refine x_asg (x_lst (x_cons (x_tup (x_cons (x_tup (x_nil ⟨by show 0 ≤ sizeLine; omega, x_cons (x_var rfl (x_nil ⟨by show 2 ≤ sizeLine; omega, x_nil ⟨by show 1 ≤ sizeLine; omega, fun p2 hp2 => x_gname ?_⟩⟩))⟩))))))
  have p12 : p1 ≠ p2 := fun z => by rw [← z, put_same] at hp2; cases hp2
  have hp2G : G p2 = none := by rw [put_ne (Ne.symm p12)] at hp2; exact hp2
  with_reducible refine x_seq ?_
  refine x_while (fun m r G' => ∃ (es : List En) (F : List T) (x3 x4 x5 x6 : Option T), r = [some t, some (.ref p1), some (.ref p2), x3, x4, x5, x6] ∧ G' p2 = some (.lst (es.map entT)) ∧ G' p1 = some (.lst F) ∧ Ext G G' ∧ (∀ e ∈ es, Tm e.1 e.2.2.1 ∧ e.2.1.length + e.1 ≤ n) ∧ (outs es).length = m ∧ F.length + m ≤ 40 ∧
      F ++ (outs es).reverse.map ptT = (allp n t [] []).reverse.map ptT)
    ⟨_, [(n, [], t, [])], [], none, none, none, none, rfl, put_same, get_new hp2 put_same, (Ext.new hp1).trans (Ext.new hp2), ?_, rfl, ?_, ?_⟩ ?_
  · intro e he
    rw [List.mem_singleton] at he
    subst he
    exact ⟨ht, by simp⟩
  · show 0 + (outs [(n, [], t, [])]).length ≤ 40
    unfold outs outE
    rw [List.flatMap_cons, List.flatMap_nil, List.append_nil]
    show 0 + (allp n t [] []).length ≤ 40
    omega
  · unfold outs outE
    rw [List.flatMap_cons, List.flatMap_nil, List.append_nil]
    rfl
  intro m r G1 ⟨es, F, x3, x4, x5, x6, er, e2, e1, f1, hes, em, hm, eF⟩
  subst er
  refine x_tru (x_var rfl ⟨_, tru_lst e2, ?_⟩)
  refine x_ite (fun q => ?_) (fun q => ?_)
  · have hne : es ≠ [] := fun e => by rw [e] at q; cases q
    obtain ⟨xs, e, rfl⟩ : ∃ xs u, es = xs ++ [u] := ⟨es.dropLast, es.getLast hne, (List.dropLast_concat_getLast hne).symm⟩
    obtain ⟨he, hd⟩ := hes e (by simp)
    have eF2 := rev_pop he eF
    have el := len_pop (xs := xs) he
    have hxs : ∀ v ∈ xs, Tm v.1 v.2.2.1 ∧ v.2.1.length + v.1 ≤ n := fun v hv => hes v (List.mem_append_left _ hv)
    have f2 : Ext G (Mi.put G1 p2 (.lst (xs.map entT))) := Ext.grow hp2G f1
    have e21 : Mi.put G1 p2 (.lst (xs.map entT)) p1 = some (.lst F) := by rw [put_ne p12]; exact e1
    have e22 : Mi.put G1 p2 (.lst (xs.map entT)) p2 = some (.lst (xs.map entT)) := put_same
    rw [List.map_append] at e2
    with_reducible refine x_seq ?_
    refine x_asg (x_bm0 (x_var rfl (x_tylst e2 (x_pop e2 ?_))))
    refine x_gtup rfl (x_gcons (x_gname (x_gcons (x_gname (x_gnil ?_)))))
    generalize Mi.put G1 p2 (.lst (xs.map entT)) = G2 at *
    with_reducible refine x_seq ?_
    refine x_expr (x_bm (x_var rfl (x_tylst e21 (x_cons (x_tup (x_cons (x_var rfl (x_cons (x_var rfl (x_nil ⟨by show 2 ≤ sizeLine; omega, x_nil (x_append e21 (by omega) ?_)⟩))))))))))
    have e31 : Mi.put G2 p1 (.lst (F ++ [.tup [plT e.2.1, e.2.2.1]])) p1 = some (.lst (F ++ [.tup [plT e.2.1, e.2.2.1]])) := put_same
    have e32 : Mi.put G2 p1 (.lst (F ++ [.tup [plT e.2.1, e.2.2.1]])) p2 = some (.lst (xs.map entT)) := by rw [put_ne (Ne.symm p12)]; exact e22
    have f3 : Ext G (Mi.put G2 p1 (.lst (F ++ [.tup [plT e.2.1, e.2.2.1]]))) := Ext.grow hp1 f2
    generalize Mi.put G2 p1 (.lst (F ++ [.tup [plT e.2.1, e.2.2.1]])) = G3 at *
    refine x_for (x_ienum (x_call (x_cons (x_var rfl (x_nil ?_)))))
    refine tp_ok (k := k) he fun pk G4 f4 hpk epk => ?_
    have k1 : p1 ≠ pk := fun z => by rw [← z, e31] at hpk; cases hpk
    have k2 : p2 ≠ pk := fun z => by rw [← z, e32] at hpk; cases hpk
    refine ⟨_, .inr (.inl (.inr ⟨pk, rfl, epk⟩)), ?_⟩
    have lks : (kidE e).length = (kidsT e.2.2.1).length := by unfold kidE; simp
    refine ⟨fun i r G' => ∃ (x5 x6 : Option T), r = [some t, some (.ref p1), some (.ref p2), some (plT e.2.1), some e.2.2.1, x5, x6] ∧ G' p2 = some (.lst ((xs ++ (kidE e).take i).map entT)) ∧ G' p1 = some (.lst (F ++ [.tup [plT e.2.1, e.2.2.1]])) ∧ G' pk = some (.lst (kidsT e.2.2.1)) ∧ Ext G G',
      ⟨x5, x6, rfl, by simpa using f4 _ _ e32, f4 _ _ e31, epk, f3.trans f4⟩, ?_, ?_, ?_⟩
    · intro i r G' ⟨x5, x6, w1, w2, w3, w4, w5⟩ q hq
      have : q = (pk, kidsT e.2.2.1) := by simpa [heldT] using hq
      subst this
      exact w4
    · intro i t2 r G' ht2 ⟨x5, x6, w1, w2, w3, w4, w5⟩
      subst w1
      obtain ⟨v, ev, rfl⟩ := enum_at ht2
      have ek : (kidE e)[i]? = some (e.1 - 1, e.2.1 ++ [i], v, e.2.2.2 ++ bndT e.2.2.1 i) := by
        unfold kidE
        rw [List.getElem?_mapIdx, ev]
        rfl
      have lo := outs_len (xs ++ kidE e)
      have lt : ((xs ++ (kidE e).take i).map entT).length ≤ (xs ++ kidE e).length := by
        rw [List.length_map, List.length_append, List.length_append, List.length_take]
        omega
      refine x_gtup rfl (x_gcons (x_gname (x_gcons (x_gname (x_gnil ?_)))))
      refine x_expr (x_bm (x_var rfl (x_tylst w2 (x_cons (x_tup (x_cons (x_op (x_var rfl (x_tup (x_cons (x_var rfl (x_nil ⟨by show 1 ≤ sizeLine; omega, ?_⟩))))))))))))
      refine x_catT (by rw [List.length_map]; show e.2.1.length + 1 ≤ sizeLine; omega) ?_
      rw [show (e.2.1.map fun i => T.int ((i : Nat) : Int)) ++ [T.int ((i : Nat) : Int)] = (e.2.1 ++ [i]).map fun i => T.int ((i : Nat) : Int) by rw [List.map_append]; rfl]
      refine x_cons (x_var rfl (x_nil ⟨by show 2 ≤ sizeLine; omega, x_nil (x_append w2 (by omega) ?_)⟩))
      refine fwd.of ⟨_, _, rfl, ?_, by rw [put_ne p12]; exact w3, by rw [put_ne (Ne.symm k2)]; exact w4, Ext.grow hp2G w5⟩
      have e7 : (xs ++ (kidE e).take (i + 1)).map entT = (xs ++ (kidE e).take i).map entT ++ [entT (e.1 - 1, e.2.1 ++ [i], v, e.2.2.2 ++ bndT e.2.2.1 i)] := by
        rw [List.take_succ, ek, ← List.append_assoc, List.map_append (l₁ := xs ++ (kidE e).take i)]
        rfl
      rw [put_same, e7]
      rfl
    · intro r G' ⟨x5, x6, w1, w2, w3, w4, w5⟩
      subst w1
      have w2 : G' p2 = some (.lst ((xs ++ (kidE e).take (enumT 0 (kidsT e.2.2.1)).length).map entT)) := w2
      rw [show (enumT 0 (kidsT e.2.2.1)).length = (kidE e).length by rw [lks]; simp [enumT], List.take_length] at w2
      refine fwd.of ⟨(outs (xs ++ kidE e)).length, by omega, xs ++ kidE e, _, _, _, _, _, rfl, w2, w3, w5, ?_, rfl, ?_, eF2⟩
      · intro v hv
        rcases List.mem_append.mp hv with z | z
        · exact hxs v z
        · obtain ⟨a, b⟩ := kidE_tm he z
          refine ⟨a, ?_⟩
          have : v.1 = e.1 - 1 := by
            unfold kidE at z
            rw [List.mem_mapIdx] at z
            obtain ⟨j, hj, rfl⟩ := z
            rfl
          have : 1 ≤ e.1 := by
            unfold kidE at z
            rw [List.mem_mapIdx] at z
            obtain ⟨j, hj, rfl⟩ := z
            obtain ⟨m, em, _⟩ := he.kid (List.getElem_mem hj)
            omega
          omega
      · rw [List.length_append, List.length_singleton]; omega
  · have e0 : es = [] := by
      cases es with
      | nil => rfl
      | cons a b => cases q
    subst e0
    have eF : F = (allp n t [] []).reverse.map ptT := by
      rw [← eF]
      show F = F ++ []
      rw [List.append_nil]
    dsimp only
    refine x_ret (x_rev (x_var rfl ⟨F, .inr ⟨p1, rfl, e1⟩, fun p hp => ?_⟩))
    refine fwdT.of (hR p _ (f1.none hp) ?_ (f1.trans (Ext.new hp)))
    rw [put_same, eF, ← List.map_reverse, List.reverse_reverse]
/-- the places -/
theorem placesOf_ok {k n : Nat} {t : T} {G : Gp} {R : KT} (ht : Tm n t) (hs : (allp n t [] []).length ≤ 40) (hn : n ≤ 900) (hR : ∀ p G', G p = none → G' p = some (.lst ((allp n t [] []).map fun p => plT p.1)) → Ext G G' → R (.ref p) G') : SP (k + 3) 2 [t] G R := by
  have szl := sizeLine_eq
  show spOf 3 1 (b2 (SP (k + 2))) _ _ _
  refine ⟨rfl, ?_⟩
  unfold b2
  refine x_ret (x_lc (x_iseq (x_call (x_cons (x_var rfl (x_nil ?_))))))
  refine placed_ok ht hs hn fun pp G1 hpp epp f1 => ?_
  refine ⟨_, .inr (.inl (.inr ⟨pp, rfl, epp⟩)), fun D hD => ?_⟩
  have nD : pp ≠ D := fun z => by rw [z, hD] at epp; cases epp
  refine ⟨fun i G' => G' D = some (.lst (((allp n t [] []).take i).map fun p => plT p.1)) ∧ Ext G1 G', ⟨by rw [put_same]; rfl, Ext.new hD⟩, ?_, ?_, ?_⟩
  · intro i G' ⟨w1, w2⟩ q hq
    have : q = (pp, (allp n t [] []).map ptT) := by simpa [heldT] using hq
    subst this
    exact w2 _ _ epp
  · intro i t2 G' ht2 ⟨w1, w2⟩
    have ht2 : ((allp n t [] []).map ptT)[i]? = some t2 := ht2
    rw [List.getElem?_map] at ht2
    cases e0 : (allp n t [] [])[i]? with
    | none => rw [e0] at ht2; cases ht2
    | some p =>
      rw [e0] at ht2
      cases ht2
      refine x_gtup rfl (x_gcons (x_gname (x_gcons (x_gname (x_gnil (x_yes (x_iteT rfl (x_var rfl ?_))))))))
      refine ⟨_, w1, by rw [List.length_map, List.length_take]; omega, fwdG.of ⟨?_, Ext.grow hD w2⟩⟩
      rw [put_same, List.take_succ, e0, List.map_append]
      rfl
  · intro G' ⟨w1, w2⟩
    have w1 : G' D = some (.lst (((allp n t [] []).take ((allp n t [] []).map ptT).length).map fun p => plT p.1)) := w1
    rw [List.length_map, List.take_length] at w1
    exact fwdT.of (hR D G' (f1.none hD) w1 (f1.trans w2))
end Lw

set_option Elab.async false
set_option linter.all false
set_option maxRecDepth 100000
set_option maxHeartbeats 1000000
namespace Lw
open PySem L2 Mi
local macro_rules | `(tactic| walk_at "get") => `(tactic| first | assumption | exact put_same | (refine get_new (by assumption) ?_; walk_at "get") | (refine get_ne (by assumption) ?_; walk_at "get"))
local macro_rules | `(tactic| walk_at "sq") => `(tactic| first | assumption | exact .inl rfl | exact .inr (.inl rfl) | exact .inr (.inr ⟨_, rfl, by walk_at "get"⟩))
local macro_rules | `(tactic| walk_at "size") => `(tactic| first | assumption | (simp only [List.length_cons, List.length_nil]; decide) | (have := sizeLine_eq; omega))
local macro_rules | `(tactic| walk_at "txt") => `(tactic| first | assumption | (simp only [Str.length, Str.cps_append, Array.size_append]; have := sizeLine_eq; omega))
local macro_rules | `(tactic| walk_at "go1") => `(tactic| first
  | ((with_reducible refine' x_var ?e ?_); (case e => with_unfolding_all rfl))
  | with_reducible refine x_seq ?_
  | with_reducible refine x_asg ?_
  | with_reducible refine x_if ?_
  | with_reducible refine x_ret ?_
  | with_reducible refine x_next ?_
  | with_reducible refine x_expr ?_
  | with_reducible refine x_gname ?_
  | with_reducible refine x_gcons ?_
  | with_reducible refine x_gnil ?_
  | with_reducible refine x_gsub ?_
  | with_reducible refine x_c ?_
  | with_reducible refine x_op ?_
  | with_reducible refine x_call ?_
  | with_reducible refine x_cons ?_
  | with_reducible refine x_nil ?_
  | with_reducible refine x_par ?_
  | with_reducible refine x_tup ?_
  | with_reducible refine x_lst ?_
  | with_reducible refine x_b ?_
  | with_reducible refine x_tru ?_
  | with_reducible refine x_not ?_
  | with_reducible refine x_or ?_
  | with_reducible refine x_and ?_
  | with_reducible refine x_ife ?_
  | with_reducible refine x_add ?_
  | with_reducible refine x_sub ?_
  | with_reducible refine x_gtI ?_
  | with_reducible refine x_ltI ?_
  | with_reducible refine x_geI ?_
  | with_reducible refine x_leI ?_
  | with_reducible refine x_abs ?_
  | with_reducible refine x_intb ?_
  | with_reducible refine x_for ?_
  | with_reducible refine x_irange ?_
  | with_reducible refine x_lc ?_
  | with_reducible refine x_yes ?_
  | with_reducible refine x_bm ?_
  | with_reducible refine x_bm0 ?_
  | with_reducible refine x_andv ?_
  | with_reducible refine x_orv ?_
  | with_reducible refine x_notv ?_
  | with_reducible refine x_eqI ?_
  | with_reducible refine x_tystr ?_
  | ((with_reducible refine' x_gtup ?e ?_); (case e => with_unfolding_all rfl))
  | ((with_reducible refine' x_pow ?e ?_); (case e => exact ⟨by decide, by decide, by decide⟩))
  | ((with_reducible refine' x_ix ?e ?q ?_); (case e => walk_at "get"); (case q => with_unfolding_all rfl))
  | ((with_reducible refine' x_ixt ?q ?_); (case q => with_unfolding_all rfl))
  | ((with_reducible refine' x_sto ?e ?q ?_); (case e => walk_at "get"); (case q => with_unfolding_all rfl))
  | ((with_reducible refine' x_adds ?e ?_); (case e => walk_at "txt"))
  | ((with_reducible refine' x_muls ?e ?f ?g ?_); (case e => omega); (case f => omega); (case g => walk_at "txt"))
  | ((with_reducible refine' x_divmod ?e ?_); (case e => exact ⟨by omega, by omega⟩))
  | ((with_reducible refine' x_mod ?e ?_); (case e => omega))
  | ((with_reducible refine' x_fdivC ?e ?f ?_); (case e => omega); (case f => omega))
  | ((with_reducible refine' x_mulL ?e ?f ?_); (case e => omega); (case f => omega))
  | ((with_reducible refine' x_mulR ?e ?f ?_); (case e => omega); (case f => omega))
  | ((with_reducible refine' x_len ?e ?_); (case e => walk_at "sq"))
  | ((with_reducible refine' x_range ?e ?f ?_); (case e => omega); (case f => omega))
  | ((with_reducible refine' x_tylst ?e ?_); (case e => walk_at "get"))
  | ((with_reducible refine' x_append ?e ?f ?_); (case e => walk_at "get"); (case f => walk_at "size"))
  | ((with_reducible refine' And.intro ?e ?_); (case e => (show _ ≤ sizeLine; walk_at "size")))
  | ((with_reducible refine' Exists.intro _ (And.intro ?e ?_)); (case e => with_unfolding_all rfl)))
/-! ### what is bound where a part stands -/
theorem putT_keys {kvs : List (Key × T)} {k k' : Key} {t : T} : k' ∈ (putT kvs k t).map (·.1) ↔ k' = k ∨ k' ∈ kvs.map (·.1) := by
  unfold putT
  split
  · rename_i h
    have e : (kvs.map fun kv => if kv.1 = k then (kv.1, t) else kv).map (·.1) = kvs.map (·.1) := by
      rw [List.map_map]
      refine List.map_congr_left fun kv _ => ?_
      show (if kv.1 = k then (kv.1, t) else kv).1 = kv.1
      split <;> rfl
    rw [e]
    constructor
    · exact .inr
    · rintro (rfl | q)
      · obtain ⟨kv, hkv, he⟩ := List.any_eq_true.mp h
        exact List.mem_map.mpr ⟨kv, hkv, of_decide_eq_true he⟩
      · exact q
  · rw [List.map_append, List.mem_append]
    simp [or_comm]
theorem putT_vals {kvs : List (Key × T)} {k : Key} {t : T} {P : T → Prop} (h : ∀ p ∈ kvs, P p.2) (ht : P t) : ∀ p ∈ putT kvs k t, P p.2 := by
  unfold putT
  split
  · intro p hp
    obtain ⟨kv, hkv, rfl⟩ := List.mem_map.mp hp
    split
    · exact ht
    · exact h kv hkv
  · intro p hp
    rcases List.mem_append.mp hp with q | q
    · exact h p q
    · rw [List.mem_singleton] at q
      subst q
      exact ht
theorem putT_len {kvs : List (Key × T)} {k : Key} {t : T} : (putT kvs k t).length ≤ kvs.length + 1 := by
  unfold putT
  split
  · rw [List.length_map]; omega
  · rw [List.length_append]; exact Nat.le_refl _
theorem mergeT_keys : ∀ {more kvs : List (Key × T)} {k : Key}, k ∈ (mergeT kvs more).map (·.1) ↔ k ∈ kvs.map (·.1) ∨ k ∈ more.map (·.1)
  | [], kvs, k => by simp [mergeT]
  | p :: more, kvs, k => by
    show k ∈ (mergeT (putT kvs p.1 p.2) more).map (·.1) ↔ _
    rw [mergeT_keys, putT_keys, List.map_cons, List.mem_cons]
    constructor
    · rintro ((q | q) | q)
      · exact .inr (.inl q)
      · exact .inl q
      · exact .inr (.inr q)
    · rintro (q | q | q)
      · exact .inl (.inr q)
      · exact .inl (.inl q)
      · exact .inr q
theorem mergeT_vals {P : T → Prop} : ∀ {more kvs : List (Key × T)}, (∀ p ∈ kvs, P p.2) → (∀ p ∈ more, P p.2) → ∀ p ∈ mergeT kvs more, P p.2
  | [], kvs, h, _ => h
  | q :: more, kvs, h, h2 => mergeT_vals (more := more) (putT_vals h (h2 q List.mem_cons_self)) fun p hp => h2 p (List.mem_cons_of_mem _ hp)
theorem mergeT_len : ∀ {more kvs : List (Key × T)}, (mergeT kvs more).length ≤ kvs.length + more.length
  | [], kvs => Nat.le_refl _
  | q :: more, kvs => by
    have a := mergeT_len (more := more) (kvs := putT kvs q.1 q.2)
    have b := putT_len (kvs := kvs) (k := q.1) (t := q.2)
    show (mergeT (putT kvs q.1 q.2) more).length ≤ _
    rw [List.length_cons]
    omega
theorem lookT_in {kvs : List (Key × T)} {k : Key} (h : k ∈ kvs.map (·.1)) : ∃ v, lookT kvs k = some v ∧ ∃ p ∈ kvs, p.2 = v := by
  unfold lookT
  cases e : kvs.find? fun kv => decide (kv.1 = k) with
  | some p => exact ⟨p.2, rfl, p, List.mem_of_find?_eq_some e, rfl⟩
  | none =>
    obtain ⟨p, hp, rfl⟩ := List.mem_map.mp h
    have := List.find?_eq_none.mp e p hp
    simp at this
theorem lookT_out {kvs : List (Key × T)} {k : Key} (h : k ∉ kvs.map (·.1)) : lookT kvs k = none := by
  unfold lookT
  rw [List.find?_eq_none.mpr]
  · rfl
  · intro p hp q
    exact h (List.mem_map.mpr ⟨p, hp, of_decide_eq_true q⟩)
/-- a dict that has the bound names -/
def Sc (G : Gp) (d : Addr) (bs : List Str) : Prop := ∃ kvs, G d = some (.dK kvs) ∧ kvs.length ≤ bs.length ∧ (∀ x : Str, (.inr x : Key) ∈ kvs.map (·.1) ↔ x ∈ bs) ∧ ∀ p ∈ kvs, ∃ i, p.2 = T.int i
theorem Sc.ext {G G' : Gp} {d : Addr} {bs : List Str} (f : Ext G G') (h : Sc G d bs) : Sc G' d bs := by
  obtain ⟨kvs, a, b⟩ := h
  exact ⟨kvs, f _ _ a, b⟩
theorem Sc.put {G : Gp} {d p : Addr} {xs ys : List T} {bs : List Str} (e : G p = some (.lst xs)) (h : Sc G d bs) : Sc (Mi.put G p (.lst ys)) d bs := by
  obtain ⟨kvs, a, b⟩ := h
  refine ⟨kvs, ?_, b⟩
  rw [put_ne (fun z => by rw [z, e] at a; cases a)]
  exact a
theorem x_merge {r : Mi.Env} {G : Gp} {d : Addr} {bs : List Str} {x : Str} {i : Int} {mk mv : ME} {R : KT} (h8 : r[8]? = some (some (.ref d))) (hs : Sc G d bs) (hl : bs.length ≤ 1000)
    (hk : ∀ (G1 : Gp) (K : KT), Ext G G1 → K (.str x) G1 → mk r G1 K) (hv : ∀ (G1 : Gp) (K : KT), Ext G G1 → K (.int i) G1 → mv r G1 K)
    (h : ∀ p G', Ext G G' → G p = none → Sc G' p (bs ++ [x]) → R (.ref p) G') : mMerge (mVar 8) mk mv r G R := by
  have szl := sizeLine_eq
  obtain ⟨kvs, e, l, ks, vs⟩ := hs
  intro p hp
  have pd : p ≠ d := fun z => by rw [z, e] at hp; cases hp
  refine x_var h8 ⟨d, kvs, rfl, pd, get_new hp e, put_same, by omega, fun q hq => ?_⟩
  have pq : p ≠ q := fun z => by rw [z, put_same] at hq; cases hq
  have f1 : Ext G (Mi.put (Mi.put G p (.dK [])) p (.dK (mergeT [] kvs))) := Ext.grow hp (Ext.new hp)
  have hqG : G q = none := f1.none hq
  have f2 : Ext G (Mi.put (Mi.put (Mi.put G p (.dK [])) p (.dK (mergeT [] kvs))) q (.dK [])) := f1.trans (Ext.new hq)
  refine hk _ _ f2 (hv _ _ f2 ⟨.inr x, rfl, put_same, get_new hq put_same, ?_⟩)
  refine h p _ (Ext.grow hp (Ext.grow hqG f2)) hp ⟨_, put_same, ?_, fun y => ?_, putT_vals (P := fun v => ∃ i, v = T.int i) (mergeT_vals (P := fun v => ∃ i, v = T.int i) (fun _ z => (List.not_mem_nil z).elim) vs) ⟨i, rfl⟩⟩
  · have a := putT_len (kvs := mergeT [] kvs) (k := .inr x) (t := .int i)
    have b := mergeT_len (more := kvs) (kvs := [])
    rw [List.length_nil] at b
    rw [List.length_append, List.length_singleton]
    omega
  · rw [putT_keys, mergeT_keys, List.mem_append, List.mem_singleton, ks y]
    constructor
    · rintro (q | q | q)
      · exact .inr (Sum.inr.inj q)
      · cases q
      · exact .inl q
    · rintro (q | q)
      · exact .inr (.inr q)
      · exact .inl (by rw [q])
theorem enumK_at {ts : List T} {i : Nat} {c : Int} {t : T} (h : (enumT c ts)[i]? = some t) : ∃ u, ts[i]? = some u ∧ t = .tup [.int (c + (i : Nat)), u] := by
  unfold enumT at h
  rw [List.getElem?_mapIdx] at h
  cases e : ts[i]? with
  | none => rw [e] at h; cases h
  | some u =>
    rw [e] at h
    exact ⟨u, rfl, (Option.some.inj h).symm⟩
theorem rev_pop0 {D W : List Pt} {xs : List En} {e : En} (h : Tm e.1 e.2.2.1) (w : D ++ (outs (xs ++ [e])).reverse = W) : (D ++ [(e.2.1, e.2.2.1, e.2.2.2)]) ++ (outs (xs ++ kidE e)).reverse = W := by
  rw [outs_pop h, List.reverse_append] at w
  rw [← w]
  simp
/-- a part and what it is bound to -/
def Wh (p : Pt) (v : T) : Prop := ∃ wv, v = .tup [p.2.1, wv] ∧ ∀ x, p.2.1 = .tup [.str "name", .str x] → wv.isN = !decide (x ∈ p.2.2)
def entD (z : En × Addr) : T := .tup [z.1.2.2.1, .ref z.2]
/-- a stack and its dicts -/
structure Stk (G : Gp) (p6 : Addr) (zs : List (En × Addr)) : Prop where
  at_ : G p6 = some (.lst (zs.map entD))
  sc : ∀ z ∈ zs, Sc G z.2 z.1.2.2.2
theorem Stk.ext {G G' : Gp} {p6 : Addr} {zs : List (En × Addr)} (f : Ext G G') (h : Stk G p6 zs) : Stk G' p6 zs := ⟨f _ _ h.at_, fun z hz => (h.sc z hz).ext f⟩
theorem Stk.put {G : Gp} {p6 p : Addr} {xs ys : List T} {zs : List (En × Addr)} (n : p6 ≠ p) (e : G p = some (.lst xs)) (h : Stk G p6 zs) : Stk (Mi.put G p (.lst ys)) p6 zs := ⟨by rw [put_ne n]; exact h.at_, fun z hz => (h.sc z hz).put e⟩
theorem Stk.push {G : Gp} {p6 : Addr} {zs : List (En × Addr)} {z : En × Addr} (h : Stk G p6 zs) (hz : Sc G z.2 z.1.2.2.2) : Stk (Mi.put G p6 (.lst (zs.map entD ++ [entD z]))) p6 (zs ++ [z]) :=
  ⟨by rw [put_same, List.map_append]; rfl, fun y hy => by
    rcases List.mem_append.mp hy with q | q
    · exact (h.sc y q).put h.at_
    · rw [List.mem_singleton.mp q]; exact hz.put h.at_⟩
theorem Stk.pop {G : Gp} {p6 : Addr} {zs : List (En × Addr)} {z : En × Addr} (h : Stk G p6 (zs ++ [z])) : Stk (Mi.put G p6 (.lst (zs.map entD))) p6 zs ∧ Sc (Mi.put G p6 (.lst (zs.map entD))) z.2 z.1.2.2.2 :=
  ⟨⟨put_same, fun y hy => (h.sc y (List.mem_append_left _ hy)).put h.at_⟩, (h.sc z (by simp)).put h.at_⟩
theorem isDctK {G : Gp} {a : Addr} {kvs : List (Key × T)} (e : G a = some (.dK kvs)) : isDct G a := .inl ⟨kvs, e⟩
end Lw

set_option Elab.async false
set_option linter.all false
set_option maxRecDepth 100000
set_option maxHeartbeats 1000000
namespace Lw
open PySem L2 Mi
local macro_rules | `(tactic| walk_at "get") => `(tactic| first | assumption | exact put_same | (refine get_new (by assumption) ?_; walk_at "get") | (refine get_ne (by assumption) ?_; walk_at "get"))
local macro_rules | `(tactic| walk_at "sq") => `(tactic| first | assumption | exact .inl rfl | exact .inr (.inl rfl) | exact .inr (.inr ⟨_, rfl, by walk_at "get"⟩))
local macro_rules | `(tactic| walk_at "size") => `(tactic| first | assumption | (simp only [List.length_cons, List.length_nil]; decide) | (have := sizeLine_eq; omega))
local macro_rules | `(tactic| walk_at "txt") => `(tactic| first | assumption | (simp only [Str.length, Str.cps_append, Array.size_append]; have := sizeLine_eq; omega))
local macro_rules | `(tactic| walk_at "go1") => `(tactic| first
  | ((with_reducible refine' x_var ?e ?_); (case e => with_unfolding_all rfl))
  | with_reducible refine x_seq ?_
  | with_reducible refine x_asg ?_
  | with_reducible refine x_if ?_
  | with_reducible refine x_ret ?_
  | with_reducible refine x_next ?_
  | with_reducible refine x_expr ?_
  | with_reducible refine x_gname ?_
  | with_reducible refine x_gcons ?_
  | with_reducible refine x_gnil ?_
  | with_reducible refine x_gsub ?_
  | with_reducible refine x_c ?_
  | with_reducible refine x_op ?_
  | with_reducible refine x_call ?_
  | with_reducible refine x_cons ?_
  | with_reducible refine x_nil ?_
  | with_reducible refine x_par ?_
  | with_reducible refine x_tup ?_
  | with_reducible refine x_lst ?_
  | with_reducible refine x_b ?_
  | with_reducible refine x_tru ?_
  | with_reducible refine x_not ?_
  | with_reducible refine x_or ?_
  | with_reducible refine x_and ?_
  | with_reducible refine x_ife ?_
  | with_reducible refine x_add ?_
  | with_reducible refine x_sub ?_
  | with_reducible refine x_gtI ?_
  | with_reducible refine x_ltI ?_
  | with_reducible refine x_geI ?_
  | with_reducible refine x_leI ?_
  | with_reducible refine x_abs ?_
  | with_reducible refine x_intb ?_
  | with_reducible refine x_for ?_
  | with_reducible refine x_irange ?_
  | with_reducible refine x_lc ?_
  | with_reducible refine x_yes ?_
  | with_reducible refine x_bm ?_
  | with_reducible refine x_bm0 ?_
  | with_reducible refine x_andv ?_
  | with_reducible refine x_orv ?_
  | with_reducible refine x_notv ?_
  | with_reducible refine x_eqI ?_
  | with_reducible refine x_tystr ?_
  | ((with_reducible refine' x_gtup ?e ?_); (case e => with_unfolding_all rfl))
  | ((with_reducible refine' x_pow ?e ?_); (case e => exact ⟨by decide, by decide, by decide⟩))
  | ((with_reducible refine' x_ix ?e ?q ?_); (case e => walk_at "get"); (case q => with_unfolding_all rfl))
  | ((with_reducible refine' x_ixt ?q ?_); (case q => with_unfolding_all rfl))
  | ((with_reducible refine' x_sto ?e ?q ?_); (case e => walk_at "get"); (case q => with_unfolding_all rfl))
  | ((with_reducible refine' x_adds ?e ?_); (case e => walk_at "txt"))
  | ((with_reducible refine' x_muls ?e ?f ?g ?_); (case e => omega); (case f => omega); (case g => walk_at "txt"))
  | ((with_reducible refine' x_divmod ?e ?_); (case e => exact ⟨by omega, by omega⟩))
  | ((with_reducible refine' x_mod ?e ?_); (case e => omega))
  | ((with_reducible refine' x_fdivC ?e ?f ?_); (case e => omega); (case f => omega))
  | ((with_reducible refine' x_mulL ?e ?f ?_); (case e => omega); (case f => omega))
  | ((with_reducible refine' x_mulR ?e ?f ?_); (case e => omega); (case f => omega))
  | ((with_reducible refine' x_len ?e ?_); (case e => walk_at "sq"))
  | ((with_reducible refine' x_range ?e ?f ?_); (case e => omega); (case f => omega))
  | ((with_reducible refine' x_tylst ?e ?_); (case e => walk_at "get"))
  | ((with_reducible refine' x_append ?e ?f ?_); (case e => walk_at "get"); (case f => walk_at "size"))
  | ((with_reducible refine' And.intro ?e ?_); (case e => (show _ ≤ sizeLine; walk_at "size")))
  | ((with_reducible refine' Exists.intro _ (And.intro ?e ?_)); (case e => with_unfolding_all rfl)))
theorem x_isN {t : T} {G : Gp} {R : KT} (h : R (.bl t.isN) G) : oIsN t .non G R := ⟨rfl, h⟩
theorem x_get1 {mo me : ME} {r : Mi.Env} {G : Gp} {R : KT} (h : mo r G fun s G1 => ∃ a, s = .ref a ∧ isDct G1 a ∧ me r G1 fun t G2 => ∃ u, gtT G2 a t u ∧ R (u.getD .non) G2) : mGet1 mo me r G R := h
theorem x_get1E {mo me : ME} {r : Mi.Env} {G : Gp} {R : KT} (h : mo r G fun s G1 => ∃ a, s = .ref a ∧ isDct G1 a ∧ me r G1 fun t G2 => ∃ u, gtTE G2 a t u ∧ R (u.getD .non) G2) : mGet1E mo me r G R := h
theorem x_augI {i : Nat} {m : ME} {M : MEnds} {r : Mi.Env} {G : Gp} (h : ∃ x, r[i]? = some (some (.int x)) ∧ m r G fun t G1 => ∃ y, t = .int y ∧ M.nx (r.set i (some (.int (x + y)))) G1) : msAugI i m M r G := h
theorem x_ienumK {m m2 : ME} {r : Mi.Env} {G : Gp} {N : MIt → Gp → Prop} (h : m r G fun t G1 => m2 r G1 fun u G2 => ∃ ts c, srcT G2 t ts ∧ u = .int c ∧ 0 ≤ c ∧ c ≤ 1000000 ∧ N ⟨enumT c ts, heldT t ts⟩ G2) : miEnumK m m2 r G N := h
abbrev bEnv (t : T) (pk pa p4 p6 : Addr) (fr : Int) (x7 x8 x9 x10 x11 x12 x13 : Option T) : Mi.Env := [some t, some (.int 0), some (.ref pk), some (.ref pa), some (.ref p4), some (.int fr), some (.ref p6), x7, x8, x9, x10, x11, x12, x13]
def bBranch (S : Nat → Sm) : MS := (msIf (mB (mOp oEq (mVar 9) (mC (.str "name")))) (msSeq (msAsg (mGet1 (mVar 8) (mOp oIx (mVar 7) (mC (.int 1)))) (mgName 10)) (msIf (mB (mOp oIsN (mVar 10) (mC .non))) (msAsg (mGet1 (mVar 2) (mOp oIx (mVar 7) (mC (.int 1)))) (mgName 10)) msNext)) (msIf (mB (mOp oEq (mVar 9) (mC (.str "from")))) (msAsg (mGet1E (mVar 2) (mTup (maCons (mOp oIx (mVar 7) (mC (.int 1))) (maCons (mOp oIx (mVar 7) (mC (.int 2))) maNil)))) (mgName 10)) (msIf (mB (mOp oEq (mVar 9) (mC (.str "fun")))) (msSeq (msAsg (mVar 5) (mgName 10)) (msSeq (msAugI 5 (mC (.int 1))) (msExpr (mBm "list" omAppend (mVar 6) (maCons (mTup (maCons (mOp oIx (mVar 7) (mC (.int 2))) (maCons (mMerge (mVar 8) (mOp oIx (mVar 7) (mC (.int 1))) (mVar 10)) maNil))) maNil))))) (msIf (mB (mOp oEq (mVar 9) (mC (.str "case")))) (msSeq (msAsg (mVar 5) (mgName 10)) (msSeq (msAugI 5 (mCall omLen (maCons (mOp oIx (mVar 7) (mC (.int 2))) maNil))) (msSeq (msExpr (mBm "list" omAppend (mVar 6) (maCons (mTup (maCons (mOp oIx (mVar 7) (mC (.int 1))) (maCons (mVar 8) maNil))) maNil))) (msFor (miEnumK (mOp oIx (mVar 7) (mC (.int 2))) (mVar 10)) (mgTup 2 (mgCons (mgName 11) (mgCons (mgName 12) mgNil))) (msExpr (mBm "list" omAppend (mVar 6) (maCons (mTup (maCons (mOp oIx (mVar 12) (mC (.int 2))) (maCons (mMerge (mVar 8) (mOp oIx (mVar 12) (mC (.int 1))) (mVar 11)) maNil))) maNil))))))) (msFor (miSeq (mCall (S 0) (maCons (mVar 7) maNil))) (mgName 13) (msExpr (mBm "list" omAppend (mVar 6) (maCons (mTup (maCons (mVar 13) (maCons (mVar 8) maNil))) maNil))))))))
theorem branch_ok {k n : Nat} {t u : T} {w : Str} {rest : List T} {π : List Nat} {bs : List Str} {pk pa p4 p6 d : Addr} {fr : Int} {x11 x12 x13 : Option T} {zs : List (En × Addr)} {F : List T} {G0 G : Gp} {M : MEnds} (et : u = .tup (.str w :: rest)) (cw : SeqAt.shaped (.str w) = true) (hu : Tm n u)
    (hS : Stk G p6 zs) (hd : Sc G d bs) (hk : G pk = some (.dK [])) (h4 : G p4 = some (.lst F)) (f0 : Ext G0 G) (n6 : G0 p6 = none) (n46 : p4 ≠ p6) (hz : zs.length ≤ 40) (hb : bs.length ≤ 900) (hf0 : 0 ≤ fr) (hf1 : fr ≤ 100000)
    (main : ∀ fr' wv y11 y12 y13 zs' G', fr ≤ fr' → fr' ≤ fr + 5 → zs'.map (·.1) = kidE (n, π, u, bs) → Stk G' p6 (zs ++ zs') → G' pk = some (.dK []) → G' p4 = some (.lst F) → Ext G0 G' → Wh (π, u, bs) (.tup [u, wv]) →
      M.nx (bEnv t pk pa p4 p6 fr' (some u) (some (.ref d)) (some (.str w)) (some wv) y11 y12 y13) G') :
    bBranch (SP (k + 1)) M (bEnv t pk pa p4 p6 fr (some u) (some (.ref d)) (some (.str w)) (some .non) x11 x12 x13) G := by
  have szl := sizeLine_eq
  have sn : SeqAt.shaped (.str "name") = true := by decide +kernel
  have sf : SeqAt.shaped (.str "from") = true := by decide +kernel
  have su : SeqAt.shaped (.str "fun") = true := by decide +kernel
  have sc : SeqAt.shaped (.str "case") = true := by decide +kernel
  have whn : ∀ wv, w ≠ "name" → Wh (π, u, bs) (.tup [u, wv]) := fun wv h => ⟨wv, rfl, fun x e => by
    subst et
    have e : T.tup (.str w :: rest) = .tup [.str "name", .str x] := e
    cases e
    exact absurd rfl h⟩
  have lz : (zs.map entD).length ≤ 40 := by rw [List.length_map]; exact hz
  have pk6 : pk ≠ p6 := fun z => by rw [z, hS.at_] at hk; cases hk
  unfold bBranch
  with_reducible refine x_if ?_
  refine hd_test rfl cw sn ?_
  cases hu.shp with
  | name a =>
    rename_i x
    cases et
    refine x_iteT (by decide +kernel) ?_
    obtain ⟨kvs, e, l, ks, vs⟩ := hd
    with_reducible refine x_seq ?_
    refine x_asg (x_get1 (x_var rfl ⟨d, rfl, isDctK e, x_op (x_var rfl (x_c (x_ixt (show atI [T.str "name", .str x] 1 = some (.str x) from rfl) ⟨lookT kvs (.inr x), .inl ⟨kvs, .inr x, e, rfl, rfl⟩, x_gname ?_⟩)))⟩))
    have hx := ks x
    have kid0 : kidE (n, π, .tup [.str "name", .str x], bs) = [] := by unfold kidE; rw [kids_name]; rfl
    with_reducible refine x_if ?_
    refine x_b (x_op (x_var rfl (x_c (x_isN ⟨_, rfl, ?_⟩))))
    by_cases q : x ∈ bs
    · obtain ⟨v, ev, p, hp, hv⟩ := lookT_in (hx.mpr q)
      obtain ⟨i, ei⟩ := vs p hp
      rw [hv] at ei
      subst ei
      rw [ev]
      refine x_iteF rfl (x_next ?_)
      exact main fr _ _ _ _ [] G (by omega) (by omega) (by rw [kid0]; rfl) (by simpa using hS) hk h4 f0 ⟨_, rfl, fun y e => by cases e; show false = !decide (x ∈ bs); rw [decide_eq_true q]; rfl⟩
    · rw [lookT_out (fun z => q (hx.mp z))]
      refine x_iteT rfl (x_asg (x_get1 (x_var rfl ⟨pk, rfl, isDctK hk, x_op (x_var rfl (x_c (x_ixt (show atI [T.str "name", .str x] 1 = some (.str x) from rfl) ⟨none, .inl ⟨[], .inr x, hk, rfl, rfl⟩, x_gname ?_⟩)))⟩)))
      exact main fr _ _ _ _ [] G (by omega) (by omega) (by rw [kid0]; rfl) (by simpa using hS) hk h4 f0 ⟨_, rfl, fun y e => by cases e; show true = !decide (x ∈ bs); rw [decide_eq_false q]; rfl⟩
  | frm a b =>
    rename_i m x
    cases et
    refine x_iteF (by decide +kernel) ?_
    with_reducible refine x_if ?_
    refine hd_test rfl cw sf (x_iteT (by decide +kernel) ?_)
    have kid0 : kidE (n, π, .tup [.str "from", .str m, .str x], bs) = [] := by unfold kidE; rw [kids_frm]; rfl
    refine x_asg (x_get1E (x_var rfl ⟨pk, rfl, isDctK hk, x_tup (x_cons (x_op (x_var rfl (x_c (x_ixt (show atI [T.str "from", .str m, .str x] 1 = some (.str m) from rfl) (x_cons (x_op (x_var rfl (x_c (x_ixt (show atI [T.str "from", .str m, .str x] 2 = some (.str x) from rfl) (x_nil ⟨by show 2 ≤ sizeLine; omega, none, .inr ⟨hk, rfl, [.inr m, .inr x], rfl⟩, x_gname ?_⟩)))))))))))⟩))
    exact main fr _ _ _ _ [] G (by omega) (by omega) (by rw [kid0]; rfl) (by simpa using hS) hk h4 f0 (whn _ (by decide +kernel))
  | fn a b =>
    rename_i n x v
    cases et
    refine x_iteF (by decide +kernel) ?_
    with_reducible refine x_if ?_
    refine hd_test rfl cw sf (x_iteF (by decide +kernel) ?_)
    with_reducible refine x_if ?_
    refine hd_test rfl cw su (x_iteT (by decide +kernel) ?_)
    with_reducible refine x_seq ?_
    refine x_asg (x_var rfl (x_gname ?_))
    with_reducible refine x_seq ?_
    refine x_augI ⟨fr, rfl, x_c ⟨1, rfl, ?_⟩⟩
    have kid1 : kidE (n + 1, π, .tup [.str "fun", .str x, v], bs) = [(n, π ++ [0], v, bs ++ [x])] := by
      unfold kidE
      rw [kids_fn]
      show [(n + 1 - 1, π ++ [0], v, bs ++ bndT (T.tup [.str "fun", .str x, v]) 0)] = _
      rw [bnd_fn]
      rfl
    refine x_expr (x_bm (x_var rfl (x_tylst hS.at_ (x_cons (x_tup (x_cons (x_op (x_var rfl (x_c (x_ixt (show atI [T.str "fun", .str x, v] 2 = some v from rfl) (x_cons ?_)))))))))))
    refine x_merge (x := x) (i := fr) rfl hd (by omega) (fun G1 K f k => x_op (x_var rfl (x_c (x_ixt (show atI [T.str "fun", .str x, v] 1 = some (.str x) from rfl) k)))) (fun G1 K f k => x_var rfl k) fun p G1 f1 hp s1 => ?_
    have hS1 := hS.ext f1
    refine x_nil ⟨by show 2 ≤ sizeLine; omega, x_nil (x_append hS1.at_ (by omega) ?_)⟩
    have hS2 := hS1.push (z := ((n, π ++ [0], v, bs ++ [x]), p)) s1
    exact main (fr + 1) _ _ _ _ [((n, π ++ [0], v, bs ++ [x]), p)] _ (by omega) (by omega) (by rw [kid1]; rfl) hS2 (by rw [put_ne pk6]; exact f1 _ _ hk) (by rw [put_ne n46]; exact f1 _ _ h4) (Ext.grow n6 (f0.trans f1)) (whn _ (by decide +kernel))
  | case hl a b c =>
    rename_i n v ps
    cases et
    refine x_iteF (by decide +kernel) ?_
    with_reducible refine x_if ?_
    refine hd_test rfl cw sf (x_iteF (by decide +kernel) ?_)
    with_reducible refine x_if ?_
    refine hd_test rfl cw su (x_iteF (by decide +kernel) ?_)
    with_reducible refine x_if ?_
    refine hd_test rfl cw sc (x_iteT (by decide +kernel) ?_)
    have ix1 : atI [T.str "case", v, .tup (ps.map fun p => T.tup [.str p.1, .str p.2.1, p.2.2])] 1 = some v := rfl
    have ix2 : atI [T.str "case", v, .tup (ps.map fun p => T.tup [.str p.1, .str p.2.1, p.2.2])] 2 = some (.tup (ps.map fun p => T.tup [.str p.1, .str p.2.1, p.2.2])) := rfl
    with_reducible refine x_seq ?_
    refine x_asg (x_var rfl (x_gname ?_))
    with_reducible refine x_seq ?_
    refine x_augI ⟨fr, rfl, x_call (x_cons (x_op (x_var rfl (x_c (x_ixt ix2 (x_nil (x_len (.inl rfl) ⟨_, rfl, ?_⟩)))))))⟩
    rw [List.length_map]
    have lk : (kidE (n + 1, π, .tup [.str "case", v, .tup (ps.map fun p => T.tup [.str p.1, .str p.2.1, p.2.2])], bs)).length = ps.length + 1 := by
      unfold kidE
      rw [List.length_mapIdx, kids_case, List.length_cons, List.length_map]
    have k0 : (kidE (n + 1, π, .tup [.str "case", v, .tup (ps.map fun p => T.tup [.str p.1, .str p.2.1, p.2.2])], bs))[0]? = some (n, π ++ [0], v, bs) := by
      unfold kidE
      rw [List.getElem?_mapIdx, kids_case]
      show some (n + 1 - 1, π ++ [0], v, bs ++ bndT _ 0) = _
      rw [bnd_case0, List.append_nil]
      rfl
    have kj : ∀ j p, ps[j]? = some p → (kidE (n + 1, π, .tup [.str "case", v, .tup (ps.map fun p => T.tup [.str p.1, .str p.2.1, p.2.2])], bs))[j + 1]? = some (n, π ++ [j + 1], p.2.2, bs ++ [p.2.1]) := fun j p e => by
      unfold kidE
      rw [List.getElem?_mapIdx, kids_case, List.getElem?_cons_succ, List.getElem?_map, e]
      show some (n + 1 - 1, π ++ [j + 1], p.2.2, bs ++ bndT _ (j + 1)) = _
      rw [bnd_case e]
      rfl
    generalize kidE (n + 1, π, .tup [.str "case", v, .tup (ps.map fun p => T.tup [.str p.1, .str p.2.1, p.2.2])], bs) = ke at lk k0 kj main
    with_reducible refine x_seq ?_
    refine x_expr (x_bm (x_var rfl (x_tylst hS.at_ (x_cons (x_tup (x_cons (x_op (x_var rfl (x_c (x_ixt ix1 (x_cons (x_var rfl (x_nil ⟨by show 2 ≤ sizeLine; omega, x_nil (x_append hS.at_ (by omega) ?_)⟩)))))))))))))
    have hS2 : Stk (Mi.put G p6 (.lst (zs.map entD ++ [T.tup [v, .ref d]]))) p6 (zs ++ [((n, π ++ [0], v, bs), d)]) := hS.push (z := ((n, π ++ [0], v, bs), d)) hd
    have hd2 : Sc (Mi.put G p6 (.lst (zs.map entD ++ [T.tup [v, .ref d]]))) d bs := hd.put hS.at_
    have hk2 : Mi.put G p6 (.lst (zs.map entD ++ [T.tup [v, .ref d]])) pk = some (.dK []) := by rw [put_ne pk6]; exact hk
    have h42 : Mi.put G p6 (.lst (zs.map entD ++ [T.tup [v, .ref d]])) p4 = some (.lst F) := by rw [put_ne n46]; exact h4
    have f02 : Ext G0 (Mi.put G p6 (.lst (zs.map entD ++ [T.tup [v, .ref d]]))) := Ext.grow n6 f0
    dsimp only
    generalize Mi.put G p6 (.lst (zs.map entD ++ [T.tup [v, .ref d]])) = G2 at *
    refine x_for (x_ienumK (x_op (x_var rfl (x_c (x_ixt ix2 (x_var rfl ⟨_, fr, .inl rfl, rfl, by omega, by omega, ?_⟩))))))
    refine ⟨fun i r G' => ∃ (y11 y12 : Option T) (zs' : List (En × Addr)), r = bEnv t pk pa p4 p6 (fr + ((ps.length : Nat) : Int)) (some (.tup [.str "case", v, .tup (ps.map fun p => T.tup [.str p.1, .str p.2.1, p.2.2])])) (some (.ref d)) (some (.str "case")) (some (.int fr)) y11 y12 x13 ∧
        zs'.map (·.1) = ke.take (i + 1) ∧ Stk G' p6 (zs ++ zs') ∧ Sc G' d bs ∧ G' pk = some (.dK []) ∧ G' p4 = some (.lst F) ∧ Ext G0 G',
      ⟨x11, x12, [((n, π ++ [0], v, bs), d)], rfl, by rw [List.take_succ, k0]; rfl, hS2, hd2, hk2, h42, f02⟩, fun i r G' _ q hq => (by cases hq), ?_, ?_⟩
    · intro i t2 r G' ht2 ⟨y11, y12, zs', w1, w2, w3, w4, w5, w6, w7⟩
      subst w1
      obtain ⟨rw0, er, rfl⟩ := enumK_at ht2
      rw [List.getElem?_map] at er
      cases ep : ps[i]? with
      | none => rw [ep] at er; cases er
      | some p =>
        rw [ep] at er
        cases er
        have il : i < ps.length := (List.getElem?_eq_some_iff.mp ep).1
        have lz2 : ((zs ++ zs').map entD).length ≤ 50 := by
          have := congrArg List.length w2
          rw [List.length_map, List.length_take] at this
          rw [List.length_map, List.length_append]
          omega
        refine x_gtup rfl (x_gcons (x_gname (x_gcons (x_gname (x_gnil ?_)))))
        refine x_expr (x_bm (x_var rfl (x_tylst w3.at_ (x_cons (x_tup (x_cons (x_op (x_var rfl (x_c (x_ixt (show atI [T.str p.1, .str p.2.1, p.2.2] 2 = some p.2.2 from rfl) (x_cons ?_)))))))))))
        refine x_merge (x := p.2.1) (i := fr + (i : Nat)) rfl w4 (by omega) (fun G1 K f k => x_op (x_var rfl (x_c (x_ixt (show atI [T.str p.1, .str p.2.1, p.2.2] 1 = some (.str p.2.1) from rfl) k)))) (fun G1 K f k => x_var rfl k) fun q G1 f1 hq s1 => ?_
        have hS1 := w3.ext f1
        refine x_nil ⟨by show 2 ≤ sizeLine; omega, x_nil (x_append hS1.at_ (by omega) ?_)⟩
        have hS2 := hS1.push (z := ((n, π ++ [i + 1], p.2.2, bs ++ [p.2.1]), q)) s1
        refine fwd.of ⟨_, _, zs' ++ [((n, π ++ [i + 1], p.2.2, bs ++ [p.2.1]), q)], rfl, ?_, ?_, (w4.ext f1).put hS1.at_, by rw [put_ne pk6]; exact f1 _ _ w5, by rw [put_ne n46]; exact f1 _ _ w6, Ext.grow n6 (w7.trans f1)⟩
        · rw [List.map_append, w2, List.take_succ (i := i + 1), kj i p ep]
          rfl
        · rw [← List.append_assoc]
          exact hS2
    · intro r G' ⟨y11, y12, zs', w1, w2, w3, w4, w5, w6, w7⟩
      subst w1
      have w2 : zs'.map (·.1) = ke.take ((enumT fr (ps.map fun p => T.tup [.str p.1, .str p.2.1, p.2.2])).length + 1) := w2
      rw [show (enumT fr (ps.map fun p => T.tup [.str p.1, .str p.2.1, p.2.2])).length + 1 = ke.length by rw [lk]; simp [enumT], List.take_length] at w2
      exact main _ _ _ _ _ zs' G' (by omega) (by omega) w2 w3 w5 w6 w7 (whn _ (by decide +kernel))
  | other a b c d2 e f g i hb2 =>
    cases et
    refine x_iteF (decide_eq_false b) ?_
    with_reducible refine x_if ?_
    refine hd_test rfl cw sf (x_iteF (decide_eq_false c) ?_)
    with_reducible refine x_if ?_
    refine hd_test rfl cw su (x_iteF (decide_eq_false d2) ?_)
    with_reducible refine x_if ?_
    refine hd_test rfl cw sc (x_iteF (decide_eq_false e) ?_)
    refine x_for (x_iseq (x_call (x_cons (x_var rfl (x_nil ?_)))))
    refine tp_ok (k := k) hu fun q G1 f1 hq eq => ?_
    have q6 : p6 ≠ q := fun z => by rw [← z, hS.at_] at hq; cases hq
    have ki : ∀ j u, (kidsT (.tup (.str w :: rest)))[j]? = some u → (kidE (n, π, .tup (.str w :: rest), bs))[j]? = some (n - 1, π ++ [j], u, bs) := fun j u e => by
      unfold kidE
      rw [List.getElem?_mapIdx]
      show ((kidsT (T.tup (.str w :: rest)))[j]?).map _ = _
      rw [e]
      show some (n - 1, π ++ [j], u, bs ++ bndT (T.tup (.str w :: rest)) j) = _
      rw [hb2, List.append_nil]
    have lk : (kidE (n, π, .tup (.str w :: rest), bs)).length = (kidsT (.tup (.str w :: rest))).length := by unfold kidE; simp
    refine ⟨_, .inr (.inl (.inr ⟨q, rfl, eq⟩)), ?_⟩
    refine ⟨fun i r G' => ∃ (y13 : Option T) (zs' : List (En × Addr)), r = bEnv t pk pa p4 p6 fr (some (.tup (.str w :: rest))) (some (.ref d)) (some (.str w)) (some .non) x11 x12 y13 ∧
        zs'.map (·.1) = (kidE (n, π, .tup (.str w :: rest), bs)).take i ∧ Stk G' p6 (zs ++ zs') ∧ Sc G' d bs ∧ G' pk = some (.dK []) ∧ G' p4 = some (.lst F) ∧ Ext G0 G' ∧ G' q = some (.lst (kidsT (.tup (.str w :: rest)))),
      ⟨x13, [], rfl, rfl, by simpa using hS.ext f1, hd.ext f1, f1 _ _ hk, f1 _ _ h4, f0.trans f1, eq⟩, ?_, ?_, ?_⟩
    · intro i r G' ⟨y13, zs', w1, w2, w3, w4, w5, w6, w7, w8⟩ z hz
      have : z = (q, kidsT (.tup (.str w :: rest))) := by simpa [heldT] using hz
      subst this
      exact w8
    · intro i t2 r G' ht2 ⟨y13, zs', w1, w2, w3, w4, w5, w6, w7, w8⟩
      subst w1
      have ht2 : (kidsT (.tup (.str w :: rest)))[i]? = some t2 := ht2
      have il : i < (kidsT (.tup (.str w :: rest))).length := (List.getElem?_eq_some_iff.mp ht2).1
      have lz2 : ((zs ++ zs').map entD).length ≤ 50 := by
        have := congrArg List.length w2
        rw [List.length_map, List.length_take] at this
        rw [List.length_map, List.length_append]
        omega
      refine x_gname ?_
      refine x_expr (x_bm (x_var rfl (x_tylst w3.at_ (x_cons (x_tup (x_cons (x_var rfl (x_cons (x_var rfl (x_nil ⟨by show 2 ≤ sizeLine; omega, x_nil (x_append w3.at_ (by omega) ?_)⟩))))))))))
      have hS2 := w3.push (z := ((n - 1, π ++ [i], t2, bs), d)) w4
      refine fwd.of ⟨_, zs' ++ [((n - 1, π ++ [i], t2, bs), d)], rfl, ?_, ?_, w4.put w3.at_, by rw [put_ne pk6]; exact w5, by rw [put_ne n46]; exact w6, Ext.grow n6 w7, by rw [put_ne (Ne.symm q6)]; exact w8⟩
      · rw [List.map_append, w2, List.take_succ, ki i t2 ht2]
        rfl
      · rw [← List.append_assoc]
        exact hS2
    · intro r G' ⟨y13, zs', w1, w2, w3, w4, w5, w6, w7, w8⟩
      subst w1
      have w2 : zs'.map (·.1) = (kidE (n, π, .tup (.str w :: rest), bs)).take (kidsT (.tup (.str w :: rest))).length := w2
      rw [← lk, List.take_length] at w2
      exact main _ _ _ _ _ zs' G' (by omega) (by omega) w2 w3 w5 w6 w7 (whn _ b)
end Lw

set_option Elab.async false
set_option linter.all false
set_option maxRecDepth 100000
set_option maxHeartbeats 1000000
namespace Lw
open PySem L2 Mi
local macro_rules | `(tactic| walk_at "get") => `(tactic| first | assumption | exact put_same | (refine get_new (by assumption) ?_; walk_at "get") | (refine get_ne (by assumption) ?_; walk_at "get"))
local macro_rules | `(tactic| walk_at "sq") => `(tactic| first | assumption | exact .inl rfl | exact .inr (.inl rfl) | exact .inr (.inr ⟨_, rfl, by walk_at "get"⟩))
local macro_rules | `(tactic| walk_at "size") => `(tactic| first | assumption | (simp only [List.length_cons, List.length_nil]; decide) | (have := sizeLine_eq; omega))
local macro_rules | `(tactic| walk_at "txt") => `(tactic| first | assumption | (simp only [Str.length, Str.cps_append, Array.size_append]; have := sizeLine_eq; omega))
local macro_rules | `(tactic| walk_at "go1") => `(tactic| first
  | ((with_reducible refine' x_var ?e ?_); (case e => with_unfolding_all rfl))
  | with_reducible refine x_seq ?_
  | with_reducible refine x_asg ?_
  | with_reducible refine x_if ?_
  | with_reducible refine x_ret ?_
  | with_reducible refine x_next ?_
  | with_reducible refine x_expr ?_
  | with_reducible refine x_gname ?_
  | with_reducible refine x_gcons ?_
  | with_reducible refine x_gnil ?_
  | with_reducible refine x_gsub ?_
  | with_reducible refine x_c ?_
  | with_reducible refine x_op ?_
  | with_reducible refine x_call ?_
  | with_reducible refine x_cons ?_
  | with_reducible refine x_nil ?_
  | with_reducible refine x_par ?_
  | with_reducible refine x_tup ?_
  | with_reducible refine x_lst ?_
  | with_reducible refine x_b ?_
  | with_reducible refine x_tru ?_
  | with_reducible refine x_not ?_
  | with_reducible refine x_or ?_
  | with_reducible refine x_and ?_
  | with_reducible refine x_ife ?_
  | with_reducible refine x_add ?_
  | with_reducible refine x_sub ?_
  | with_reducible refine x_gtI ?_
  | with_reducible refine x_ltI ?_
  | with_reducible refine x_geI ?_
  | with_reducible refine x_leI ?_
  | with_reducible refine x_abs ?_
  | with_reducible refine x_intb ?_
  | with_reducible refine x_for ?_
  | with_reducible refine x_irange ?_
  | with_reducible refine x_lc ?_
  | with_reducible refine x_yes ?_
  | with_reducible refine x_bm ?_
  | with_reducible refine x_bm0 ?_
  | with_reducible refine x_andv ?_
  | with_reducible refine x_orv ?_
  | with_reducible refine x_notv ?_
  | with_reducible refine x_eqI ?_
  | with_reducible refine x_tystr ?_
  | ((with_reducible refine' x_gtup ?e ?_); (case e => with_unfolding_all rfl))
  | ((with_reducible refine' x_pow ?e ?_); (case e => exact ⟨by decide, by decide, by decide⟩))
  | ((with_reducible refine' x_ix ?e ?q ?_); (case e => walk_at "get"); (case q => with_unfolding_all rfl))
  | ((with_reducible refine' x_ixt ?q ?_); (case q => with_unfolding_all rfl))
  | ((with_reducible refine' x_sto ?e ?q ?_); (case e => walk_at "get"); (case q => with_unfolding_all rfl))
  | ((with_reducible refine' x_adds ?e ?_); (case e => walk_at "txt"))
  | ((with_reducible refine' x_muls ?e ?f ?g ?_); (case e => omega); (case f => omega); (case g => walk_at "txt"))
  | ((with_reducible refine' x_divmod ?e ?_); (case e => exact ⟨by omega, by omega⟩))
  | ((with_reducible refine' x_mod ?e ?_); (case e => omega))
  | ((with_reducible refine' x_fdivC ?e ?f ?_); (case e => omega); (case f => omega))
  | ((with_reducible refine' x_mulL ?e ?f ?_); (case e => omega); (case f => omega))
  | ((with_reducible refine' x_mulR ?e ?f ?_); (case e => omega); (case f => omega))
  | ((with_reducible refine' x_len ?e ?_); (case e => walk_at "sq"))
  | ((with_reducible refine' x_range ?e ?f ?_); (case e => omega); (case f => omega))
  | ((with_reducible refine' x_tylst ?e ?_); (case e => walk_at "get"))
  | ((with_reducible refine' x_append ?e ?f ?_); (case e => walk_at "get"); (case f => walk_at "size"))
  | ((with_reducible refine' And.intro ?e ?_); (case e => (show _ ≤ sizeLine; walk_at "size")))
  | ((with_reducible refine' Exists.intro _ (And.intro ?e ?_)); (case e => with_unfolding_all rfl)))
def Whs : List Pt → List T → Prop
  | [], [] => True
  | p :: ps, v :: vs => Wh p v ∧ Whs ps vs
  | _, _ => False
theorem Whs.app : ∀ {a b : List Pt} {x y : List T}, Whs a x → Whs b y → Whs (a ++ b) (x ++ y)
  | [], b, [], y, _, h => h
  | p :: a, b, v :: x, y, ⟨h1, h2⟩, h => ⟨h1, h2.app h⟩
theorem Whs.one {p : Pt} {v : T} (h : Wh p v) : Whs [p] [v] := ⟨h, True.intro⟩
theorem Whs.rev : ∀ {a : List Pt} {x : List T}, Whs a x → Whs a.reverse x.reverse
  | [], [], h => h
  | p :: a, v :: x, ⟨h1, h2⟩ => by
    rw [List.reverse_cons, List.reverse_cons]
    exact h2.rev.app (.one h1)
theorem Whs.at_ : ∀ {a : List Pt} {x : List T} {i : Nat} {p : Pt}, Whs a x → a[i]? = some p → ∃ v, x[i]? = some v ∧ Wh p v
  | p :: a, v :: x, 0, q, ⟨h1, _⟩, e => by
    cases e
    exact ⟨v, rfl, h1⟩
  | p :: a, v :: x, i + 1, q, ⟨_, h2⟩, e => by
    rw [List.getElem?_cons_succ] at e
    obtain ⟨w, a, b⟩ := h2.at_ e
    exact ⟨w, by rw [List.getElem?_cons_succ]; exact a, b⟩
  | [], _, i, q, _, e => by simp at e
theorem Whs.len : ∀ {a : List Pt} {x : List T}, Whs a x → a.length = x.length
  | [], [], _ => rfl
  | p :: a, v :: x, ⟨_, h⟩ => by rw [List.length_cons, List.length_cons, h.len]
/-- what every part is bound to -/
theorem bindings_ok {k n : Nat} {t : T} {pk pa : Addr} {G : Gp} {R : KT} (ht : Tm n t) (hs : (allp n t [] []).length ≤ 40) (hn : n ≤ 800) (ek : G pk = some (.dK [])) (ea : G pa = some (.dK []))
    (hR : ∀ p F G', G p = none → G' p = some (.lst F) → Whs (allp n t [] []) F → Ext G G' → R (.ref p) G') : SP (k + 2) 1 [t, .int 0, .ref pk, .ref pa] G R := by
  have szl := sizeLine_eq
  show spOf 14 4 (b1 (SP (k + 1))) _ _ _
  refine ⟨rfl, ?_⟩
  unfold b1
  with_reducible refine x_seq ?_
  refine x_asg (x_lst (x_nil ⟨by show 0 ≤ sizeLine; omega, fun p4 hp4 => x_gname ?_⟩))
  with_reducible refine x_seq ?_
  refine x_asg (x_var rfl (x_gname ?_))
  with_reducible refine x_seq ?_
  refine x_asg (x_lst (x_cons (x_tup (x_cons (x_var rfl (x_cons (x_var rfl (x_nil ⟨by show 2 ≤ sizeLine; omega, x_nil ⟨by show 1 ≤ sizeLine; omega, fun p6 hp6 => x_gname ?_⟩⟩))))))))
  have p46 : p4 ≠ p6 := fun z => by rw [← z, put_same] at hp6; cases hp6
  have hp6G : G p6 = none := by rw [put_ne (Ne.symm p46)] at hp6; exact hp6
  have sc0 : ∀ G', Ext G G' → Sc G' pa [] := fun G' f => ⟨[], f _ _ ea, Nat.le_refl _, fun x => by simp, fun p hp => by cases hp⟩
  have f00 : Ext G (Mi.put (Mi.put G p4 (.lst [])) p6 (.lst [.tup [t, .ref pa]])) := (Ext.new hp4).trans (Ext.new hp6)
  with_reducible refine x_seq ?_
  refine x_while (fun m r G' => ∃ (zs : List (En × Addr)) (F : List T) (D : List Pt) (fr : Int) (x7 x8 x9 x10 x11 x12 x13 : Option T), r = bEnv t pk pa p4 p6 fr x7 x8 x9 x10 x11 x12 x13 ∧ Stk G' p6 zs ∧ G' p4 = some (.lst F) ∧ G' pk = some (.dK []) ∧ Ext G G' ∧
      (∀ z ∈ zs, Tm z.1.1 z.1.2.2.1 ∧ z.1.2.2.2.length + z.1.1 ≤ n) ∧ (outs (zs.map (·.1))).length = m ∧ F.length + m ≤ 40 ∧ 0 ≤ fr ∧ fr ≤ 5 * F.length ∧ Whs D F ∧ D ++ (outs (zs.map (·.1))).reverse = (allp n t [] []).reverse)
    ⟨_, [((n, [], t, []), pa)], [], [], 0, none, none, none, none, none, none, none, rfl, ⟨put_same, ?_⟩, get_new hp6 put_same, f00 _ _ ek, f00, ?_, rfl, ?_, by omega, by simp, True.intro, ?_⟩ ?_
  · intro z hz
    rw [List.mem_singleton] at hz
    subst hz
    exact sc0 _ f00
  · intro z hz
    rw [List.mem_singleton] at hz
    subst hz
    exact ⟨ht, by simp⟩
  · show 0 + (outs [(n, [], t, [])]).length ≤ 40
    unfold outs outE
    rw [List.flatMap_cons, List.flatMap_nil, List.append_nil]
    show 0 + (allp n t [] []).length ≤ 40
    omega
  · show [] ++ (outs [(n, [], t, [])]).reverse = _
    unfold outs outE
    rw [List.flatMap_cons, List.flatMap_nil, List.append_nil]
    rfl
  intro m r G1 ⟨zs, F, D, fr, x7, x8, x9, x10, x11, x12, x13, er, hS, e4, e2, f1, hes, em, hm, hf0, hf1, hW, eF⟩
  subst er
  refine x_tru (x_var rfl ⟨_, tru_lst hS.at_, ?_⟩)
  refine x_ite (fun q => ?_) (fun q => ?_)
  · have hne : zs ≠ [] := fun e => by rw [e] at q; cases q
    obtain ⟨xs, ⟨⟨n', π, u, bs⟩, d⟩, rfl⟩ : ∃ xs u, zs = xs ++ [u] := ⟨zs.dropLast, zs.getLast hne, (List.dropLast_concat_getLast hne).symm⟩
    obtain ⟨he, hd⟩ := hes ((n', π, u, bs), d) (by simp)
    have he : Tm n' u := he
    have hd : bs.length + n' ≤ n := hd
    rw [List.map_append] at em eF
    have eF2 := rev_pop0 (e := (n', π, u, bs)) he eF
    have el : (outs (xs.map (·.1) ++ [(n', π, u, bs)])).length = (outs (xs.map (·.1) ++ kidE (n', π, u, bs))).length + 1 := len_pop (e := (n', π, u, bs)) he
    have em : (outs (xs.map (·.1) ++ [(n', π, u, bs)])).length = m := em
    have lo := outs_len (xs.map (·.1) ++ kidE (n', π, u, bs))
    rw [List.length_append, List.length_map] at lo
    obtain ⟨hS1, hSd⟩ := hS.pop
    have e41 : Mi.put G1 p6 (.lst (xs.map entD)) p4 = some (.lst F) := by rw [put_ne p46]; exact e4
    have e21 : Mi.put G1 p6 (.lst (xs.map entD)) pk = some (.dK []) := by rw [put_ne (fun z => by rw [z, hS.at_] at e2; cases e2)]; exact e2
    have f2 : Ext G (Mi.put G1 p6 (.lst (xs.map entD))) := Ext.grow hp6G f1
    have eat := hS.at_
    rw [List.map_append] at eat
    with_reducible refine x_seq ?_
    refine x_asg (x_bm0 (x_var rfl (x_tylst eat (x_pop eat ?_))))
    refine x_gtup rfl (x_gcons (x_gname (x_gcons (x_gname (x_gnil ?_)))))
    generalize Mi.put G1 p6 (.lst (xs.map entD)) = G2 at *
    obtain ⟨w, rest, et, cw, hrl⟩ := he.shp.hd
    have hd0 : atI (T.str w :: rest) 0 = some (.str w) := atI0 _ _
    with_reducible refine x_seq ?_
    refine x_asg (x_op (x_var (show _ = some (some (T.tup (.str w :: rest))) by rw [← et]; rfl) (x_c (x_ixt hd0 (x_gname ?_)))))
    with_reducible refine x_seq ?_
    refine x_asg (x_c (x_gname ?_))
    with_reducible refine x_seq ?_
    refine branch_ok (k := k) (n := n') (π := π) (u := u) (bs := bs) (t := t) (pk := pk) (pa := pa) (p4 := p4) (p6 := p6) (d := d) (fr := fr) (x11 := x11) (x12 := x12) (x13 := x13) (zs := xs) (F := F) et cw he hS1 hSd e21 e41 f2 hp6G p46 (by omega) (by omega) hf0 (by omega) fun fr' wv y11 y12 y13 zs' G3 g1 g2 g3 g4 g5 g6 g7 g8 => ?_
    dsimp only
    refine x_expr (x_bm (x_var rfl (x_tylst g6 (x_cons (x_tup (x_cons (x_var rfl (x_cons (x_var rfl (x_nil ⟨by show 2 ≤ sizeLine; omega, x_nil (x_append g6 (by omega) ?_)⟩))))))))))
    have g9 : (xs ++ zs').map (·.1) = xs.map (·.1) ++ kidE (n', π, u, bs) := by rw [List.map_append, g3]
    refine fwd.of ⟨(outs (xs.map (·.1) ++ kidE (n', π, u, bs))).length, by omega, xs ++ zs', _, D ++ [(π, u, bs)], fr', _, _, _, _, _, _, _, rfl, g4.put (Ne.symm p46) g6, put_same, by rw [put_ne (fun z => by rw [z, g6] at g5; cases g5)]; exact g5, Ext.grow hp4 g7, ?_, by rw [g9], ?_, by omega, ?_, hW.app (.one g8), by rw [g9]; exact eF2⟩
    · intro z hz
      rcases List.mem_append.mp hz with hz | hz
      · exact hes z (List.mem_append_left _ hz)
      · have hz2 : z.1 ∈ kidE (n', π, u, bs) := by rw [← g3]; exact List.mem_map.mpr ⟨z, hz, rfl⟩
        refine ⟨(kidE_tm (e := (n', π, u, bs)) he hz2).1, ?_⟩
        unfold kidE at hz2
        rw [List.mem_mapIdx] at hz2
        obtain ⟨j, hj, ez⟩ := hz2
        rw [← ez]
        obtain ⟨m', em', _⟩ := he.kid (List.getElem_mem hj)
        show (bs ++ bndT u j).length + (n' - 1) ≤ n
        have := bnd_len he j
        rw [List.length_append]
        omega
    · rw [List.length_append, List.length_singleton]; omega
    · rw [List.length_append, List.length_singleton]; omega
  · have e0 : zs = [] := by
      cases zs with
      | nil => rfl
      | cons a b => cases q
    subst e0
    have eF : D = (allp n t [] []).reverse := by
      rw [← eF]
      show D = D ++ []
      rw [List.append_nil]
    dsimp only
    refine x_ret (x_rev (x_var rfl ⟨F, .inr ⟨p4, rfl, e4⟩, fun p hp => ?_⟩))
    have hW2 := hW.rev
    rw [eF, List.reverse_reverse] at hW2
    exact fwdT.of (hR p _ _ (f1.none hp) put_same hW2 (f1.trans (Ext.new hp)))
end Lw

set_option Elab.async false
set_option linter.all false
set_option maxRecDepth 100000
set_option maxHeartbeats 1000000
namespace Lw
open PySem L2 Mi
local macro_rules | `(tactic| walk_at "get") => `(tactic| first | assumption | exact put_same | (refine get_new (by assumption) ?_; walk_at "get") | (refine get_ne (by assumption) ?_; walk_at "get"))
local macro_rules | `(tactic| walk_at "sq") => `(tactic| first | assumption | exact .inl rfl | exact .inr (.inl rfl) | exact .inr (.inr ⟨_, rfl, by walk_at "get"⟩))
local macro_rules | `(tactic| walk_at "size") => `(tactic| first | assumption | (simp only [List.length_cons, List.length_nil]; decide) | (have := sizeLine_eq; omega))
local macro_rules | `(tactic| walk_at "txt") => `(tactic| first | assumption | (simp only [Str.length, Str.cps_append, Array.size_append]; have := sizeLine_eq; omega))
local macro_rules | `(tactic| walk_at "go1") => `(tactic| first
  | ((with_reducible refine' x_var ?e ?_); (case e => with_unfolding_all rfl))
  | with_reducible refine x_seq ?_
  | with_reducible refine x_asg ?_
  | with_reducible refine x_if ?_
  | with_reducible refine x_ret ?_
  | with_reducible refine x_next ?_
  | with_reducible refine x_expr ?_
  | with_reducible refine x_gname ?_
  | with_reducible refine x_gcons ?_
  | with_reducible refine x_gnil ?_
  | with_reducible refine x_gsub ?_
  | with_reducible refine x_c ?_
  | with_reducible refine x_op ?_
  | with_reducible refine x_call ?_
  | with_reducible refine x_cons ?_
  | with_reducible refine x_nil ?_
  | with_reducible refine x_par ?_
  | with_reducible refine x_tup ?_
  | with_reducible refine x_lst ?_
  | with_reducible refine x_b ?_
  | with_reducible refine x_tru ?_
  | with_reducible refine x_not ?_
  | with_reducible refine x_or ?_
  | with_reducible refine x_and ?_
  | with_reducible refine x_ife ?_
  | with_reducible refine x_add ?_
  | with_reducible refine x_sub ?_
  | with_reducible refine x_gtI ?_
  | with_reducible refine x_ltI ?_
  | with_reducible refine x_geI ?_
  | with_reducible refine x_leI ?_
  | with_reducible refine x_abs ?_
  | with_reducible refine x_intb ?_
  | with_reducible refine x_for ?_
  | with_reducible refine x_irange ?_
  | with_reducible refine x_lc ?_
  | with_reducible refine x_yes ?_
  | with_reducible refine x_bm ?_
  | with_reducible refine x_bm0 ?_
  | with_reducible refine x_andv ?_
  | with_reducible refine x_orv ?_
  | with_reducible refine x_notv ?_
  | with_reducible refine x_eqI ?_
  | with_reducible refine x_tystr ?_
  | ((with_reducible refine' x_gtup ?e ?_); (case e => with_unfolding_all rfl))
  | ((with_reducible refine' x_pow ?e ?_); (case e => exact ⟨by decide, by decide, by decide⟩))
  | ((with_reducible refine' x_ix ?e ?q ?_); (case e => walk_at "get"); (case q => with_unfolding_all rfl))
  | ((with_reducible refine' x_ixt ?q ?_); (case q => with_unfolding_all rfl))
  | ((with_reducible refine' x_sto ?e ?q ?_); (case e => walk_at "get"); (case q => with_unfolding_all rfl))
  | ((with_reducible refine' x_adds ?e ?_); (case e => walk_at "txt"))
  | ((with_reducible refine' x_muls ?e ?f ?g ?_); (case e => omega); (case f => omega); (case g => walk_at "txt"))
  | ((with_reducible refine' x_divmod ?e ?_); (case e => exact ⟨by omega, by omega⟩))
  | ((with_reducible refine' x_mod ?e ?_); (case e => omega))
  | ((with_reducible refine' x_fdivC ?e ?f ?_); (case e => omega); (case f => omega))
  | ((with_reducible refine' x_mulL ?e ?f ?_); (case e => omega); (case f => omega))
  | ((with_reducible refine' x_mulR ?e ?f ?_); (case e => omega); (case f => omega))
  | ((with_reducible refine' x_len ?e ?_); (case e => walk_at "sq"))
  | ((with_reducible refine' x_range ?e ?f ?_); (case e => omega); (case f => omega))
  | ((with_reducible refine' x_tylst ?e ?_); (case e => walk_at "get"))
  | ((with_reducible refine' x_append ?e ?f ?_); (case e => walk_at "get"); (case f => walk_at "size"))
  | ((with_reducible refine' And.intro ?e ?_); (case e => (show _ ≤ sizeLine; walk_at "size")))
  | ((with_reducible refine' Exists.intro _ (And.intro ?e ?_)); (case e => with_unfolding_all rfl)))
/-- the program's list -/
theorem namedIn_ok {k n : Nat} {t : T} {G : Gp} {R : KT} (ht : Tm n t) (hn : n ≤ 800) (hs : (allp n t [] []).length ≤ 40) (hR : ∀ p G', G p = none → G' p = some (.lst (nmd n t [] [])) → Ext G G' → R (.ref p) G') : SP (k + 4) 4 [t] G R := by
  have szl := sizeLine_eq
  show spOf 5 1 (b4 (SP (k + 3))) _ _ _
  refine ⟨rfl, ?_⟩
  unfold b4
  have sf : SeqAt.shaped (.str "from") = true := by decide +kernel
  have sn : SeqAt.shaped (.str "name") = true := by decide +kernel
  with_reducible refine x_seq ?_
  refine x_asg (x_lst (x_nil ⟨by show 0 ≤ sizeLine; omega, fun p1 hp1 => x_gname ?_⟩))
  with_reducible refine x_seq ?_
  refine x_for (x_izip (x_call (x_cons (x_var rfl (x_nil ?_)))))
  refine placesOf_ok (k := k) ht hs (by omega) fun pp G1 hpp epp f1 => ?_
  refine x_call (x_cons (x_var rfl (x_cons (x_c (x_cons fun q1 hq1 => x_cons fun q2 hq2 => x_nil ?_)))))
  have f2 : Ext G1 (Mi.put (Mi.put G1 q1 (.dK [])) q2 (.dK [])) := (Ext.new hq1).trans (Ext.new hq2)
  refine bindings_ok (k := k + 1) ht hs hn (get_new hq2 put_same) put_same fun pf F G2 hpf epf hW f3 => ?_
  have f13 := f2.trans f3
  have e1 : G2 p1 = some (.lst []) := f13 _ _ (f1 _ _ put_same)
  have epp2 := f13 _ _ epp
  refine ⟨_, _, .inr (.inl (.inr ⟨pp, rfl, epp2⟩)), .inr (.inl (.inr ⟨pf, rfl, epf⟩)), ?_⟩
  have n1 : p1 ≠ pp := fun z => by rw [← z, put_same] at hpp; cases hpp
  have n2 : p1 ≠ pf := fun z => by rw [← z, f2 _ _ (f1 _ _ put_same)] at hpf; cases hpf
  refine ⟨fun i r G' => ∃ (x2 x3 x4 : Option T), r = [some t, some (.ref p1), x2, x3, x4] ∧ G' p1 = some (.lst (((allp n t [] []).take i).flatMap own)) ∧ G' pp = some (.lst ((allp n t [] []).map fun p => plT p.1)) ∧ G' pf = some (.lst F) ∧ Ext G G',
    ⟨none, none, none, rfl, e1, epp2, epf, (Ext.new hp1).trans (f1.trans f13)⟩, ?_, ?_, ?_⟩
  · intro i r G' ⟨x2, x3, x4, w1, w2, w3, w4, w5⟩ q hq
    have : q = (pp, (allp n t [] []).map fun p => plT p.1) ∨ q = (pf, F) := by simpa [heldT] using hq
    rcases this with rfl | rfl
    · exact w3
    · exact w4
  · intro i t2 r G' ht2 ⟨x2, x3, x4, w1, w2, w3, w4, w5⟩
    subst w1
    have ht2 : (List.zipWith (fun a b => T.tup [a, b]) ((allp n t [] []).map fun p => plT p.1) F)[i]? = some t2 := ht2
    rw [List.getElem?_zipWith, List.getElem?_map] at ht2
    cases ep : (allp n t [] [])[i]? with
    | none => rw [ep] at ht2; cases ht2
    | some p =>
      obtain ⟨π, u, bs⟩ := p
      obtain ⟨v, ev, hw⟩ := hW.at_ ep
      rw [ep, ev] at ht2
      cases ht2
      obtain ⟨wv, rfl, hwn⟩ := hw
      obtain ⟨hwk, hu, hπl⟩ := allp_wlk (t := t) n t [] [] ht wlk_nil _ (List.mem_of_getElem? ep)
      have hl := flat_len ((allp n t [] []).take i)
      have hl2 : ((allp n t [] []).take i).length ≤ 40 := by rw [List.length_take]; omega
      have tk := take_own ep
      have eo : own (π, u, bs) = ownT π bs u := rfl
      rw [eo] at tk
      refine x_gtup rfl (x_gcons (x_gname (x_gcons (x_gtup rfl (x_gcons (x_gname (x_gcons (x_gname (x_gnil (x_gnil ?_))))))))))
      have stay : ∀ {N : Mi.Env → Gp → Prop}, ownT π bs u = [] → (N = fwd fun r G' => ∃ (x2 x3 x4 : Option T), r = [some t, some (.ref p1), x2, x3, x4] ∧ G' p1 = some (.lst (((allp n t [] []).take (i + 1)).flatMap own)) ∧ G' pp = some (.lst ((allp n t [] []).map fun p => plT p.1)) ∧ G' pf = some (.lst F) ∧ Ext G G') →
          N [some t, some (.ref p1), some (plT π), some u, some wv] G' := fun h0 e => by
        subst e
        refine fwd.of ⟨_, _, _, rfl, ?_, w3, w4, w5⟩
        rw [tk, h0, List.append_nil]
        exact w2
      have more : ∀ {N : Mi.Env → Gp → Prop} {v : T}, ownT π bs u = [v] → (N = fwd fun r G' => ∃ (x2 x3 x4 : Option T), r = [some t, some (.ref p1), x2, x3, x4] ∧ G' p1 = some (.lst (((allp n t [] []).take (i + 1)).flatMap own)) ∧ G' pp = some (.lst ((allp n t [] []).map fun p => plT p.1)) ∧ G' pf = some (.lst F) ∧ Ext G G') →
          N [some t, some (.ref p1), some (plT π), some u, some wv] (Mi.put G' p1 (.lst (((allp n t [] []).take i).flatMap own ++ [v]))) := fun h0 e => by
        subst e
        refine fwd.of ⟨_, _, _, rfl, ?_, ?_, ?_, Ext.grow hp1 w5⟩
        · rw [tk, h0]; exact put_same
        · rw [put_ne (Ne.symm n1)]; exact w3
        · rw [put_ne (Ne.symm n2)]; exact w4
      with_reducible refine x_if ?_
      obtain ⟨m0, hsh⟩ : ∃ m, Shp m u := ⟨n, hu.shp⟩
      cases hsh with
      | frm a b =>
        rename_i m x
        refine hd0_test rfl sf sf (x_iteT (by decide +kernel) ?_)
        refine x_expr (x_bm (x_var rfl (x_tylst w2 (x_cons (x_tup (x_cons (x_var rfl (x_cons (x_tup (x_cons (x_op (x_var rfl (x_c (x_ixt (show atI [T.str "from", .str m, .str x] 1 = some (.str m) from rfl) (x_cons (x_op (x_var rfl (x_c (x_ixt (show atI [T.str "from", .str m, .str x] 2 = some (.str x) from rfl) (x_nil ⟨by show 2 ≤ sizeLine; omega, x_nil ⟨by show 2 ≤ sizeLine; omega, x_nil (x_append w2 (by omega) ?_)⟩⟩))))))))))))))))))))
        exact more own_frm rfl
      | name a =>
        rename_i x
        refine hd0_test rfl sn sf (x_iteF (by decide +kernel) ?_)
        with_reducible refine x_if ?_
        refine x_and (hd0_test rfl sn sn (x_iteT (by decide +kernel) (x_b (x_op (x_var rfl (x_c (x_isN ⟨_, rfl, ?_⟩)))))))
        rw [hwn x rfl]
        by_cases q : x ∈ bs
        · rw [decide_eq_true q]
          refine x_iteF rfl (x_next ?_)
          exact stay (by rw [own_name, if_pos q]) rfl
        · rw [decide_eq_false q]
          refine x_iteT rfl ?_
          refine x_expr (x_bm (x_var rfl (x_tylst w2 (x_cons (x_tup (x_cons (x_var rfl (x_cons (x_op (x_var rfl (x_c (x_ixt (show atI [T.str "name", .str x] 1 = some (.str x) from rfl) (x_nil ⟨by show 2 ≤ sizeLine; omega, x_nil (x_append w2 (by omega) ?_)⟩)))))))))))))
          exact more (by rw [own_name, if_neg q]) rfl
      | fn a b =>
        refine hd0_test rfl (by decide +kernel) sf (x_iteF (by decide +kernel) ?_)
        with_reducible refine x_if ?_
        refine x_and (hd0_test rfl (by decide +kernel) sn (x_iteF (by decide +kernel) (x_iteF rfl (x_next ?_))))
        exact stay (own_no (by decide +kernel) (by decide +kernel)) rfl
      | case hl a b c =>
        refine hd0_test rfl (by decide +kernel) sf (x_iteF (by decide +kernel) ?_)
        with_reducible refine x_if ?_
        refine x_and (hd0_test rfl (by decide +kernel) sn (x_iteF (by decide +kernel) (x_iteF rfl (x_next ?_))))
        exact stay (own_no (by decide +kernel) (by decide +kernel)) rfl
      | other a b c d e f g i j =>
        refine hd0_test rfl a sf (x_iteF (decide_eq_false c) ?_)
        with_reducible refine x_if ?_
        refine x_and (hd0_test rfl a sn (x_iteF (decide_eq_false b) (x_iteF rfl (x_next ?_))))
        exact stay (own_no b c) rfl
  · intro r G' ⟨x2, x3, x4, w1, w2, w3, w4, w5⟩
    subst w1
    have w2 : G' p1 = some (.lst (((allp n t [] []).take (List.zipWith (fun a b => T.tup [a, b]) ((allp n t [] []).map fun p => plT p.1) F).length).flatMap own)) := w2
    rw [List.length_zipWith, List.length_map, ← hW.len, Nat.min_self, List.take_length] at w2
    dsimp only
    exact x_ret (x_var rfl (fwdT.of (hR p1 G' hp1 w2 w5)))
end Lw

set_option Elab.async false
set_option linter.all false
set_option maxRecDepth 100000
set_option maxHeartbeats 1000000
namespace Lw
open PySem L2 Mi
local macro_rules | `(tactic| walk_at "get") => `(tactic| first | assumption | exact put_same | (refine get_new (by assumption) ?_; walk_at "get") | (refine get_ne (by assumption) ?_; walk_at "get"))
local macro_rules | `(tactic| walk_at "sq") => `(tactic| first | assumption | exact .inl rfl | exact .inr (.inl rfl) | exact .inr (.inr ⟨_, rfl, by walk_at "get"⟩))
local macro_rules | `(tactic| walk_at "size") => `(tactic| first | assumption | (simp only [List.length_cons, List.length_nil]; decide) | (have := sizeLine_eq; omega))
local macro_rules | `(tactic| walk_at "txt") => `(tactic| first | assumption | (simp only [Str.length, Str.cps_append, Array.size_append]; have := sizeLine_eq; omega))
local macro_rules | `(tactic| walk_at "go1") => `(tactic| first
  | ((with_reducible refine' x_var ?e ?_); (case e => with_unfolding_all rfl))
  | with_reducible refine x_seq ?_
  | with_reducible refine x_asg ?_
  | with_reducible refine x_if ?_
  | with_reducible refine x_ret ?_
  | with_reducible refine x_next ?_
  | with_reducible refine x_expr ?_
  | with_reducible refine x_gname ?_
  | with_reducible refine x_gcons ?_
  | with_reducible refine x_gnil ?_
  | with_reducible refine x_gsub ?_
  | with_reducible refine x_c ?_
  | with_reducible refine x_op ?_
  | with_reducible refine x_call ?_
  | with_reducible refine x_cons ?_
  | with_reducible refine x_nil ?_
  | with_reducible refine x_par ?_
  | with_reducible refine x_tup ?_
  | with_reducible refine x_lst ?_
  | with_reducible refine x_b ?_
  | with_reducible refine x_tru ?_
  | with_reducible refine x_not ?_
  | with_reducible refine x_or ?_
  | with_reducible refine x_and ?_
  | with_reducible refine x_ife ?_
  | with_reducible refine x_add ?_
  | with_reducible refine x_sub ?_
  | with_reducible refine x_gtI ?_
  | with_reducible refine x_ltI ?_
  | with_reducible refine x_geI ?_
  | with_reducible refine x_leI ?_
  | with_reducible refine x_abs ?_
  | with_reducible refine x_intb ?_
  | with_reducible refine x_for ?_
  | with_reducible refine x_irange ?_
  | with_reducible refine x_lc ?_
  | with_reducible refine x_yes ?_
  | with_reducible refine x_bm ?_
  | with_reducible refine x_bm0 ?_
  | with_reducible refine x_andv ?_
  | with_reducible refine x_orv ?_
  | with_reducible refine x_notv ?_
  | with_reducible refine x_eqI ?_
  | with_reducible refine x_tystr ?_
  | ((with_reducible refine' x_gtup ?e ?_); (case e => with_unfolding_all rfl))
  | ((with_reducible refine' x_pow ?e ?_); (case e => exact ⟨by decide, by decide, by decide⟩))
  | ((with_reducible refine' x_ix ?e ?q ?_); (case e => walk_at "get"); (case q => with_unfolding_all rfl))
  | ((with_reducible refine' x_ixt ?q ?_); (case q => with_unfolding_all rfl))
  | ((with_reducible refine' x_sto ?e ?q ?_); (case e => walk_at "get"); (case q => with_unfolding_all rfl))
  | ((with_reducible refine' x_adds ?e ?_); (case e => walk_at "txt"))
  | ((with_reducible refine' x_muls ?e ?f ?g ?_); (case e => omega); (case f => omega); (case g => walk_at "txt"))
  | ((with_reducible refine' x_divmod ?e ?_); (case e => exact ⟨by omega, by omega⟩))
  | ((with_reducible refine' x_mod ?e ?_); (case e => omega))
  | ((with_reducible refine' x_fdivC ?e ?f ?_); (case e => omega); (case f => omega))
  | ((with_reducible refine' x_mulL ?e ?f ?_); (case e => omega); (case f => omega))
  | ((with_reducible refine' x_mulR ?e ?f ?_); (case e => omega); (case f => omega))
  | ((with_reducible refine' x_len ?e ?_); (case e => walk_at "sq"))
  | ((with_reducible refine' x_range ?e ?f ?_); (case e => omega); (case f => omega))
  | ((with_reducible refine' x_tylst ?e ?_); (case e => walk_at "get"))
  | ((with_reducible refine' x_append ?e ?f ?_); (case e => walk_at "get"); (case f => walk_at "size"))
  | ((with_reducible refine' And.intro ?e ?_); (case e => (show _ ≤ sizeLine; walk_at "size")))
  | ((with_reducible refine' Exists.intro _ (And.intro ?e ?_)); (case e => with_unfolding_all rfl)))
/-! ### alike, kind by kind -/
inductive Sd : Nat → T → Prop
  | str {n : Nat} {z : Str} : Wd z → Sd n (.str z)
  | int {n : Nat} {i : Int} : Sd n (.int i)
  | tup {n : Nat} {ts : List T} : ts.length ≤ 1000 → (∀ t ∈ ts, Sd n t) → Sd (n + 1) (.tup ts)
theorem Sd.le {n : Nat} {t : T} (h : Sd n t) : ∀ {m : Nat}, n ≤ m → Sd m t := by
  induction h with
  | str a => intro m _; exact .str a
  | int => intro m _; exact .int
  | tup a _ ih => intro m l; obtain ⟨m, rfl⟩ : ∃ m', m = m' + 1 := ⟨m - 1, by omega⟩; exact .tup a fun t ht => ih t ht (by omega)
def SqB (b : Bool) (G : Gp) (s : T) (ts : List T) : Prop := if b = true then s = .tup ts else ∃ p, s = .ref p ∧ G p = some (.lst ts)
theorem SqB.ext {b : Bool} {G G' : Gp} {s : T} {ts : List T} (f : Ext G G') (h : SqB b G s ts) : SqB b G' s ts := by
  cases b with
  | true => exact h
  | false =>
    obtain ⟨p, e, h⟩ := (show ∃ p, s = .ref p ∧ G p = some (.lst ts) from h)
    exact (show ∃ p, s = .ref p ∧ G' p = some (.lst ts) from ⟨p, e, f _ _ h⟩)
theorem SqB.facts {b : Bool} {G : Gp} {s : T} {ts : List T} (h : SqB b G s ts) : srcT G s ts ∧ isSq G s ts ∧ tyN G s = some (if b = true then "tuple" else "list") ∧ Held G (heldT s ts) := by
  cases b with
  | true =>
    have h : s = .tup ts := h
    subst h
    exact ⟨.inl rfl, .inl rfl, rfl, fun q hq => by cases hq⟩
  | false =>
    obtain ⟨p, rfl, e⟩ := (show ∃ p, s = .ref p ∧ G p = some (.lst ts) from h)
    refine ⟨.inr (.inl (.inr ⟨p, rfl, e⟩)), .inr (.inr ⟨p, rfl, e⟩), ?_, fun q hq => ?_⟩
    · simp [tyN, e]
    · have : q = (p, ts) := by simpa [heldT] using hq
      subst this
      exact e
theorem x_eqBB {b : Bool} {G : Gp} {R : KT} (h : R (.bl true) G) : oEq (.bl b) (.bl b) G R := ⟨.bool b, .bool b, .bl b, .bl b, rfl, rfl, by cases b <;> exact h⟩
def SameOk (k n : Nat) : Prop := ∀ (t : T) (G : Gp) (R : KT), Sd n t → (∀ G', Ext G G' → R (.bl true) G') → SP k 7 [t, t] G R
theorem same_seq {k n : Nat} (IH : SameOk k n) {b : Bool} {s u : T} {ts : List T} {G : Gp} {R : KT} (hs : SqB b G s ts) (hu : SqB b G u ts) (hl : ts.length ≤ 1000) (ht : ∀ t ∈ ts, Sd n t) (hR : ∀ G', Ext G G' → R (.bl true) G') : SP (k + 1) 7 [s, u] G R := by
  have szl := sizeLine_eq
  show spOf 4 2 (b7 (SP k)) _ _ _
  refine ⟨rfl, ?_⟩
  unfold b7
  obtain ⟨s1, s2, s3, s4⟩ := hs.facts
  obtain ⟨u1, u2, u3, u4⟩ := hu.facts
  have k1 : knownTy "list" := by simp [knownTy]
  have k2 : knownTy "tuple" := by simp [knownTy]
  with_reducible refine x_seq ?_
  with_reducible refine x_if ?_
  refine x_tru (x_isi2 (x_var rfl ⟨_, k1, k2, u3, _, rfl, ?_⟩))
  refine x_iteT (by cases b <;> decide) ?_
  with_reducible refine x_seq ?_
  with_reducible refine x_if ?_
  refine x_orT (x_b (x_op (x_call (x_cons (x_var rfl (x_cons (x_c (x_nil (x_isi s3 k1 (x_call (x_cons (x_var rfl (x_cons (x_c (x_nil (x_isi u3 k1 (x_neB ⟨_, rfl, ?_⟩)))))))))))))))))
  refine x_iteF rfl (x_b (x_op (x_call (x_cons (x_var rfl (x_cons (x_c (x_nil (x_isi s3 k2 (x_call (x_cons (x_var rfl (x_cons (x_c (x_nil (x_isi u3 k2 (x_neB ⟨_, rfl, ?_⟩)))))))))))))))))
  refine x_iteF rfl (x_next ?_)
  dsimp only
  refine x_ret (x_andv (x_op (x_call (x_cons (x_var rfl (x_nil (x_len s2 (x_call (x_cons (x_var rfl (x_nil (x_len u2 (x_eqI ⟨_, rfl, ?_⟩)))))))))))))
  refine x_iteT (decide_eq_true rfl) (x_call (x_cons ?_))
  refine x_lc (x_izip (x_var rfl (x_var rfl ⟨ts, ts, s1, u1, fun D hD => ?_⟩)))
  refine ⟨fun i G' => G' D = some (.lst (((ts.take i).map fun _ => true).map T.bl)) ∧ Ext G G', ⟨put_same, Ext.new hD⟩, ?_, ?_, ?_⟩
  · intro i G' ⟨_, w2⟩ q hq
    rcases List.mem_append.mp hq with z | z
    · exact (hs.ext w2).facts.2.2.2 q z
    · exact (hu.ext w2).facts.2.2.2 q z
  · intro i t2 G' ht2 ⟨w1, w2⟩
    have ht2 : (List.zipWith (fun a b => T.tup [a, b]) ts ts)[i]? = some t2 := ht2
    rw [List.getElem?_zipWith] at ht2
    cases e0 : ts[i]? with
    | none => rw [e0] at ht2; cases ht2
    | some y =>
      rw [e0] at ht2
      cases ht2
      refine x_gtup rfl (x_gcons (x_gname (x_gcons (x_gname (x_gnil (x_yes (x_iteT rfl (x_call (x_cons (x_var rfl (x_cons (x_var rfl (x_nil ?_)))))))))))))
      refine IH y G' _ (ht y (List.mem_of_getElem? e0)) fun G2 f2 => ?_
      refine ⟨_, f2 _ _ w1, by rw [List.length_map, List.length_map, List.length_take]; omega, fwdG.of ⟨?_, Ext.grow hD (w2.trans f2)⟩⟩
      rw [put_same, List.take_succ, e0, List.map_append, List.map_append]
      rfl
  · intro G' ⟨w1, w2⟩
    have w1 : G' D = some (.lst (((ts.take (List.zipWith (fun a b => T.tup [a, b]) ts ts).length).map fun _ => true).map T.bl)) := w1
    refine x_nil (x_all w1 (fwdT.of ?_))
    have e : ((ts.take (List.zipWith (fun a b => T.tup [a, b]) ts ts).length).map fun _ => true).all id = true := by
      rw [List.all_eq_true]
      intro c hc
      obtain ⟨_, _, rfl⟩ := List.mem_map.mp hc
      rfl
    rw [e]
    exact hR G' w2
theorem same_all : ∀ (n k : Nat), n + 1 ≤ k → SameOk k n := by
  have flat : ∀ (k : Nat) (t : T) (G : Gp) (R : KT), (∃ z, t = .str z ∧ Wd z) ∨ (∃ i, t = .int i) → (∀ G', Ext G G' → R (.bl true) G') → SP (k + 1) 7 [t, t] G R := by
    intro k t G R h hR
    show spOf 4 2 (b7 (SP k)) _ _ _
    refine ⟨rfl, ?_⟩
    unfold b7
    have k1 : knownTy "list" := by simp [knownTy]
    have k2 : knownTy "tuple" := by simp [knownTy]
    have k3 : knownTy "str" := by simp [knownTy]
    have k4 : knownTy "int" := by simp [knownTy]
    have k5 : knownTy "bool" := by simp [knownTy]
    rcases h with ⟨z, rfl, hz⟩ | ⟨i, rfl⟩
    · have ty : ∀ G : Gp, tyN G (.str z) = some "str" := fun _ => rfl
      with_reducible refine x_seq ?_
      with_reducible refine x_if ?_
      refine x_tru (x_isi2 (x_var rfl ⟨_, k1, k2, ty _, _, rfl, ?_⟩))
      refine x_iteF (by decide) (x_next ?_)
      dsimp only
      with_reducible refine x_seq ?_
      with_reducible refine x_if ?_
      refine x_orT (x_b (x_op (x_var rfl (x_c (x_isN ⟨_, rfl, x_iteF rfl (x_tru (x_call (x_cons (x_var rfl (x_cons (x_c (x_nil (x_isi (ty _) k3 ⟨_, rfl, ?_⟩))))))))⟩)))))
      refine x_iteT (by decide) ?_
      refine x_ret (x_andv (x_op (x_var rfl (x_var rfl (x_eqSS hz.sh hz.sh ⟨_, rfl, ?_⟩)))))
      refine x_iteT (decide_eq_true rfl) ?_
      refine x_op (x_call (x_cons (x_var rfl (x_cons (x_c (x_nil (x_isi (ty _) k3 (x_call (x_cons (x_var rfl (x_cons (x_c (x_nil (x_isi (ty _) k3 (x_eqBB ?_)))))))))))))))
      exact fwdT.of (hR G (Ext.refl G))
    · have ty : ∀ G : Gp, tyN G (.int i) = some "int" := fun _ => rfl
      with_reducible refine x_seq ?_
      with_reducible refine x_if ?_
      refine x_tru (x_isi2 (x_var rfl ⟨_, k1, k2, ty _, _, rfl, ?_⟩))
      refine x_iteF (by decide) (x_next ?_)
      dsimp only
      with_reducible refine x_seq ?_
      with_reducible refine x_if ?_
      refine x_orT (x_b (x_op (x_var rfl (x_c (x_isN ⟨_, rfl, x_iteF rfl (x_tru (x_call (x_cons (x_var rfl (x_cons (x_c (x_nil (x_isi (ty _) k3 ⟨_, rfl, ?_⟩))))))))⟩)))))
      refine x_iteF (by decide) (x_next ?_)
      dsimp only
      refine x_ret (x_andv (x_call (x_cons (x_var rfl (x_cons (x_c (x_nil (x_isi (ty _) k4 ⟨_, rfl, ?_⟩))))))))
      refine x_iteT (by decide) (x_andv ?_)
      refine x_op (x_call (x_cons (x_var rfl (x_cons (x_c (x_nil (x_isi (ty _) k5 (x_call (x_cons (x_var rfl (x_cons (x_c (x_nil (x_isi (ty _) k5 (x_eqBB ⟨_, rfl, ?_⟩)))))))))))))))
      refine x_iteT rfl (x_op (x_var rfl (x_var rfl (x_eqI ?_))))
      rw [decide_eq_true rfl]
      exact fwdT.of (hR G (Ext.refl G))
  intro n
  induction n with
  | zero =>
    intro k hk t G R ht hR
    obtain ⟨k, rfl⟩ : ∃ k0, k = k0 + 1 := ⟨k - 1, by omega⟩
    cases ht with
    | str a => exact flat k _ G R (.inl ⟨_, rfl, a⟩) hR
    | int => exact flat k _ G R (.inr ⟨_, rfl⟩) hR
  | succ n ih =>
    intro k hk t G R ht hR
    obtain ⟨k, rfl⟩ : ∃ k0, k = k0 + 1 := ⟨k - 1, by omega⟩
    cases ht with
    | str a => exact flat k _ G R (.inl ⟨_, rfl, a⟩) hR
    | int => exact flat k _ G R (.inr ⟨_, rfl⟩) hR
    | tup a b => exact same_seq (ih k (by omega)) (b := true) rfl rfl a b hR
end Lw

set_option Elab.async false
set_option linter.all false
set_option maxRecDepth 100000
set_option maxHeartbeats 1000000
namespace Lw
open PySem L2 Mi
local macro_rules | `(tactic| walk_at "get") => `(tactic| first | assumption | exact put_same | (refine get_new (by assumption) ?_; walk_at "get") | (refine get_ne (by assumption) ?_; walk_at "get"))
local macro_rules | `(tactic| walk_at "sq") => `(tactic| first | assumption | exact .inl rfl | exact .inr (.inl rfl) | exact .inr (.inr ⟨_, rfl, by walk_at "get"⟩))
local macro_rules | `(tactic| walk_at "size") => `(tactic| first | assumption | (simp only [List.length_cons, List.length_nil]; decide) | (have := sizeLine_eq; omega))
local macro_rules | `(tactic| walk_at "txt") => `(tactic| first | assumption | (simp only [Str.length, Str.cps_append, Array.size_append]; have := sizeLine_eq; omega))
local macro_rules | `(tactic| walk_at "go1") => `(tactic| first
  | ((with_reducible refine' x_var ?e ?_); (case e => with_unfolding_all rfl))
  | with_reducible refine x_seq ?_
  | with_reducible refine x_asg ?_
  | with_reducible refine x_if ?_
  | with_reducible refine x_ret ?_
  | with_reducible refine x_next ?_
  | with_reducible refine x_expr ?_
  | with_reducible refine x_gname ?_
  | with_reducible refine x_gcons ?_
  | with_reducible refine x_gnil ?_
  | with_reducible refine x_gsub ?_
  | with_reducible refine x_c ?_
  | with_reducible refine x_op ?_
  | with_reducible refine x_call ?_
  | with_reducible refine x_cons ?_
  | with_reducible refine x_nil ?_
  | with_reducible refine x_par ?_
  | with_reducible refine x_tup ?_
  | with_reducible refine x_lst ?_
  | with_reducible refine x_b ?_
  | with_reducible refine x_tru ?_
  | with_reducible refine x_not ?_
  | with_reducible refine x_or ?_
  | with_reducible refine x_and ?_
  | with_reducible refine x_ife ?_
  | with_reducible refine x_add ?_
  | with_reducible refine x_sub ?_
  | with_reducible refine x_gtI ?_
  | with_reducible refine x_ltI ?_
  | with_reducible refine x_geI ?_
  | with_reducible refine x_leI ?_
  | with_reducible refine x_abs ?_
  | with_reducible refine x_intb ?_
  | with_reducible refine x_for ?_
  | with_reducible refine x_irange ?_
  | with_reducible refine x_lc ?_
  | with_reducible refine x_yes ?_
  | with_reducible refine x_bm ?_
  | with_reducible refine x_bm0 ?_
  | with_reducible refine x_andv ?_
  | with_reducible refine x_orv ?_
  | with_reducible refine x_notv ?_
  | with_reducible refine x_eqI ?_
  | with_reducible refine x_tystr ?_
  | ((with_reducible refine' x_gtup ?e ?_); (case e => with_unfolding_all rfl))
  | ((with_reducible refine' x_pow ?e ?_); (case e => exact ⟨by decide, by decide, by decide⟩))
  | ((with_reducible refine' x_ix ?e ?q ?_); (case e => walk_at "get"); (case q => with_unfolding_all rfl))
  | ((with_reducible refine' x_ixt ?q ?_); (case q => with_unfolding_all rfl))
  | ((with_reducible refine' x_sto ?e ?q ?_); (case e => walk_at "get"); (case q => with_unfolding_all rfl))
  | ((with_reducible refine' x_adds ?e ?_); (case e => walk_at "txt"))
  | ((with_reducible refine' x_muls ?e ?f ?g ?_); (case e => omega); (case f => omega); (case g => walk_at "txt"))
  | ((with_reducible refine' x_divmod ?e ?_); (case e => exact ⟨by omega, by omega⟩))
  | ((with_reducible refine' x_mod ?e ?_); (case e => omega))
  | ((with_reducible refine' x_fdivC ?e ?f ?_); (case e => omega); (case f => omega))
  | ((with_reducible refine' x_mulL ?e ?f ?_); (case e => omega); (case f => omega))
  | ((with_reducible refine' x_mulR ?e ?f ?_); (case e => omega); (case f => omega))
  | ((with_reducible refine' x_len ?e ?_); (case e => walk_at "sq"))
  | ((with_reducible refine' x_range ?e ?f ?_); (case e => omega); (case f => omega))
  | ((with_reducible refine' x_tylst ?e ?_); (case e => walk_at "get"))
  | ((with_reducible refine' x_append ?e ?f ?_); (case e => walk_at "get"); (case f => walk_at "size"))
  | ((with_reducible refine' And.intro ?e ?_); (case e => (show _ ≤ sizeLine; walk_at "size")))
  | ((with_reducible refine' Exists.intro _ (And.intro ?e ?_)); (case e => with_unfolding_all rfl)))
def Cst : Nat → Int
  | 0 => 40
  | d + 1 => 10 * Cst d + 100
theorem Cst_pos : ∀ d, 40 ≤ Cst d
  | 0 => by decide
  | d + 1 => by have := Cst_pos d; unfold Cst; omega
structure Ws (ls ks : List Str) (fs : List (Str × Str)) : Prop where
  l0 : 2 ≤ ls.length
  l1 : ls.length ≤ 4
  k1 : ks.length ≤ 9
  f1 : fs.length ≤ 9
  lw : ∀ z ∈ ls, Wd z
  kw : ∀ z ∈ ks, Wd z
  fw : ∀ z ∈ fs, Wd z.1 ∧ Wd z.2
def TermOk (k d : Nat) : Prop := ∀ (G : Gp) (a pb : Addr) (N : Int) (w : T) (ls ks : List Str) (fs : List (Str × Str)) (bs : List Str) (R : KT), Bx G a N → N + Cst d < 1000000000 → Wk a G w ls ks fs → Ws ls ks fs →
  pb ≠ a → G pb = some (.lst (bs.map T.str)) → bs.length + d ≤ 1000 → (∀ z ∈ bs, Wd z) → (∀ t G', Tm d t → Fr a G G' → Bx G' a (N + Cst d) → R t G') → SP k 12 [.ref a, w, .ref pb, .int (d : Nat)] G R
theorem case_ok {k d : Nat} (IH : TermOk (k + 2) d) {G : Gp} {a pb : Addr} {N : Int} {w one : T} {ls ks : List Str} {fs : List (Str × Str)} {bs : List Str} {R : KT} (h : Bx G a N) (hN : N + 9 * Cst d + 50 < 1000000000) (hw : Wk a G w ls ks fs) (ws : Ws ls ks fs)
    (hpb : pb ≠ a) (hb : G pb = some (.lst (bs.map T.str))) (hbl : bs.length + d + 1 ≤ 1000) (bw : ∀ z ∈ bs, Wd z) (h1 : Tm d one) (hR : ∀ t G', Tm (d + 1) t → Fr a G G' → Bx G' a (N + 9 * Cst d + 50) → R t G') :
    SP (k + 3) 13 [.ref a, w, .ref pb, one, .int ((d + 1 : Nat) : Nat)] G R := by
  show spOf 9 5 (b13 (SP (k + 2))) _ _ _
  refine ⟨rfl, ?_⟩
  unfold b13
  have hC := Cst_pos d
  refine x_seq (x_par (x_cons (x_orv (x_sl ?_))))
  refine pick_ok h (by omega) hw ws.l1 rfl rfl (by decide) (by simp) fun D zs G1 Da eD zm zl f1 B1 => ?_
  refine x_slN ?_
  refine ⟨2, rfl, x_slL eD fun q hq => ?_⟩
  have qa := B1.ne hq
  -- the labels that are taken
  have main : ∀ (p5 : Addr) (zs : List Str) (G1 : Gp), p5 ≠ a → G1 p5 = some (.lst (zs.map T.str)) → (∀ z ∈ zs, Wd z) → zs.length ≤ 4 → Fr a G G1 → Bx G1 a (N + 10) →
      maCons (mLst maNil) maNil (List.map some [T.ref a, w, T.ref pb, one, T.int ((d + 1 : Nat) : Nat)] ++ List.replicate (9 - 5) none) G1 (fun ts G1 => ∃ s t, T.ref p5 :: ts = [s, t] ∧
        (msSeq (msFor (miSeq (mVar 5)) (mgName 7) (msSeq (msAsg (mCall (SP (k + 2) 8) (maCons (mVar 0) (maCons (mDGet (mVar 1) (mC (.str "labels"))) maNil))) (mgName 8)) (msExpr (mBm "list" omAppend (mVar 6) (maCons (mTup (maCons (mVar 7) (maCons (mVar 8) (maCons (mCall (SP (k + 2) 12) (maCons (mVar 0) (maCons (mVar 1) (maCons (mOp oAdd (mVar 2) (mLst (maCons (mVar 8) maNil))) (maCons (mOp oSub (mVar 4) (mC (.int 1))) maNil))))) maNil)))) maNil))))) (msRet (mTup (maCons (mC (.str "case")) (maCons (mVar 3) (maCons (mCall omTuple (maCons (mVar 6) maNil)) maNil))))))
          { nx := fun _ G' => fwdT R T.non G', rt := fwdT R } (((List.map some [T.ref a, w, T.ref pb, one, T.int ((d + 1 : Nat) : Nat)] ++ List.replicate (9 - 5) none).set 5 (some s)).set 6 (some t)) G1) := by
    intro p5 zs G1 p5a e5 zw zl f1 B1
    repeat walk_at "go1"
    intro p6 hp6
    have p6a := B1.ne hp6
    have p60 := f1.none p6a hp6
    repeat walk_at "go1"
    refine ⟨_, _, rfl, ?_⟩
    refine x_seq (x_for (x_iseq (x_var rfl ⟨zs.map T.str, .inr (.inl (.inr ⟨p5, rfl, get_new hp6 e5⟩)), ?_⟩)))
    have p56 : p5 ≠ p6 := fun z => by rw [z, hp6] at e5; cases e5
    refine ⟨fun i r G' => ∃ (ps : List (Str × Str × T)) (x7 x8 : Option T), ps.length = i ∧ (∀ p ∈ ps, Wd p.1) ∧ (∀ p ∈ ps, Wd p.2.1) ∧ (∀ p ∈ ps, Tm d p.2.2) ∧
      r = [some (.ref a), some w, some (.ref pb), some one, some (.int ((d + 1 : Nat) : Nat)), some (.ref p5), some (.ref p6), x7, x8] ∧ G' p6 = some (.lst (ps.map wayT)) ∧ G' p5 = some (.lst (zs.map T.str)) ∧ Fr a G G' ∧ Bx G' a (N + 10 + Cs (Cst d) i), ?_, ?_, ?_, ?_⟩
    · exact ⟨[], none, none, rfl, by simp, by simp, by simp, rfl, put_same, get_new hp6 e5, Fr.grow p60 f1, (B1.new hp6).le (by simp [Cs])⟩
    · intro i r G' ⟨ps, x7, x8, w1, w2, w3, w4, w5, w6, w7, w8, w9⟩ q hq
      have : q = (p5, zs.map T.str) := by simpa [heldT] using hq
      subst this
      exact w7
    · intro i t r G' ht ⟨ps, x7, x8, w1, w2, w3, w4, w5, w6, w7, w8, w9⟩
      subst w5
      rw [List.getElem?_map] at ht
      cases e0 : zs[i]? with
      | none => rw [e0] at ht; cases ht
      | some y =>
        rw [e0] at ht
        cases ht
        have hi := (List.getElem?_eq_some_iff.mp e0).1
        have hy : y ∈ zs := List.mem_of_getElem? e0
        have c1 := Cs_le (C := Cst d) (by omega) (n := i + 1) (m := 9) (by omega)
        rw [Cs9] at c1
        have c2 : Cs (Cst d) (i + 1) = Cs (Cst d) i + (Cst d + 1) := rfl
        repeat walk_at "go1"
        obtain ⟨b, pl, ew, pla, el, ow⟩ := (hw.fr w8).labels
        refine x_dget (x_var rfl (x_c ⟨b, .ref pl, ew, ow, ?_⟩))
        repeat walk_at "go1"
        refine of_ok w9 (by omega) (.inr (.inr ⟨pl, pla, rfl, el⟩)) (by rw [List.length_map]; have := ws.l0; omega) (by rw [List.length_map]; have := ws.l1; omega) fun t G2 mt f2 B2 => ?_
        obtain ⟨x, hx, rfl⟩ := List.mem_map.mp mt
        have e6a : G2 p6 = some (.lst (ps.map wayT)) := f2 _ _ p6a w6
        repeat walk_at "go1"
        intro q hq
        repeat walk_at "go1"
        have eb : G2 pb = some (.lst (bs.map T.str)) := f2 _ _ hpb (w8 _ _ hpb hb)
        refine x_catL (get_new hq eb) put_same (by simp only [List.length_map, List.length_cons, List.length_nil]; have := sizeLine_eq; omega) fun n hn => ?_
        repeat walk_at "go1"
        rw [show ((d + 1 : Nat) : Int) - 1 = (d : Nat) by omega]
        have B3 : Bx (put (put G2 q (.lst [.str x])) n (.lst (bs.map T.str ++ [.str x]))) a _ := (B2.new hq).new hn
        have f3 : Fr a G' (put (put G2 q (.lst [.str x])) n (.lst (bs.map T.str ++ [.str x]))) := f2.trans ((Fr.new hq).trans (Fr.new hn))
        refine IH _ a n _ w ls ks fs (bs ++ [x]) _ B3 (by omega) ((hw.fr w8).fr f3) ws ((B2.new hq).ne hn) (by rw [put_same, map_str]) (by simp; omega) (fun z hz => ?_) fun t G4 ht f4 B4 => ?_
        · rcases List.mem_append.mp hz with q | q
          · exact bw z q
          · rw [show z = x by simpa using q]; exact ws.lw x hx
        have f5 := f3.trans f4
        have e6 : G4 p6 = some (.lst (ps.map wayT)) := f5 _ _ p6a w6
        repeat walk_at "go1"
        refine x_append e6 (by rw [List.length_map]; have := sizeLine_eq; omega) ?_
        refine fwd.of ⟨ps ++ [(y, x, t)], _, _, by simp [w1], ?_, ?_, ?_, rfl, ?_, ?_, ?_, ?_⟩
        · intro p hp
          rcases List.mem_append.mp hp with q | q
          · exact w2 p q
          · rw [show p = (y, x, t) by simpa using q]; exact zw y hy
        · intro p hp
          rcases List.mem_append.mp hp with q | q
          · exact w3 p q
          · rw [show p = (y, x, t) by simpa using q]; exact ws.lw x hx
        · intro p hp
          rcases List.mem_append.mp hp with q | q
          · exact w4 p q
          · rw [show p = (y, x, t) by simpa using q]; exact ht
        · rw [put_same, List.map_append]; rfl
        · rw [put_ne p56]; exact f5 _ _ p5a w7
        · exact Fr.grow p60 (w8.trans f5)
        · exact (B4.put p6a).le (by omega)
    · intro r G' ⟨ps, x7, x8, w1, w2, w3, w4, w5, w6, w7, w8, w9⟩
      subst w5
      have hl : ps.length ≤ 4 := by rw [w1]; show (zs.map T.str).length ≤ 4; rw [List.length_map]; exact zl
      have c1 := Cs_le (C := Cst d) (by omega) (n := ps.length) (m := 9) (by omega)
      rw [Cs9] at c1
      repeat walk_at "go1"
      refine ⟨_, ps.map wayT, rfl, .inr (.inr ⟨p6, rfl, w6⟩), by rw [List.length_map]; have := sizeLine_eq; omega, ?_⟩
      repeat walk_at "go1"
      refine fwdT.of (hR _ _ (.case hl h1 w2 w3 w4) w8 (w9.le ?_))
      rw [← w1]
      omega
  refine x_tru_lst put_same (x_ite (fun _ => ?_) (fun _ => ?_))
  · exact main q _ _ qa put_same (fun z hz => ws.lw z (zm z (cut_mem hz))) (Nat.le_trans (cutT_length _ _ _) zl) (Fr.trans f1 (Fr.new hq)) (B1.new hq)
  · obtain ⟨b, pl, ew, pla, el, ow⟩ := (hw.fr (f1.trans (Fr.new hq (c := .lst ((cutT zs none (some 2)).map T.str))))).labels
    refine x_sl (x_dget (x_var rfl (x_c ⟨b, .ref pl, ew, ow, x_slN ⟨1, rfl, x_slL el fun q2 hq2 => ?_⟩⟩)))
    exact main q2 _ _ ((B1.new hq).ne hq2) put_same (fun z hz => ws.lw z (cut_mem hz)) (Nat.le_trans (cutT_length _ _ _) ws.l1) ((f1.trans (Fr.new hq)).trans (Fr.new hq2)) ((B1.new hq).new hq2)

end Lw

set_option Elab.async false
set_option linter.all false
set_option maxRecDepth 100000
set_option maxHeartbeats 1000000
namespace Lw
open PySem L2 Mi
local macro_rules | `(tactic| walk_at "get") => `(tactic| first | assumption | exact put_same | (refine get_new (by assumption) ?_; walk_at "get") | (refine get_ne (by assumption) ?_; walk_at "get"))
local macro_rules | `(tactic| walk_at "sq") => `(tactic| first | assumption | exact .inl rfl | exact .inr (.inl rfl) | exact .inr (.inr ⟨_, rfl, by walk_at "get"⟩))
local macro_rules | `(tactic| walk_at "size") => `(tactic| first | assumption | (simp only [List.length_cons, List.length_nil]; decide) | (have := sizeLine_eq; omega))
local macro_rules | `(tactic| walk_at "txt") => `(tactic| first | assumption | (simp only [Str.length, Str.cps_append, Array.size_append]; have := sizeLine_eq; omega))
local macro_rules | `(tactic| walk_at "go1") => `(tactic| first
  | ((with_reducible refine' x_var ?e ?_); (case e => with_unfolding_all rfl))
  | with_reducible refine x_seq ?_
  | with_reducible refine x_asg ?_
  | with_reducible refine x_if ?_
  | with_reducible refine x_ret ?_
  | with_reducible refine x_next ?_
  | with_reducible refine x_expr ?_
  | with_reducible refine x_gname ?_
  | with_reducible refine x_gcons ?_
  | with_reducible refine x_gnil ?_
  | with_reducible refine x_gsub ?_
  | with_reducible refine x_c ?_
  | with_reducible refine x_op ?_
  | with_reducible refine x_call ?_
  | with_reducible refine x_cons ?_
  | with_reducible refine x_nil ?_
  | with_reducible refine x_par ?_
  | with_reducible refine x_tup ?_
  | with_reducible refine x_lst ?_
  | with_reducible refine x_b ?_
  | with_reducible refine x_tru ?_
  | with_reducible refine x_not ?_
  | with_reducible refine x_or ?_
  | with_reducible refine x_and ?_
  | with_reducible refine x_ife ?_
  | with_reducible refine x_add ?_
  | with_reducible refine x_sub ?_
  | with_reducible refine x_gtI ?_
  | with_reducible refine x_ltI ?_
  | with_reducible refine x_geI ?_
  | with_reducible refine x_leI ?_
  | with_reducible refine x_abs ?_
  | with_reducible refine x_intb ?_
  | with_reducible refine x_for ?_
  | with_reducible refine x_irange ?_
  | with_reducible refine x_lc ?_
  | with_reducible refine x_yes ?_
  | with_reducible refine x_bm ?_
  | with_reducible refine x_bm0 ?_
  | with_reducible refine x_andv ?_
  | with_reducible refine x_orv ?_
  | with_reducible refine x_notv ?_
  | with_reducible refine x_eqI ?_
  | with_reducible refine x_tystr ?_
  | ((with_reducible refine' x_gtup ?e ?_); (case e => with_unfolding_all rfl))
  | ((with_reducible refine' x_pow ?e ?_); (case e => exact ⟨by decide, by decide, by decide⟩))
  | ((with_reducible refine' x_ix ?e ?q ?_); (case e => walk_at "get"); (case q => with_unfolding_all rfl))
  | ((with_reducible refine' x_ixt ?q ?_); (case q => with_unfolding_all rfl))
  | ((with_reducible refine' x_sto ?e ?q ?_); (case e => walk_at "get"); (case q => with_unfolding_all rfl))
  | ((with_reducible refine' x_adds ?e ?_); (case e => walk_at "txt"))
  | ((with_reducible refine' x_muls ?e ?f ?g ?_); (case e => omega); (case f => omega); (case g => walk_at "txt"))
  | ((with_reducible refine' x_divmod ?e ?_); (case e => exact ⟨by omega, by omega⟩))
  | ((with_reducible refine' x_mod ?e ?_); (case e => omega))
  | ((with_reducible refine' x_fdivC ?e ?f ?_); (case e => omega); (case f => omega))
  | ((with_reducible refine' x_mulL ?e ?f ?_); (case e => omega); (case f => omega))
  | ((with_reducible refine' x_mulR ?e ?f ?_); (case e => omega); (case f => omega))
  | ((with_reducible refine' x_len ?e ?_); (case e => walk_at "sq"))
  | ((with_reducible refine' x_range ?e ?f ?_); (case e => omega); (case f => omega))
  | ((with_reducible refine' x_tylst ?e ?_); (case e => walk_at "get"))
  | ((with_reducible refine' x_append ?e ?f ?_); (case e => walk_at "get"); (case f => walk_at "size"))
  | ((with_reducible refine' And.intro ?e ?_); (case e => (show _ ≤ sizeLine; walk_at "size")))
  | ((with_reducible refine' Exists.intro _ (And.intro ?e ?_)); (case e => with_unfolding_all rfl)))
theorem way_ok {k d : Nat} {r : Mi.Env} {G : Gp} {a : Addr} {N : Int} {K : KT} (h : Bx G a N) (hN : N < 1000000000) (h0 : r[0]? = some (some (.ref a)))
    (main : ∀ v G1, 0 ≤ v → v < 16 → (4 ≤ v → 2 ≤ d) → Fr a G G1 → Bx G1 a (N + 1) → K (.int v) G1) :
    if decide ((1 : Int) < (d : Nat)) = true then mCall (SP (k + 1) 6) (maCons (mVar 0) (maCons (mC (.int 16)) maNil)) r G K else mCall (SP (k + 1) 6) (maCons (mVar 0) (maCons (mC (.int 4)) maNil)) r G K := by
  refine x_ite (fun e => ?_) (fun e => ?_)
  · have e2 := of_decide_eq_true e
    refine x_call (x_cons (x_var h0 (x_cons (x_c (x_nil ?_)))))
    exact take_ok h hN (by omega) (by omega) fun v G1 a1 a2 f B => main v G1 a1 a2 (fun _ => by omega) f B
  · refine x_call (x_cons (x_var h0 (x_cons (x_c (x_nil ?_)))))
    exact take_ok h hN (by omega) (by omega) fun v G1 a1 a2 f B => main v G1 a1 (by omega) (fun _ => by omega) f B
theorem first_test {r : Mi.Env} {G : Gp} {a p5 : Addr} {v N : Int} {w : T} {ls ks : List Str} {fs : List (Str × Str)} {ns : List Str} {R : Bool → Gp → Prop} (h : Bx G a N) (hw : Wk a G w ls ks fs) (ws : Ws ls ks fs) (h1 : r[1]? = some (some w)) (h4 : r[4]? = some (some (.int v))) (h5 : r[5]? = some (some (.ref p5)))
    (pa : p5 ≠ a) (e5 : G p5 = some (.lst (ns.map T.str))) (nw : ∀ z ∈ ns, Wd z)
    (main : ∀ b G1, (b = false → v ≠ 0 ∧ (v = 1 → ns ≠ []) ∧ (v = 2 → fs ≠ []) ∧ (v = 3 → ns ≠ [])) → Fr a G G1 → Bx G1 a N → R b G1) :
    tmOr (mB (mOp oEq (mVar 4) (mC (.int 0)))) (tmOr (tmAnd (mB (mOp oEq (mVar 4) (mC (.int 1)))) (mB (mOp oEq (mVar 5) (mLst maNil)))) (tmOr (tmAnd (mB (mOp oEq (mVar 4) (mC (.int 2)))) (mB (mOp oEq (mDGet (mVar 1) (mC (.str "froms"))) (mLst maNil)))) (tmAnd (mB (mOp oEq (mVar 4) (mC (.int 3)))) (mB (mOp oEq (mVar 5) (mLst maNil)))))) r G R := by
  have emp : ∀ {zs : List Str}, zs.isEmpty = false → zs ≠ [] := fun e z => by rw [z] at e; cases e
  have empP : ∀ {zs : List (Str × Str)}, zs.isEmpty = false → zs ≠ [] := fun e z => by rw [z] at e; cases e
  refine x_or (x_b (x_op (x_var h4 (x_c (x_eqI ⟨_, rfl, x_ite (fun e => main _ _ (fun z => by cases z) (Fr.refl G) h) fun e0 => ?_⟩)))))
  have n0 := of_decide_eq_false e0
  refine x_or (x_and (x_b (x_op (x_var h4 (x_c (x_eqI ⟨_, rfl, x_ite (fun e1 => ?_) fun e1 => ?_⟩))))))
  · have n1 := of_decide_eq_true e1
    refine x_b (x_op (x_var h5 (x_lst (x_nil ⟨by simp, fun q hq => x_eqNil (get_new hq e5) put_same nw ⟨_, rfl, ?_⟩⟩))))
    refine x_ite (fun e => main _ _ (fun z => by cases z) (Fr.new hq) (h.new hq)) fun e2 => ?_
    refine x_or (x_and (x_b (x_op (x_var h4 (x_c (x_eqI ⟨_, rfl, x_ite (fun e => by have := of_decide_eq_true e; omega) fun e3 => ?_⟩))))))
    rw [if_neg (by decide)]
    refine x_and (x_b (x_op (x_var h4 (x_c (x_eqI ⟨_, rfl, x_ite (fun e => by have := of_decide_eq_true e; omega) fun e3 => ?_⟩)))))
    exact main _ _ (fun _ => ⟨n0, fun _ => emp e2, fun _ => by omega, fun _ => by omega⟩) (Fr.new hq) (h.new hq)
  have n1 := of_decide_eq_false e1
  rw [if_neg (by decide)]
  refine x_or (x_and (x_b (x_op (x_var h4 (x_c (x_eqI ⟨_, rfl, x_ite (fun e1 => ?_) fun e1 => ?_⟩))))))
  · have n2 := of_decide_eq_true e1
    obtain ⟨b, pf, ew, pfa, ef, ow⟩ := hw.froms
    refine x_b (x_op (x_dget (x_var h1 (x_c ⟨b, .ref pf, ew, ow, x_lst (x_nil ⟨by simp, fun q hq => x_eqNilP (get_new hq ef) put_same ws.fw ⟨_, rfl, ?_⟩⟩)⟩))))
    refine x_ite (fun e => main _ _ (fun z => by cases z) (Fr.new hq) (h.new hq)) fun e2 => ?_
    refine x_and (x_b (x_op (x_var h4 (x_c (x_eqI ⟨_, rfl, x_ite (fun e => by have := of_decide_eq_true e; omega) fun e3 => ?_⟩)))))
    exact main _ _ (fun _ => ⟨n0, fun _ => by omega, fun _ => empP e2, fun _ => by omega⟩) (Fr.new hq) (h.new hq)
  have n2 := of_decide_eq_false e1
  rw [if_neg (by decide)]
  refine x_and (x_b (x_op (x_var h4 (x_c (x_eqI ⟨_, rfl, x_ite (fun e1 => ?_) fun e1 => ?_⟩)))))
  · have n3 := of_decide_eq_true e1
    refine x_b (x_op (x_var h5 (x_lst (x_nil ⟨by simp, fun q hq => x_eqNil (get_new hq e5) put_same nw ⟨_, rfl, ?_⟩⟩))))
    refine main _ _ (fun e2 => ⟨n0, fun _ => by omega, fun _ => by omega, fun _ => emp e2⟩) (Fr.new hq) (h.new hq)
  · have n3 := of_decide_eq_false e1
    exact main _ _ (fun _ => ⟨n0, fun _ => by omega, fun _ => by omega, fun _ => by omega⟩) (Fr.refl G) h

end Lw

set_option Elab.async false
set_option linter.all false
set_option maxRecDepth 100000
set_option maxHeartbeats 1000000
namespace Lw
open PySem L2 Mi
local macro_rules | `(tactic| walk_at "get") => `(tactic| first | assumption | exact put_same | (refine get_new (by assumption) ?_; walk_at "get") | (refine get_ne (by assumption) ?_; walk_at "get"))
local macro_rules | `(tactic| walk_at "sq") => `(tactic| first | assumption | exact .inl rfl | exact .inr (.inl rfl) | exact .inr (.inr ⟨_, rfl, by walk_at "get"⟩))
local macro_rules | `(tactic| walk_at "size") => `(tactic| first | assumption | (simp only [List.length_cons, List.length_nil]; decide) | (have := sizeLine_eq; omega))
local macro_rules | `(tactic| walk_at "txt") => `(tactic| first | assumption | (simp only [Str.length, Str.cps_append, Array.size_append]; have := sizeLine_eq; omega))
local macro_rules | `(tactic| walk_at "go1") => `(tactic| first
  | ((with_reducible refine' x_var ?e ?_); (case e => with_unfolding_all rfl))
  | with_reducible refine x_seq ?_
  | with_reducible refine x_asg ?_
  | with_reducible refine x_if ?_
  | with_reducible refine x_ret ?_
  | with_reducible refine x_next ?_
  | with_reducible refine x_expr ?_
  | with_reducible refine x_gname ?_
  | with_reducible refine x_gcons ?_
  | with_reducible refine x_gnil ?_
  | with_reducible refine x_gsub ?_
  | with_reducible refine x_c ?_
  | with_reducible refine x_op ?_
  | with_reducible refine x_call ?_
  | with_reducible refine x_cons ?_
  | with_reducible refine x_nil ?_
  | with_reducible refine x_par ?_
  | with_reducible refine x_tup ?_
  | with_reducible refine x_lst ?_
  | with_reducible refine x_b ?_
  | with_reducible refine x_tru ?_
  | with_reducible refine x_not ?_
  | with_reducible refine x_or ?_
  | with_reducible refine x_and ?_
  | with_reducible refine x_ife ?_
  | with_reducible refine x_add ?_
  | with_reducible refine x_sub ?_
  | with_reducible refine x_gtI ?_
  | with_reducible refine x_ltI ?_
  | with_reducible refine x_geI ?_
  | with_reducible refine x_leI ?_
  | with_reducible refine x_abs ?_
  | with_reducible refine x_intb ?_
  | with_reducible refine x_for ?_
  | with_reducible refine x_irange ?_
  | with_reducible refine x_lc ?_
  | with_reducible refine x_yes ?_
  | with_reducible refine x_bm ?_
  | with_reducible refine x_bm0 ?_
  | with_reducible refine x_andv ?_
  | with_reducible refine x_orv ?_
  | with_reducible refine x_notv ?_
  | with_reducible refine x_eqI ?_
  | with_reducible refine x_tystr ?_
  | ((with_reducible refine' x_gtup ?e ?_); (case e => with_unfolding_all rfl))
  | ((with_reducible refine' x_pow ?e ?_); (case e => exact ⟨by decide, by decide, by decide⟩))
  | ((with_reducible refine' x_ix ?e ?q ?_); (case e => walk_at "get"); (case q => with_unfolding_all rfl))
  | ((with_reducible refine' x_ixt ?q ?_); (case q => with_unfolding_all rfl))
  | ((with_reducible refine' x_sto ?e ?q ?_); (case e => walk_at "get"); (case q => with_unfolding_all rfl))
  | ((with_reducible refine' x_adds ?e ?_); (case e => walk_at "txt"))
  | ((with_reducible refine' x_muls ?e ?f ?g ?_); (case e => omega); (case f => omega); (case g => walk_at "txt"))
  | ((with_reducible refine' x_divmod ?e ?_); (case e => exact ⟨by omega, by omega⟩))
  | ((with_reducible refine' x_mod ?e ?_); (case e => omega))
  | ((with_reducible refine' x_fdivC ?e ?f ?_); (case e => omega); (case f => omega))
  | ((with_reducible refine' x_mulL ?e ?f ?_); (case e => omega); (case f => omega))
  | ((with_reducible refine' x_mulR ?e ?f ?_); (case e => omega); (case f => omega))
  | ((with_reducible refine' x_len ?e ?_); (case e => walk_at "sq"))
  | ((with_reducible refine' x_range ?e ?f ?_); (case e => omega); (case f => omega))
  | ((with_reducible refine' x_tylst ?e ?_); (case e => walk_at "get"))
  | ((with_reducible refine' x_append ?e ?f ?_); (case e => walk_at "get"); (case f => walk_at "size"))
  | ((with_reducible refine' And.intro ?e ?_); (case e => (show _ ≤ sizeLine; walk_at "size")))
  | ((with_reducible refine' Exists.intro _ (And.intro ?e ?_)); (case e => with_unfolding_all rfl)))
theorem lab_raw {k : Nat} {r : Mi.Env} {G : Gp} {a : Addr} {N : Int} {w : T} {ls ks : List Str} {fs : List (Str × Str)} {K : KT} (h : Bx G a N) (hN : N < 1000000000) (hw : Wk a G w ls ks fs) (ws : Ws ls ks fs) (h1 : r[1]? = some (some w))
    (main : ∀ x G1, Wd x → Fr a G G1 → Bx G1 a (N + 1) → K (.str x) G1) : mDGet (mVar 1) (mC (.str "labels")) r G (fun t G1 => maNil r G1 fun ts G2 => SP (k + 2) 8 (.ref a :: t :: ts) G2 K) := by
  obtain ⟨b, pl, ew, pla, el, ow⟩ := hw.labels
  refine x_dget (x_var h1 (x_c ⟨b, .ref pl, ew, ow, x_nil ?_⟩))
  refine of_ok h hN (.inr (.inr ⟨pl, pla, rfl, el⟩)) (by rw [List.length_map]; have := ws.l0; omega) (by rw [List.length_map]; have := ws.l1; omega) fun t G2 mt f2 B2 => ?_
  obtain ⟨x, hx, rfl⟩ := List.mem_map.mp mt
  exact main x G2 (ws.lw x hx) f2 B2
theorem one_ok {d : Nat} {b : Bool} {sp : Sm} {r : Mi.Env} {G : Gp} {a pb : Addr} {w : T} {dd N : Int} {K : KT} (h0 : r[0]? = some (some (.ref a))) (h1 : r[1]? = some (some w)) (h2 : r[2]? = some (some (.ref pb))) (h3 : r[3]? = some (some (.int dd)))
    (sub : ∀ K : KT, (∀ t G2, Tm d t → Fr a G G2 → Bx G2 a (N + Cst d) → K t G2) → sp [.ref a, w, .ref pb, .int (dd - 1)] G K) (B : Bx G a N) (main : ∀ t G2, Tm d t → Fr a G G2 → Bx G2 a (N + Cst d) → K t G2) :
    if b = true then mCall sp (maCons (mVar 0) (maCons (mVar 1) (maCons (mVar 2) (maCons (mOp oSub (mVar 3) (mC (.int 1))) maNil)))) r G K else mTup (maCons (mC (.str "num")) (maCons (mC (.int 0)) maNil)) r G K := by
  refine x_ite (fun _ => ?_) (fun _ => ?_)
  · exact x_call (x_cons (x_var h0 (x_cons (x_var h1 (x_cons (x_var h2 (x_cons (x_op (x_var h3 (x_c (x_sub (x_nil (sub K main)))))))))))))
  · exact x_tup (x_cons (x_c (x_cons (x_c (x_nil ⟨by show 2 ≤ sizeLine; decide, main _ _ (.num (by decide) (by decide)) (Fr.refl G) (B.le (by have := Cst_pos d; omega))⟩)))))
theorem term_step {k d : Nat} (IH : ∀ d', d = d' + 1 → TermOk (k + 5) d' ∧ TermOk (k + 4) d') : TermOk (k + 6) d := by
  intro G a pb N w ls ks fs bs R h hN hw ws hpb hb hbl bw hR
  show spOf 12 4 (b12 (SP (k + 5))) _ _ _
  refine ⟨rfl, ?_⟩
  unfold b12
  have hC := Cst_pos d
  repeat walk_at "go1"
  refine way_ok h (by omega) rfl fun v G1 v0 v1 vd f1 B1 => ?_
  repeat walk_at "go1"
  obtain ⟨b, pk, ew, pka, ek, ow⟩ := (hw.fr f1).knows
  refine x_dget (x_var rfl (x_c ⟨b, .ref pk, ew, ow, ?_⟩))
  refine x_catL (f1 _ _ hpb hb) ek (by simp only [List.length_map]; have := ws.k1; have := sizeLine_eq; omega) fun p5 hp5 => ?_
  have p5a := B1.ne hp5
  have f2 : Fr a G (put G1 p5 (.lst (bs.map T.str ++ ks.map T.str))) := f1.trans (Fr.new hp5)
  have B2 := B1.new (c := .lst (bs.map T.str ++ ks.map T.str)) hp5
  rw [← List.map_append] at f2 B2 ⊢
  have nw : ∀ z ∈ bs ++ ks, Wd z := fun z hz => (List.mem_append.mp hz).elim (bw z) (ws.kw z)
  have nl : (bs ++ ks).length ≤ 2000 := by rw [List.length_append]; have := ws.k1; omega
  have e5 : put G1 p5 (.lst ((bs ++ ks).map T.str)) p5 = some (.lst ((bs ++ ks).map T.str)) := put_same
  generalize put G1 p5 (.lst ((bs ++ ks).map T.str)) = G2 at *
  with_reducible refine x_gname ?_
  with_reducible refine x_seq ?_
  with_reducible refine x_if ?_
  with_reducible refine first_test (v := v) B2 (hw.fr f2) ws ?r1 ?r4 ?r5 p5a e5 nw ?_
  case r1 => rfl
  case r4 => rfl
  case r5 => rfl
  intro t1 G3 ht1 f3 B3
  have F3 := f2.trans f3
  refine x_ite (fun _ => ?_) (fun t1f => ?_)
  · repeat walk_at "go1"
    refine take_ok B3 (by omega) (by omega) (by omega) fun u G4 u0 u1 f4 B4 => ?_
    repeat walk_at "go1"
    intro q hq
    repeat walk_at "go1"
    refine of_ok (B4.new hq) (by omega) (.inr (.inr ⟨q, B4.ne hq, rfl, put_same⟩)) (by simp) (by simp) fun t G5 mt f5 B5 => ?_
    repeat walk_at "go1"
    obtain ⟨i, rfl, i0, i1⟩ : ∃ i : Int, t = .int i ∧ 0 ≤ i ∧ i ≤ 99990 := by
      simp only [List.mem_cons, List.not_mem_nil, or_false] at mt
      rcases mt with rfl | rfl | rfl | rfl
      · exact ⟨0, rfl, by omega, by omega⟩
      · exact ⟨1, rfl, by omega, by omega⟩
      · exact ⟨u, rfl, by omega, by omega⟩
      · exact ⟨99990, rfl, by omega, by omega⟩
    exact fwdT.of (hR _ _ (.num i0 i1) (F3.trans (f4.trans ((Fr.new hq).trans f5))) (B5.le (by omega)))
  obtain ⟨n0, n1, n2, n3⟩ := ht1 t1f
  repeat walk_at "go1"
  with_reducible refine x_in2 ?_
  repeat walk_at "go1"
  refine x_ite (fun c => ?_) (fun c => ?_)
  · have c2 : v = 1 ∨ v = 3 := by simpa using c
    repeat walk_at "go1"
    have ne : bs ++ ks ≠ [] := c2.elim n1 n3
    refine of_ok B3 (by omega) (.inr (.inr ⟨p5, p5a, rfl, f3 _ _ p5a e5⟩)) (by rw [List.length_map]; exact List.length_pos_iff.mpr ne) (by rw [List.length_map]; omega) fun t G5 mt f5 B5 => ?_
    obtain ⟨x, hx, rfl⟩ := List.mem_map.mp mt
    repeat walk_at "go1"
    exact fwdT.of (hR _ _ (.name (nw x hx)) (F3.trans f5) (B5.le (by omega)))
  have c1 : ¬ (v = 1 ∨ v = 3) := by simpa using c
  repeat walk_at "go1"
  refine x_ite (fun c => ?_) (fun c => ?_)
  · have c2 := of_decide_eq_true c
    repeat walk_at "go1"
    obtain ⟨b, pf, ew, pfa, ef, ow⟩ := (hw.fr F3).froms
    refine x_dget (x_var rfl (x_c ⟨b, .ref pf, ew, ow, ?_⟩))
    repeat walk_at "go1"
    refine of_ok B3 (by omega) (.inr (.inr ⟨pf, pfa, rfl, ef⟩)) (by rw [List.length_map]; exact List.length_pos_iff.mpr (n2 c2)) (by rw [List.length_map]; have := ws.f1; omega) fun t G5 mt f5 B5 => ?_
    obtain ⟨p, hp, rfl⟩ := List.mem_map.mp mt
    refine x_catT (by show 3 ≤ sizeLine; decide) ?_
    exact fwdT.of (hR _ _ (.frm (ws.fw p hp).1 (ws.fw p hp).2) (F3.trans f5) (B5.le (by omega)))
  have c2 := of_decide_eq_false c
  have v4 : 4 ≤ v := by omega
  obtain ⟨d, rfl⟩ : ∃ d', d = d' + 1 := ⟨d - 1, by have := vd v4; omega⟩
  obtain ⟨IH, IH2⟩ := IH d rfl
  have hC2 := Cst_pos d
  have hCe : Cst (d + 1) = 10 * Cst d + 100 := rfl
  have sub : ∀ {G1 : Gp} {N1 : Int} {K : KT}, Bx G1 a N1 → N1 + Cst d < 1000000000 → Fr a G G1 → (∀ t G2, Tm d t → Fr a G1 G2 → Bx G2 a (N1 + Cst d) → K t G2) → SP (k + 5) 12 [.ref a, w, .ref pb, .int (((d + 1 : Nat) : Int) - 1)] G1 K := by
    intro G1 N1 K b1 b2 b3 b4
    rw [show ((d + 1 : Nat) : Int) - 1 = (d : Nat) by omega]
    exact IH G1 a pb N1 w ls ks fs bs K b1 b2 (hw.fr b3) ws hpb (b3 _ _ hpb hb) (by omega) bw b4
  repeat walk_at "go1"
  with_reducible refine x_nin3 ?_
  repeat walk_at "go1"
  refine one_ok (d := d) rfl rfl rfl rfl (fun K q => sub B3 (by omega) F3 q) B3 fun one G4 one1 f4 B4 => ?_
  have F4 := F3.trans f4
  repeat walk_at "go1"
  with_reducible refine x_in2 ?_
  repeat walk_at "go1"
  refine x_ite (fun _ => ?_) (fun c45 => ?_)
  · repeat walk_at "go1"
    refine lab_raw B4 (by omega) (hw.fr F4) ws rfl fun x G5 hx f5 B5 => ?_
    repeat walk_at "go1"
    intro q hq
    have F5 := F4.trans f5
    repeat walk_at "go1"
    refine x_catL (get_new hq (F5 _ _ hpb hb)) put_same (by simp only [List.length_map, List.length_cons, List.length_nil]; have := sizeLine_eq; omega) fun n hn => ?_
    repeat walk_at "go1"
    rw [show ((d + 1 : Nat) : Int) - 1 = (d : Nat) by omega]
    have B6 : Bx (put (put G5 q (.lst [.str x])) n (.lst (bs.map T.str ++ [.str x]))) a _ := (B5.new hq).new hn
    have f6 : Fr a G5 (put (put G5 q (.lst [.str x])) n (.lst (bs.map T.str ++ [.str x]))) := (Fr.new hq).trans (Fr.new hn)
    refine IH _ a n _ w ls ks fs (bs ++ [x]) _ B6 (by omega) (hw.fr (F5.trans f6)) ws ((B5.new hq).ne hn) (by rw [put_same, map_str]) (by simp; omega) (fun z hz => ?_) fun t G7 ht f7 B7 => ?_
    · rcases List.mem_append.mp hz with q | q
      · exact bw z q
      · rw [show z = x by simpa using q]; exact hx
    repeat walk_at "go1"
    exact fwdT.of (hR _ _ (.fn hx ht) (F5.trans (f6.trans f7)) (B7.le (by omega)))
  repeat walk_at "go1"
  with_reducible refine x_in2 ?_
  repeat walk_at "go1"
  refine x_ite (fun _ => ?_) (fun _ => ?_)
  · repeat walk_at "go1"
    refine sub B4 (by omega) F4 fun t G5 ht f5 B5 => ?_
    repeat walk_at "go1"
    exact fwdT.of (hR _ _ (.bin (by decide) one1 ht) (F4.trans f5) (B5.le (by omega)))
  repeat walk_at "go1"
  refine x_ite (fun _ => ?_) (fun _ => ?_)
  · repeat walk_at "go1"
    intro q hq
    repeat walk_at "go1"
    refine of_ok (B4.new hq) (by omega) (.inr (.inr ⟨q, B4.ne hq, rfl, put_same⟩)) (by simp) (by simp) fun t G5 mt f5 B5 => ?_
    have F5 := F4.trans ((Fr.new hq).trans f5)
    obtain ⟨u, rfl, hu⟩ : ∃ u : Str, t = .str u ∧ u ∈ (["call", "add", "less", "times"] : List Str) := by
      simp only [List.mem_cons, List.not_mem_nil, or_false] at mt
      rcases mt with rfl | rfl | rfl
      · exact ⟨_, rfl, by decide⟩
      · exact ⟨_, rfl, by decide⟩
      · exact ⟨_, rfl, by decide⟩
    repeat walk_at "go1"
    refine sub B5 (by omega) F5 fun t G6 ht f6 B6 => ?_
    repeat walk_at "go1"
    exact fwdT.of (hR _ _ (.bin hu one1 ht) (F5.trans f6) (B6.le (by omega)))
  repeat walk_at "go1"
  refine x_ite (fun _ => ?_) (fun _ => ?_)
  · repeat walk_at "go1"
    refine x_sl ?_
    refine pick_ok B4 (by omega) (hw.fr F4) ws.l1 rfl rfl (by decide) (by simp) fun D zs G5 Da eD zm zl f5 B5 => ?_
    refine x_slN ⟨3, rfl, x_slL eD fun q hq => ?_⟩
    have zl2 : (cutT zs none (some 3)).length ≤ 4 := Nat.le_trans (cutT_length _ _ _) zl
    have zw : ∀ z ∈ cutT zs none (some 3), Wd z := fun z hz => ws.lw z (zm z (cut_mem hz))
    have F6 : Fr a G (put G5 q (.lst ((cutT zs none (some 3)).map T.str))) := (F4.trans f5).trans (Fr.new hq)
    have B6 : Bx (put G5 q (.lst ((cutT zs none (some 3)).map T.str))) a _ := B5.new hq
    have e6 : put G5 q (.lst ((cutT zs none (some 3)).map T.str)) q = _ := put_same
    have qa := B5.ne hq
    generalize put G5 q (.lst ((cutT zs none (some 3)).map T.str)) = G6 at F6 B6 e6 ⊢
    generalize cutT zs none (some 3) = ys at zl2 zw e6
    repeat walk_at "go1"
    refine x_iseq (x_var rfl ⟨ys.map T.str, .inr (.inl (.inr ⟨q, rfl, e6⟩)), fun D2 hD2 => ?_⟩)
    have D2a := B6.ne hD2
    have D20 := F6.none D2a hD2
    have qD2 : q ≠ D2 := fun z => by rw [z, hD2] at e6; cases e6
    refine ⟨fun i G' => ∃ ps : List (Str × T), ps.length = i ∧ (∀ p ∈ ps, Wd p.1) ∧ (∀ p ∈ ps, Tm d p.2) ∧ G' D2 = some (.lst (ps.map fun p => T.tup [.str p.1, p.2])) ∧ G' q = some (.lst (ys.map T.str)) ∧ Fr a G G' ∧ Bx G' a (N + 1 + Cst d + 10 + Cs (Cst d) i), ?_, ?_, ?_, ?_⟩
    · exact ⟨[], rfl, by simp, by simp, put_same, get_new hD2 e6, Fr.grow D20 F6, (B6.new hD2).le (by simp [Cs])⟩
    · intro i G' ⟨ps, _, _, _, _, e, _, _⟩ y hy
      have : y = (q, ys.map T.str) := by simpa [heldT] using hy
      subst this
      exact e
    · intro i t G' ht ⟨ps, w1, w2, w3, w4, w5, w6, w7⟩
      rw [List.getElem?_map] at ht
      cases e0 : ys[i]? with
      | none => rw [e0] at ht; cases ht
      | some y =>
        rw [e0] at ht
        cases ht
        have hi := (List.getElem?_eq_some_iff.mp e0).1
        have hy : y ∈ ys := List.mem_of_getElem? e0
        have k1 := Cs_le (C := Cst d) (by omega) (n := i + 1) (m := 9) (by omega)
        rw [Cs9] at k1
        have k2 : Cs (Cst d) (i + 1) = Cs (Cst d) i + (Cst d + 1) := rfl
        repeat walk_at "go1"
        rw [if_pos rfl]
        repeat walk_at "go1"
        refine sub w7 (by omega) w6 fun t G7 ht f7 B7 => ?_
        repeat walk_at "go1"
        refine ⟨_, f7 _ _ D2a w4, by rw [List.length_map]; have := sizeLine_eq; omega, fwdG.of ⟨ps ++ [(y, t)], by simp [w1], ?_, ?_, ?_, ?_, ?_, ?_⟩⟩
        · intro p hp
          rcases List.mem_append.mp hp with z | z
          · exact w2 p z
          · rw [show p = (y, t) by simpa using z]; exact zw y hy
        · intro p hp
          rcases List.mem_append.mp hp with z | z
          · exact w3 p z
          · rw [show p = (y, t) by simpa using z]; exact ht
        · rw [put_same, List.map_append]; rfl
        · rw [put_ne qD2]; exact f7 _ _ qa w5
        · exact Fr.grow D20 (w6.trans f7)
        · exact (B7.put D2a).le (by omega)
    · intro G' ⟨ps, w1, w2, w3, w4, w5, w6, w7⟩
      have hl : ps.length ≤ 4 := by rw [w1]; show (ys.map T.str).length ≤ 4; rw [List.length_map]; exact zl2
      have k1 := Cs_le (C := Cst d) (by omega) (n := ps.length) (m := 9) (by omega)
      rw [Cs9] at k1
      repeat walk_at "go1"
      refine ⟨_, _, rfl, .inr (.inr ⟨D2, rfl, w4⟩), by rw [List.length_map]; have := sizeLine_eq; omega, ?_⟩
      repeat walk_at "go1"
      refine fwdT.of (hR _ _ (.rcd hl w2 w3) w6 (w7.le ?_))
      rw [← w1]
      omega
  repeat walk_at "go1"
  with_reducible refine x_in2 ?_
  repeat walk_at "go1"
  refine x_ite (fun _ => ?_) (fun _ => ?_)
  · repeat walk_at "go1"
    refine lab_raw B4 (by omega) (hw.fr F4) ws rfl fun x G5 hx f5 B5 => ?_
    repeat walk_at "go1"
    exact fwdT.of (hR _ _ (.get hx one1) (F4.trans f5) (B5.le (by omega)))
  repeat walk_at "go1"
  refine x_ite (fun _ => ?_) (fun _ => ?_)
  · repeat walk_at "go1"
    refine lab_raw B4 (by omega) (hw.fr F4) ws rfl fun x G5 hx f5 B5 => ?_
    repeat walk_at "go1"
    refine sub B5 (by omega) (F4.trans f5) fun t G6 ht f6 B6 => ?_
    repeat walk_at "go1"
    exact fwdT.of (hR _ _ (.put hx one1 ht) ((F4.trans f5).trans f6) (B6.le (by omega)))
  repeat walk_at "go1"
  refine x_ite (fun _ => ?_) (fun _ => ?_)
  · repeat walk_at "go1"
    refine lab_raw B4 (by omega) (hw.fr F4) ws rfl fun x G5 hx f5 B5 => ?_
    repeat walk_at "go1"
    exact fwdT.of (hR _ _ (.tag hx one1) (F4.trans f5) (B5.le (by omega)))
  repeat walk_at "go1"
  refine x_ite (fun _ => ?_) (fun _ => ?_)
  · repeat walk_at "go1"
    refine sub B4 (by omega) F4 fun t G5 ht f5 B5 => ?_
    repeat walk_at "go1"
    refine sub B5 (by omega) (F4.trans f5) fun t2 G6 ht2 f6 B6 => ?_
    repeat walk_at "go1"
    refine ⟨_, _, rfl, ?_⟩
    repeat walk_at "go1"
    refine sub B6 (by omega) ((F4.trans f5).trans f6) fun t3 G7 ht3 f7 B7 => ?_
    repeat walk_at "go1"
    exact fwdT.of (hR _ _ (.under one1 ht ht2 ht3) (((F4.trans f5).trans f6).trans f7) (B7.le (by omega)))
  repeat walk_at "go1"
  refine case_ok (k := k + 2) IH2 B4 (by omega) (hw.fr F4) ws hpb (F4 _ _ hpb hb) (by omega) bw one1 fun t G5 ht f5 B5 => ?_
  exact fwdT.of (hR _ _ ht (F4.trans f5) (B5.le (by omega)))

end Lw

set_option Elab.async false
set_option linter.all false
set_option maxRecDepth 100000
set_option maxHeartbeats 1000000
namespace Lw
open PySem L2 Mi
local macro_rules | `(tactic| walk_at "get") => `(tactic| first | assumption | exact put_same | (refine get_new (by assumption) ?_; walk_at "get") | (refine get_ne (by assumption) ?_; walk_at "get"))
local macro_rules | `(tactic| walk_at "sq") => `(tactic| first | assumption | exact .inl rfl | exact .inr (.inl rfl) | exact .inr (.inr ⟨_, rfl, by walk_at "get"⟩))
local macro_rules | `(tactic| walk_at "size") => `(tactic| first | assumption | (simp only [List.length_cons, List.length_nil]; decide) | (have := sizeLine_eq; omega))
local macro_rules | `(tactic| walk_at "txt") => `(tactic| first | assumption | (simp only [Str.length, Str.cps_append, Array.size_append]; have := sizeLine_eq; omega))
local macro_rules | `(tactic| walk_at "go1") => `(tactic| first
  | ((with_reducible refine' x_var ?e ?_); (case e => with_unfolding_all rfl))
  | with_reducible refine x_seq ?_
  | with_reducible refine x_asg ?_
  | with_reducible refine x_if ?_
  | with_reducible refine x_ret ?_
  | with_reducible refine x_next ?_
  | with_reducible refine x_expr ?_
  | with_reducible refine x_gname ?_
  | with_reducible refine x_gcons ?_
  | with_reducible refine x_gnil ?_
  | with_reducible refine x_gsub ?_
  | with_reducible refine x_c ?_
  | with_reducible refine x_op ?_
  | with_reducible refine x_call ?_
  | with_reducible refine x_cons ?_
  | with_reducible refine x_nil ?_
  | with_reducible refine x_par ?_
  | with_reducible refine x_tup ?_
  | with_reducible refine x_lst ?_
  | with_reducible refine x_b ?_
  | with_reducible refine x_tru ?_
  | with_reducible refine x_not ?_
  | with_reducible refine x_or ?_
  | with_reducible refine x_and ?_
  | with_reducible refine x_ife ?_
  | with_reducible refine x_add ?_
  | with_reducible refine x_sub ?_
  | with_reducible refine x_gtI ?_
  | with_reducible refine x_ltI ?_
  | with_reducible refine x_geI ?_
  | with_reducible refine x_leI ?_
  | with_reducible refine x_abs ?_
  | with_reducible refine x_intb ?_
  | with_reducible refine x_for ?_
  | with_reducible refine x_irange ?_
  | with_reducible refine x_lc ?_
  | with_reducible refine x_yes ?_
  | with_reducible refine x_bm ?_
  | with_reducible refine x_bm0 ?_
  | with_reducible refine x_andv ?_
  | with_reducible refine x_orv ?_
  | with_reducible refine x_notv ?_
  | with_reducible refine x_eqI ?_
  | with_reducible refine x_tystr ?_
  | ((with_reducible refine' x_gtup ?e ?_); (case e => with_unfolding_all rfl))
  | ((with_reducible refine' x_pow ?e ?_); (case e => exact ⟨by decide, by decide, by decide⟩))
  | ((with_reducible refine' x_ix ?e ?q ?_); (case e => walk_at "get"); (case q => with_unfolding_all rfl))
  | ((with_reducible refine' x_ixt ?q ?_); (case q => with_unfolding_all rfl))
  | ((with_reducible refine' x_sto ?e ?q ?_); (case e => walk_at "get"); (case q => with_unfolding_all rfl))
  | ((with_reducible refine' x_adds ?e ?_); (case e => walk_at "txt"))
  | ((with_reducible refine' x_muls ?e ?f ?g ?_); (case e => omega); (case f => omega); (case g => walk_at "txt"))
  | ((with_reducible refine' x_divmod ?e ?_); (case e => exact ⟨by omega, by omega⟩))
  | ((with_reducible refine' x_mod ?e ?_); (case e => omega))
  | ((with_reducible refine' x_fdivC ?e ?f ?_); (case e => omega); (case f => omega))
  | ((with_reducible refine' x_mulL ?e ?f ?_); (case e => omega); (case f => omega))
  | ((with_reducible refine' x_mulR ?e ?f ?_); (case e => omega); (case f => omega))
  | ((with_reducible refine' x_len ?e ?_); (case e => walk_at "sq"))
  | ((with_reducible refine' x_range ?e ?f ?_); (case e => omega); (case f => omega))
  | ((with_reducible refine' x_tylst ?e ?_); (case e => walk_at "get"))
  | ((with_reducible refine' x_append ?e ?f ?_); (case e => walk_at "get"); (case f => walk_at "size"))
  | ((with_reducible refine' And.intro ?e ?_); (case e => (show _ ≤ sizeLine; walk_at "size")))
  | ((with_reducible refine' Exists.intro _ (And.intro ?e ?_)); (case e => with_unfolding_all rfl)))
theorem term_ok : ∀ (d k : Nat), 2 * d + 6 ≤ k → TermOk k d
  | 0, k, h => by
    obtain ⟨k0, rfl⟩ : ∃ k0, k = k0 + 6 := ⟨k - 6, by omega⟩
    exact term_step fun d' e => by omega
  | d + 1, k, h => by
    obtain ⟨k0, rfl⟩ : ∃ k0, k = k0 + 6 := ⟨k - 6, by omega⟩
    refine term_step fun d' e => ?_
    obtain rfl : d = d' := by omega
    exact ⟨term_ok d (k0 + 5) (by omega), term_ok d (k0 + 4) (by omega)⟩
end Lw

set_option Elab.async false
set_option linter.all false
set_option maxRecDepth 100000
set_option maxHeartbeats 1000000
namespace Lw
open PySem L2 Mi
local macro_rules | `(tactic| walk_at "get") => `(tactic| first | assumption | exact put_same | (refine get_new (by assumption) ?_; walk_at "get") | (refine get_ne (by assumption) ?_; walk_at "get"))
local macro_rules | `(tactic| walk_at "sq") => `(tactic| first | assumption | exact .inl rfl | exact .inr (.inl rfl) | exact .inr (.inr ⟨_, rfl, by walk_at "get"⟩))
local macro_rules | `(tactic| walk_at "size") => `(tactic| first | assumption | (simp only [List.length_cons, List.length_nil]; decide) | (have := sizeLine_eq; omega))
local macro_rules | `(tactic| walk_at "txt") => `(tactic| first | assumption | (simp only [Str.length, Str.cps_append, Array.size_append]; have := sizeLine_eq; omega))
local macro_rules | `(tactic| walk_at "go1") => `(tactic| first
  | ((with_reducible refine' x_var ?e ?_); (case e => with_unfolding_all rfl))
  | with_reducible refine x_seq ?_
  | with_reducible refine x_asg ?_
  | with_reducible refine x_if ?_
  | with_reducible refine x_ret ?_
  | with_reducible refine x_next ?_
  | with_reducible refine x_expr ?_
  | with_reducible refine x_gname ?_
  | with_reducible refine x_gcons ?_
  | with_reducible refine x_gnil ?_
  | with_reducible refine x_gsub ?_
  | with_reducible refine x_c ?_
  | with_reducible refine x_op ?_
  | with_reducible refine x_call ?_
  | with_reducible refine x_cons ?_
  | with_reducible refine x_nil ?_
  | with_reducible refine x_par ?_
  | with_reducible refine x_tup ?_
  | with_reducible refine x_lst ?_
  | with_reducible refine x_b ?_
  | with_reducible refine x_tru ?_
  | with_reducible refine x_not ?_
  | with_reducible refine x_or ?_
  | with_reducible refine x_and ?_
  | with_reducible refine x_ife ?_
  | with_reducible refine x_add ?_
  | with_reducible refine x_sub ?_
  | with_reducible refine x_gtI ?_
  | with_reducible refine x_ltI ?_
  | with_reducible refine x_geI ?_
  | with_reducible refine x_leI ?_
  | with_reducible refine x_abs ?_
  | with_reducible refine x_intb ?_
  | with_reducible refine x_for ?_
  | with_reducible refine x_irange ?_
  | with_reducible refine x_lc ?_
  | with_reducible refine x_yes ?_
  | with_reducible refine x_bm ?_
  | with_reducible refine x_bm0 ?_
  | with_reducible refine x_andv ?_
  | with_reducible refine x_orv ?_
  | with_reducible refine x_notv ?_
  | with_reducible refine x_eqI ?_
  | with_reducible refine x_tystr ?_
  | ((with_reducible refine' x_gtup ?e ?_); (case e => with_unfolding_all rfl))
  | ((with_reducible refine' x_pow ?e ?_); (case e => exact ⟨by decide, by decide, by decide⟩))
  | ((with_reducible refine' x_ix ?e ?q ?_); (case e => walk_at "get"); (case q => with_unfolding_all rfl))
  | ((with_reducible refine' x_ixt ?q ?_); (case q => with_unfolding_all rfl))
  | ((with_reducible refine' x_sto ?e ?q ?_); (case e => walk_at "get"); (case q => with_unfolding_all rfl))
  | ((with_reducible refine' x_adds ?e ?_); (case e => walk_at "txt"))
  | ((with_reducible refine' x_muls ?e ?f ?g ?_); (case e => omega); (case f => omega); (case g => walk_at "txt"))
  | ((with_reducible refine' x_divmod ?e ?_); (case e => exact ⟨by omega, by omega⟩))
  | ((with_reducible refine' x_mod ?e ?_); (case e => omega))
  | ((with_reducible refine' x_fdivC ?e ?f ?_); (case e => omega); (case f => omega))
  | ((with_reducible refine' x_mulL ?e ?f ?_); (case e => omega); (case f => omega))
  | ((with_reducible refine' x_mulR ?e ?f ?_); (case e => omega); (case f => omega))
  | ((with_reducible refine' x_len ?e ?_); (case e => walk_at "sq"))
  | ((with_reducible refine' x_range ?e ?f ?_); (case e => omega); (case f => omega))
  | ((with_reducible refine' x_tylst ?e ?_); (case e => walk_at "get"))
  | ((with_reducible refine' x_append ?e ?f ?_); (case e => walk_at "get"); (case f => walk_at "size"))
  | ((with_reducible refine' And.intro ?e ?_); (case e => (show _ ≤ sizeLine; walk_at "size")))
  | ((with_reducible refine' Exists.intro _ (And.intro ?e ?_)); (case e => with_unfolding_all rfl)))
theorem Bx.ext {G G' : Gp} {a : Addr} {N : Int} (f : Ext G G') (h : Bx G a N) : Bx G' a N := by
  obtain ⟨b0, b1, b2, e, k⟩ := h
  exact ⟨b0, b1, b2, f _ _ e, k⟩
theorem len4 {zs : List Str} (h : (zs.length : Int) = 4) : ∃ z0 z1 z2 z3, zs = [z0, z1, z2, z3] := by
  match zs, h with
  | [z0, z1, z2, z3], _ => exact ⟨z0, z1, z2, z3, rfl⟩
  | [], h => exact absurd h (by decide)
  | [_], h => exact absurd h (by show ¬ ((1 : Nat) : Int) = 4; decide)
  | [_, _], h => exact absurd h (by show ¬ ((2 : Nat) : Int) = 4; decide)
  | [_, _, _], h => exact absurd h (by show ¬ ((3 : Nat) : Int) = 4; decide)
  | _ :: _ :: _ :: _ :: _ :: r, h => simp only [List.length_cons] at h; omega
/-- the words that a term is made of -/
theorem words_ok {k : Nat} {G : Gp} {a p1 : Addr} {N : Int} {z0 z1 z2 z3 : Str} {x2 x3 x4 x5 x6 x7 x8 : Option T} {M : MEnds} (B1 : Bx G a N) (hN : N + 20 < 1000000000) (e1 : G p1 = some (.lst ([z0, z1, z2, z3].map T.str))) (p1a : p1 ≠ a) (zw : ∀ z ∈ [z0, z1, z2, z3], Wd z)
    (main : ∀ w ls ks fs G', Wk a G' w ls ks fs → Ws ls ks fs → Fr a G G' → Bx G' a (N + 1) → M.nx [some (.ref a), some (.ref p1), some w, x3, x4, x5, x6, x7, x8] G') :
    msSeq (msAsg (mDisp [("labels", (mCall omSortS (maCons (mSl (mVar 1) moN (moS (mOp oAdd (mC (.int 2)) (mCall (SP (k + 1) 6) (maCons (mVar 0) (maCons (mC (.int 2)) maNil)))))) maNil))), ("knows", (mSl (mVar 1) moN (moS (mC (.int 3)))))]) (mgName 2))
      (msExpr (mBm "dict" omUpdate (mVar 2) (maCons (mDisp [("froms", (mLst (maCons (mTup (maCons (mOp oIx (mVar 1) (mC (.int 0))) (maCons (mOp oIx (mVar 1) (mC (.int 1))) maNil))) (maCons (mTup (maCons (mOp oIx (mVar 1) (mC (.int 3))) (maCons (mOp oIx (mVar 1) (mC (.int 3))) maNil))) maNil))))]) maNil)))
      M [some (.ref a), some (.ref p1), x2, x3, x4, x5, x6, x7, x8] G := by
  have szl := sizeLine_eq
  with_reducible refine x_seq ?_
  refine x_asg (x_disp fun d hd => ?_)
  have da := B1.ne hd
  have p1d : p1 ≠ d := fun z => by rw [z, hd] at e1; cases e1
  refine x_pcons (x_call (x_cons (x_sl (x_var rfl (x_slN (x_slS (x_op (x_c (x_call (x_cons (x_var rfl (x_cons (x_c (x_nil ?_))))))))))))))
  refine take_ok (k := k) (B1.new hd) (by omega) (by decide) (by decide) fun v G2 v0 v1 f2 B2 => x_add ⟨_, rfl, ?_⟩
  have e2 := f2 _ _ p1a (get_new (d := .dK []) hd e1)
  have d2 := f2 _ _ da (put_same (G := G) (a := d) (c := .dK []))
  refine x_slL e2 fun q hq => x_nil ?_
  have hql : (cutT [z0, z1, z2, z3] none (some (2 + v))).length = 2 + v.toNat := by
    rw [cut_hi _ (by omega), List.length_take]
    show min (2 + v).toNat 4 = _
    omega
  have e3 := get_new (d := .lst ((cutT [z0, z1, z2, z3] none (some (2 + v))).map T.str)) hq e2
  have d3 := get_new (d := .lst ((cutT [z0, z1, z2, z3] none (some (2 + v))).map T.str)) hq d2
  have B3 := B2.new (c := .lst ((cutT [z0, z1, z2, z3] none (some (2 + v))).map T.str)) hq
  have F3 : Fr a G (Mi.put G2 q (.lst ((cutT [z0, z1, z2, z3] none (some (2 + v))).map T.str))) := (Fr.new hd).trans (f2.trans (Fr.new hq))
  refine ⟨_, _, rfl, .inr ⟨q, rfl, put_same⟩, by rw [hql]; omega, fun ys q2 hp _ hq2 => ?_⟩
  generalize Mi.put G2 q (.lst ((cutT [z0, z1, z2, z3] none (some (2 + v))).map T.str)) = G3 at *
  have e4 := get_new (d := .lst (ys.map T.str)) hq2 e3
  have d4 := get_new (d := .lst (ys.map T.str)) hq2 d3
  have l4 := put_same (G := G3) (a := q2) (c := .lst (ys.map T.str))
  have q2a := B3.ne hq2
  have B4 := B3.new (c := .lst (ys.map T.str)) hq2
  have F4 : Fr a G (Mi.put G3 q2 (.lst (ys.map T.str))) := F3.trans (Fr.new hq2)
  generalize Mi.put G3 q2 (.lst (ys.map T.str)) = G4 at *
  refine x_pcons (x_sl (x_var rfl (x_slN (x_slS (x_c ⟨3, rfl, x_slL e4 fun q3 hq3 => x_pnil ⟨get_new hq3 d4, by simp, ?_⟩⟩)))))
  have e5 := get_new (d := .lst ((cutT [z0, z1, z2, z3] none (some 3)).map T.str)) hq3 e4
  have l5 := get_new (d := .lst ((cutT [z0, z1, z2, z3] none (some 3)).map T.str)) hq3 l4
  have k5 := put_same (G := G4) (a := q3) (c := .lst ((cutT [z0, z1, z2, z3] none (some 3)).map T.str))
  have d5 := get_new (d := .lst ((cutT [z0, z1, z2, z3] none (some 3)).map T.str)) hq3 d4
  have q3a := B4.ne hq3
  have B5 := B4.new (c := .lst ((cutT [z0, z1, z2, z3] none (some 3)).map T.str)) hq3
  have F5 : Fr a G (Mi.put G4 q3 (.lst ((cutT [z0, z1, z2, z3] none (some 3)).map T.str))) := F4.trans (Fr.new hq3)
  generalize Mi.put G4 q3 (.lst ((cutT [z0, z1, z2, z3] none (some 3)).map T.str)) = G5 at *
  have dne : ∀ {x : Addr} {c : C}, G5 x = some c → c ≠ .dK [] → x ≠ d := fun e n z => by rw [z, d5] at e; cases e; exact n rfl
  have q2d := dne l5 (by simp)
  have q3d := dne k5 (by simp)
  have e6 : Mi.put G5 d (.dK (mergeT [] [(.inr "labels", .ref q2), (.inr "knows", .ref q3)])) p1 = some (.lst ([z0, z1, z2, z3].map T.str)) := by rw [put_ne p1d]; exact e5
  have l6 : Mi.put G5 d (.dK (mergeT [] [(.inr "labels", .ref q2), (.inr "knows", .ref q3)])) q2 = some (.lst (ys.map T.str)) := by rw [put_ne q2d]; exact l5
  have k6 : Mi.put G5 d (.dK (mergeT [] [(.inr "labels", .ref q2), (.inr "knows", .ref q3)])) q3 = some (.lst ((cutT [z0, z1, z2, z3] none (some 3)).map T.str)) := by rw [put_ne q3d]; exact k5
  have d6 : Mi.put G5 d (.dK (mergeT [] [(.inr "labels", .ref q2), (.inr "knows", .ref q3)])) d = some (.dK (mergeT [] [(.inr "labels", .ref q2), (.inr "knows", .ref q3)])) := put_same
  have B6 := B5.put (c := .dK (mergeT [] [(.inr "labels", .ref q2), (.inr "knows", .ref q3)])) da
  have F6 : ∀ b c, b ≠ a → b ≠ d → G b = some c → Mi.put G5 d (.dK (mergeT [] [(.inr "labels", .ref q2), (.inr "knows", .ref q3)])) b = some c := fun b c n m e => by
    rw [put_ne m]; exact F5 _ _ n e
  have md : mergeT [] [(.inr "labels", .ref q2), (.inr "knows", .ref q3)] = ([(.inr "labels", .ref q2), (.inr "knows", .ref q3)] : List (Key × T)) := by rfl
  refine x_gname ?_
  dsimp only
  generalize Mi.put G5 d (.dK (mergeT [] [(.inr "labels", .ref q2), (.inr "knows", .ref q3)])) = G6 at *
  rw [md] at d6
  have at0 : atI ([z0, z1, z2, z3].map T.str) 0 = some (.str z0) := rfl
  have at1 : atI ([z0, z1, z2, z3].map T.str) 1 = some (.str z1) := rfl
  have at3 : atI ([z0, z1, z2, z3].map T.str) 3 = some (.str z3) := rfl
  refine x_expr (x_bm (x_var rfl (x_tydct d6 (x_cons (x_disp fun d7 hd7 => ?_)))))
  have e7 := get_new (d := .dK []) hd7 e6
  refine x_pcons (x_lst (x_cons (x_tup (x_cons (x_op (x_var rfl (x_c (x_ix e7 at0 (x_cons (x_op (x_var rfl (x_c (x_ix e7 at1 (x_nil ⟨by show 2 ≤ sizeLine; omega, ?_⟩))))))))))))))
  refine x_cons (x_tup (x_cons (x_op (x_var rfl (x_c (x_ix e7 at3 (x_cons (x_op (x_var rfl (x_c (x_ix e7 at3 (x_nil ⟨by show 2 ≤ sizeLine; omega, x_nil ⟨by show 2 ≤ sizeLine; omega, fun q8 hq8 => ?_⟩⟩))))))))))))
  refine x_pnil ⟨get_new hq8 put_same, by simp, ?_⟩
  have d8 := get_new (d := .lst [T.tup [.str z0, .str z1], .tup [.str z3, .str z3]]) hq8 (get_new (d := .dK []) hd7 d6)
  have l8 := get_new (d := .lst [T.tup [.str z0, .str z1], .tup [.str z3, .str z3]]) hq8 (get_new (d := .dK []) hd7 l6)
  have k8 := get_new (d := .lst [T.tup [.str z0, .str z1], .tup [.str z3, .str z3]]) hq8 (get_new (d := .dK []) hd7 k6)
  have s8 := get_new (d := .lst [T.tup [.str z0, .str z1], .tup [.str z3, .str z3]]) hq8 (put_same (G := G6) (a := d7) (c := .dK []))
  have m8 := put_same (G := Mi.put G6 d7 (.dK [])) (a := q8) (c := .lst [T.tup [.str z0, .str z1], .tup [.str z3, .str z3]])
  have d7a := B6.ne hd7
  have q8a := (B6.new (c := .dK []) hd7).ne hq8
  have B8 := (B6.new (c := .dK []) hd7).new (c := .lst [T.tup [.str z0, .str z1], .tup [.str z3, .str z3]]) hq8
  have G6n : ∀ b c, G6 b = some c → Mi.put (Mi.put G6 d7 (.dK [])) q8 (.lst [T.tup [.str z0, .str z1], .tup [.str z3, .str z3]]) b = some c := fun b c e => get_new hq8 (get_new hd7 e)
  have d7d : d7 ≠ d := fun z => by rw [z, d6] at hd7; cases hd7
  have q8d7 : q8 ≠ d7 := fun z => by rw [z, put_same] at hq8; cases hq8
  generalize Mi.put (Mi.put G6 d7 (.dK [])) q8 (.lst [T.tup [.str z0, .str z1], .tup [.str z3, .str z3]]) = G8 at *
  have d9 : Mi.put G8 d7 (.dK (mergeT [] [(.inr "froms", .ref q8)])) d = some (.dK [(.inr "labels", .ref q2), (.inr "knows", .ref q3)]) := by rw [put_ne (Ne.symm d7d)]; exact d8
  refine x_nil ⟨d, d7, _, _, rfl, rfl, Ne.symm d7d, d9, put_same, by show 2 + 1 ≤ sizeLine; omega, ?_⟩
  have ld : q2 ≠ d7 ∧ q2 ≠ d := ⟨fun z => (by rw [z, s8] at l8; cases l8), q2d⟩
  have kd : q3 ≠ d7 ∧ q3 ≠ d := ⟨fun z => (by rw [z, s8] at k8; cases k8), q3d⟩
  have md8 : q8 ≠ d := fun z => by rw [z, d8] at m8; cases m8
  refine main (.ref d) ys (cutT [z0, z1, z2, z3] none (some 3)) [(z0, z1), (z3, z3)] _ ⟨d, q2, q3, q8, rfl, da, q2a, q3a, q8a, by rw [put_same]; rfl, ?_, ?_, ?_⟩ ⟨?_, ?_, ?_, by simp, ?_, ?_, ?_⟩ ?_ ((B8.put d7a).put da)
  · rw [put_ne ld.2, put_ne ld.1]; exact l8
  · rw [put_ne kd.2, put_ne kd.1]; exact k8
  · rw [put_ne md8, put_ne q8d7]; exact m8
  · rw [hp.length_eq, hql]; omega
  · rw [hp.length_eq, hql]; omega
  · exact Nat.le_trans (cutT_length _ _ _) (by simp)
  · exact fun z hz => zw z (cut_mem (hp.mem_iff.mp hz))
  · exact fun z hz => zw z (cut_mem hz)
  · intro z hz
    simp only [List.mem_cons, List.not_mem_nil, or_false] at hz
    rcases hz with rfl | rfl
    · exact ⟨zw _ (by simp), zw _ (by simp)⟩
    · exact ⟨zw _ (by simp), zw _ (by simp)⟩
  · intro b c n e
    have bd : b ≠ d := fun z => by rw [z, hd] at e; cases e
    have e6 := F6 b c n bd e
    have bd7 : b ≠ d7 := fun z => by rw [z, hd7] at e6; cases e6
    rw [put_ne bd, put_ne bd7]
    exact G6n _ _ e6
end Lw

set_option Elab.async false
set_option linter.all false
set_option maxRecDepth 100000
set_option maxHeartbeats 1000000
namespace Lw
open PySem L2 Mi
local macro_rules | `(tactic| walk_at "get") => `(tactic| first | assumption | exact put_same | (refine get_new (by assumption) ?_; walk_at "get") | (refine get_ne (by assumption) ?_; walk_at "get"))
local macro_rules | `(tactic| walk_at "sq") => `(tactic| first | assumption | exact .inl rfl | exact .inr (.inl rfl) | exact .inr (.inr ⟨_, rfl, by walk_at "get"⟩))
local macro_rules | `(tactic| walk_at "size") => `(tactic| first | assumption | (simp only [List.length_cons, List.length_nil]; decide) | (have := sizeLine_eq; omega))
local macro_rules | `(tactic| walk_at "txt") => `(tactic| first | assumption | (simp only [Str.length, Str.cps_append, Array.size_append]; have := sizeLine_eq; omega))
local macro_rules | `(tactic| walk_at "go1") => `(tactic| first
  | ((with_reducible refine' x_var ?e ?_); (case e => with_unfolding_all rfl))
  | with_reducible refine x_seq ?_
  | with_reducible refine x_asg ?_
  | with_reducible refine x_if ?_
  | with_reducible refine x_ret ?_
  | with_reducible refine x_next ?_
  | with_reducible refine x_expr ?_
  | with_reducible refine x_gname ?_
  | with_reducible refine x_gcons ?_
  | with_reducible refine x_gnil ?_
  | with_reducible refine x_gsub ?_
  | with_reducible refine x_c ?_
  | with_reducible refine x_op ?_
  | with_reducible refine x_call ?_
  | with_reducible refine x_cons ?_
  | with_reducible refine x_nil ?_
  | with_reducible refine x_par ?_
  | with_reducible refine x_tup ?_
  | with_reducible refine x_lst ?_
  | with_reducible refine x_b ?_
  | with_reducible refine x_tru ?_
  | with_reducible refine x_not ?_
  | with_reducible refine x_or ?_
  | with_reducible refine x_and ?_
  | with_reducible refine x_ife ?_
  | with_reducible refine x_add ?_
  | with_reducible refine x_sub ?_
  | with_reducible refine x_gtI ?_
  | with_reducible refine x_ltI ?_
  | with_reducible refine x_geI ?_
  | with_reducible refine x_leI ?_
  | with_reducible refine x_abs ?_
  | with_reducible refine x_intb ?_
  | with_reducible refine x_for ?_
  | with_reducible refine x_irange ?_
  | with_reducible refine x_lc ?_
  | with_reducible refine x_yes ?_
  | with_reducible refine x_bm ?_
  | with_reducible refine x_bm0 ?_
  | with_reducible refine x_andv ?_
  | with_reducible refine x_orv ?_
  | with_reducible refine x_notv ?_
  | with_reducible refine x_eqI ?_
  | with_reducible refine x_tystr ?_
  | ((with_reducible refine' x_gtup ?e ?_); (case e => with_unfolding_all rfl))
  | ((with_reducible refine' x_pow ?e ?_); (case e => exact ⟨by decide, by decide, by decide⟩))
  | ((with_reducible refine' x_ix ?e ?q ?_); (case e => walk_at "get"); (case q => with_unfolding_all rfl))
  | ((with_reducible refine' x_ixt ?q ?_); (case q => with_unfolding_all rfl))
  | ((with_reducible refine' x_sto ?e ?q ?_); (case e => walk_at "get"); (case q => with_unfolding_all rfl))
  | ((with_reducible refine' x_adds ?e ?_); (case e => walk_at "txt"))
  | ((with_reducible refine' x_muls ?e ?f ?g ?_); (case e => omega); (case f => omega); (case g => walk_at "txt"))
  | ((with_reducible refine' x_divmod ?e ?_); (case e => exact ⟨by omega, by omega⟩))
  | ((with_reducible refine' x_mod ?e ?_); (case e => omega))
  | ((with_reducible refine' x_fdivC ?e ?f ?_); (case e => omega); (case f => omega))
  | ((with_reducible refine' x_mulL ?e ?f ?_); (case e => omega); (case f => omega))
  | ((with_reducible refine' x_mulR ?e ?f ?_); (case e => omega); (case f => omega))
  | ((with_reducible refine' x_len ?e ?_); (case e => walk_at "sq"))
  | ((with_reducible refine' x_range ?e ?f ?_); (case e => omega); (case f => omega))
  | ((with_reducible refine' x_tylst ?e ?_); (case e => walk_at "get"))
  | ((with_reducible refine' x_append ?e ?f ?_); (case e => walk_at "get"); (case f => walk_at "size"))
  | ((with_reducible refine' And.intro ?e ?_); (case e => (show _ ≤ sizeLine; walk_at "size")))
  | ((with_reducible refine' Exists.intro _ (And.intro ?e ?_)); (case e => with_unfolding_all rfl)))
/-! ### the known term -/
def tnm (x : Str) : T := .tup [.str "name", .str x]
def tfn (x y : Str) : T := .tup [.str "fun", .str y, tnm x]
def tkn (l x y : Str) : T := .tup [.str "case", tnm x, .tup ([(l, x, tfn x y)].map fun p => .tup [.str p.1, .str p.2.1, p.2.2])]
theorem tnm_tm {n : Nat} {x : Str} (h : Wd x) : Tm n (tnm x) := .name h
theorem tfn_tm {n : Nat} {x y : Str} (h : Wd x) (h2 : Wd y) : Tm (n + 1) (tfn x y) := .fn h2 (tnm_tm h)
theorem tkn_tm {l x y : Str} (h0 : Wd l) (h : Wd x) (h2 : Wd y) : Tm 2 (tkn l x y) :=
  .case (by simp) (tnm_tm h) (by simpa using h0) (by simpa using h) (by simpa using tfn_tm h h2)
theorem tkn_all (l x y : Str) : allp 2 (tkn l x y) [] [] = [([0], tnm x, []), ([1, 0], tnm x, [x, y]), ([1], tfn x y, [x]), ([], tkn l x y, [])] := by
  have k1 : kidsT (tkn l x y) = [tnm x, tfn x y] := kids_case
  have k2 : kidsT (tfn x y) = [tnm x] := kids_fn
  have k3 : kidsT (tnm x) = [] := kids_name
  have b0 : bndT (tkn l x y) 0 = [] := bnd_case0
  have b1 : bndT (tkn l x y) 1 = [x] := bnd_case (t := tnm x) (ps := [(l, x, tfn x y)]) (j := 0) (p := (l, x, tfn x y)) rfl
  have b2 : bndT (tfn x y) 0 = [y] := bnd_fn
  unfold allp
  rw [k1]
  simp [allp, k2, k3, b0, b1, b2, List.mapIdx_cons]
theorem tkn_nmd (l x y : Str) : nmd 2 (tkn l x y) [] [] = [.tup [plT [0], .str x]] := by
  unfold nmd
  rw [tkn_all]
  have o1 : own ([0], tnm x, []) = [.tup [plT [0], .str x]] := (own_name (π := [0]) (bs := []) (x := x)).trans (if_neg (by simp))
  have o2 : own ([1, 0], tnm x, [x, y]) = [] := (own_name (π := [1, 0]) (bs := [x, y]) (x := x)).trans (if_pos (by simp))
  have o3 : own ([1], tfn x y, [x]) = [] := own_no (by decide +kernel) (by decide +kernel)
  have o4 : own ([], tkn l x y, []) = [] := own_no (by decide +kernel) (by decide +kernel)
  simp [List.flatMap_cons, o1, o2, o3, o4]
theorem plT_sd {n : Nat} {π : List Nat} (h : π.length ≤ 1000) : Sd (n + 1) (plT π) := .tup (by rw [List.length_map]; exact h) fun t ht => by
  obtain ⟨i, _, rfl⟩ := List.mem_map.mp ht
  exact .int
theorem nmd_sd {n : Nat} {t : T} (h : Tm n t) (hn : n ≤ 800) : ∀ v ∈ nmd n t [] [], Sd 2 v := by
  intro v hv
  obtain ⟨p, hp, hv⟩ := List.mem_flatMap.mp hv
  obtain ⟨a, b, c⟩ := allp_wlk (t := t) n t [] [] h wlk_nil p hp
  obtain ⟨π, u, bs⟩ := p
  have c : π.length ≤ n := by simpa using c
  have pl : Sd 1 (plT π) := plT_sd (by omega)
  have hv : v ∈ ownT π bs u := hv
  obtain ⟨m0, hsh⟩ : ∃ m, Shp m u := ⟨n, b.shp⟩
  cases hsh with
  | name d =>
    rw [own_name] at hv
    split at hv
    · cases hv
    · rw [List.mem_singleton] at hv
      subst hv
      refine .tup (by simp) fun t ht => ?_
      simp only [List.mem_cons, List.not_mem_nil, or_false] at ht
      rcases ht with rfl | rfl
      · exact pl
      · exact .str d
  | frm d e =>
    rw [own_frm, List.mem_singleton] at hv
    subst hv
    refine .tup (by simp) fun t ht => ?_
    simp only [List.mem_cons, List.not_mem_nil, or_false] at ht
    rcases ht with rfl | rfl
    · exact pl
    · refine .tup (by simp) fun t ht => ?_
      simp only [List.mem_cons, List.not_mem_nil, or_false] at ht
      rcases ht with rfl | rfl
      · exact .str d
      · exact .str e
  | fn d e => rw [own_no (by decide +kernel) (by decide +kernel)] at hv; cases hv
  | case hl d e f => rw [own_no (by decide +kernel) (by decide +kernel)] at hv; cases hv
  | other d e f g i j k l o => rw [own_no e f] at hv; cases hv
theorem nmd_len {n : Nat} {t : T} (hs : (allp n t [] []).length ≤ 40) : (nmd n t [] []).length ≤ 40 := by
  have := flat_len (allp n t [] [])
  unfold nmd
  omega
theorem minS_mem (x : Str) : ∀ (xs : List Str), minS x xs ∈ x :: xs := by
  intro xs
  unfold minS
  induction xs generalizing x with
  | nil => simp
  | cons y ys ih =>
    rw [List.foldl_cons]
    have := ih (if strLt y x then y else x)
    rcases List.mem_cons.mp this with q | q
    · rw [q]
      split
      · simp
      · simp
    · simp [q]
theorem Cst_mono : ∀ {d e : Nat}, d ≤ e → Cst d ≤ Cst e
  | d, 0, h => by rw [Nat.le_zero.mp h]; exact Int.le_refl _
  | d, e + 1, h => by
    by_cases q : d = e + 1
    · rw [q]; exact Int.le_refl _
    · have h1 := Cst_mono (d := d) (e := e) (by omega)
      have h2 := Cst_pos e
      show _ ≤ 10 * Cst e + 100
      omega
/-- both lists, compared with what the program answers -/
theorem again_ok {k n : Nat} {t : T} {pd : Addr} {x0 x1 x2 x3 x5 y7 y8 : Option T} {G : Gp} {M : MEnds} (ht : Tm n t) (hn : n ≤ 5) (hs : (allp n t [] []).length ≤ 40) (hd : G pd = some (.lst (nmd n t [] [])))
    (main : ∀ x7 x8 G', Ext G G' → M.nx [x0, x1, x2, x3, some (.ref pd), x5, some t, x7, x8] G') :
    msFor (miRange (mC (.int 2))) (mgName 7) (msSeq (msAsg (mCall (SP (k + 20) 4) (maCons (mVar 6) maNil)) (mgName 8)) (msSeq (msIf (tmOr (tmNot (mTru (mCall (SP (k + 20) 7) (maCons (mVar 8) (maCons (mVar 4) maNil))))) (tmNot (mTru (mCall (SP (k + 20) 7) (maCons (mVar 8) (maCons (mCall (SP (k + 20) 14) (maCons (mVar 6) (maCons (mTup maNil) (maCons (mLst maNil) maNil)))) maNil)))))) (msRet (mC (.bl false))) msNext) (msExpr (mBm "list" omAppend (mVar 8) (maCons (mC (.str "more")) maNil)))))
      M [x0, x1, x2, x3, some (.ref pd), x5, some t, y7, y8] G := by
  have szl := sizeLine_eq
  have nl := nmd_len hs
  have sd := nmd_sd ht (by omega)
  refine x_for (x_irange (x_c ⟨2, rfl, by decide, by decide, ?_⟩))
  refine ⟨fun i r G' => ∃ (x7 x8 : Option T), r = [x0, x1, x2, x3, some (.ref pd), x5, some t, x7, x8] ∧ Ext G G', ⟨y7, y8, rfl, Ext.refl G⟩, fun i r G' _ q hq => (by cases hq), ?_, ?_⟩
  · intro i t2 r G' ht2 ⟨x7, x8, w1, w2⟩
    subst w1
    refine x_gname ?_
    with_reducible refine x_seq ?_
    refine x_asg (x_call (x_cons (x_var rfl (x_nil ?_))))
    refine namedIn_ok (k := k + 16) ht (by omega) hs fun p8 G1 hp8 e8 f1 => x_gname ?_
    with_reducible refine x_seq ?_
    with_reducible refine x_if ?_
    refine x_orT (x_not (x_tru (x_call (x_cons (x_var rfl (x_cons (x_var rfl (x_nil ?_))))))))
    refine same_seq (k := k + 19) (n := 2) (same_all 2 (k + 19) (by omega)) (b := false) ⟨p8, rfl, e8⟩ ⟨pd, rfl, f1 _ _ (w2 _ _ hd)⟩ (by omega) sd fun G2 f2 => ⟨_, rfl, ?_⟩
    refine x_iteF rfl (x_not (x_tru (x_call (x_cons (x_var rfl (x_cons (x_call (x_cons (x_var rfl (x_cons (x_tup (x_nil ⟨by show 0 ≤ sizeLine; omega, x_cons (x_lst (x_nil ⟨by show 0 ≤ sizeLine; omega, fun pb hpb => x_nil ?_⟩))⟩))))))))))))
    have f02 := w2.trans (f1.trans f2)
    refine named_all n (k + 20) (by omega) t [] [] pb _ _ ht hs (by simp; omega) (by simp; omega) put_same fun p9 G3 hp9 e9 f3 => x_nil ?_
    have f23 : Ext G2 G3 := (Ext.new hpb).trans f3
    refine same_seq (k := k + 19) (n := 2) (same_all 2 (k + 19) (by omega)) (b := false) ⟨p8, rfl, f23 _ _ (f2 _ _ e8)⟩ ⟨p9, rfl, e9⟩ (by omega) sd fun G4 f4 => ⟨_, rfl, ?_⟩
    refine x_iteF rfl (x_next ?_)
    have f14 := f2.trans (f23.trans f4)
    have e84 := f14 _ _ e8
    dsimp only
    refine x_expr (x_bm (x_var rfl (x_tylst e84 (x_cons (x_c (x_nil (x_append e84 (by omega) ?_)))))))
    exact fwd.of ⟨_, _, rfl, Ext.grow (w2.none hp8) (w2.trans (f1.trans f14))⟩
  · intro r G' ⟨x7, x8, w1, w2⟩
    subst w1
    exact main _ _ G' w2
end Lw

set_option Elab.async false
set_option linter.all false
set_option maxRecDepth 100000
set_option maxHeartbeats 1000000
namespace Lw
open PySem L2 Mi
local macro_rules | `(tactic| walk_at "get") => `(tactic| first | assumption | exact put_same | (refine get_new (by assumption) ?_; walk_at "get") | (refine get_ne (by assumption) ?_; walk_at "get"))
local macro_rules | `(tactic| walk_at "sq") => `(tactic| first | assumption | exact .inl rfl | exact .inr (.inl rfl) | exact .inr (.inr ⟨_, rfl, by walk_at "get"⟩))
local macro_rules | `(tactic| walk_at "size") => `(tactic| first | assumption | (simp only [List.length_cons, List.length_nil]; decide) | (have := sizeLine_eq; omega))
local macro_rules | `(tactic| walk_at "txt") => `(tactic| first | assumption | (simp only [Str.length, Str.cps_append, Array.size_append]; have := sizeLine_eq; omega))
local macro_rules | `(tactic| walk_at "go1") => `(tactic| first
  | ((with_reducible refine' x_var ?e ?_); (case e => with_unfolding_all rfl))
  | with_reducible refine x_seq ?_
  | with_reducible refine x_asg ?_
  | with_reducible refine x_if ?_
  | with_reducible refine x_ret ?_
  | with_reducible refine x_next ?_
  | with_reducible refine x_expr ?_
  | with_reducible refine x_gname ?_
  | with_reducible refine x_gcons ?_
  | with_reducible refine x_gnil ?_
  | with_reducible refine x_gsub ?_
  | with_reducible refine x_c ?_
  | with_reducible refine x_op ?_
  | with_reducible refine x_call ?_
  | with_reducible refine x_cons ?_
  | with_reducible refine x_nil ?_
  | with_reducible refine x_par ?_
  | with_reducible refine x_tup ?_
  | with_reducible refine x_lst ?_
  | with_reducible refine x_b ?_
  | with_reducible refine x_tru ?_
  | with_reducible refine x_not ?_
  | with_reducible refine x_or ?_
  | with_reducible refine x_and ?_
  | with_reducible refine x_ife ?_
  | with_reducible refine x_add ?_
  | with_reducible refine x_sub ?_
  | with_reducible refine x_gtI ?_
  | with_reducible refine x_ltI ?_
  | with_reducible refine x_geI ?_
  | with_reducible refine x_leI ?_
  | with_reducible refine x_abs ?_
  | with_reducible refine x_intb ?_
  | with_reducible refine x_for ?_
  | with_reducible refine x_irange ?_
  | with_reducible refine x_lc ?_
  | with_reducible refine x_yes ?_
  | with_reducible refine x_bm ?_
  | with_reducible refine x_bm0 ?_
  | with_reducible refine x_andv ?_
  | with_reducible refine x_orv ?_
  | with_reducible refine x_notv ?_
  | with_reducible refine x_eqI ?_
  | with_reducible refine x_tystr ?_
  | ((with_reducible refine' x_gtup ?e ?_); (case e => with_unfolding_all rfl))
  | ((with_reducible refine' x_pow ?e ?_); (case e => exact ⟨by decide, by decide, by decide⟩))
  | ((with_reducible refine' x_ix ?e ?q ?_); (case e => walk_at "get"); (case q => with_unfolding_all rfl))
  | ((with_reducible refine' x_ixt ?q ?_); (case q => with_unfolding_all rfl))
  | ((with_reducible refine' x_sto ?e ?q ?_); (case e => walk_at "get"); (case q => with_unfolding_all rfl))
  | ((with_reducible refine' x_adds ?e ?_); (case e => walk_at "txt"))
  | ((with_reducible refine' x_muls ?e ?f ?g ?_); (case e => omega); (case f => omega); (case g => walk_at "txt"))
  | ((with_reducible refine' x_divmod ?e ?_); (case e => exact ⟨by omega, by omega⟩))
  | ((with_reducible refine' x_mod ?e ?_); (case e => omega))
  | ((with_reducible refine' x_fdivC ?e ?f ?_); (case e => omega); (case f => omega))
  | ((with_reducible refine' x_mulL ?e ?f ?_); (case e => omega); (case f => omega))
  | ((with_reducible refine' x_mulR ?e ?f ?_); (case e => omega); (case f => omega))
  | ((with_reducible refine' x_len ?e ?_); (case e => walk_at "sq"))
  | ((with_reducible refine' x_range ?e ?f ?_); (case e => omega); (case f => omega))
  | ((with_reducible refine' x_tylst ?e ?_); (case e => walk_at "get"))
  | ((with_reducible refine' x_append ?e ?f ?_); (case e => walk_at "get"); (case f => walk_at "size"))
  | ((with_reducible refine' And.intro ?e ?_); (case e => (show _ ≤ sizeLine; walk_at "size")))
  | ((with_reducible refine' Exists.intro _ (And.intro ?e ?_)); (case e => with_unfolding_all rfl)))
theorem right_ok {k : Nat} {a : Addr} {G : Gp} {N : Int} {R : KT} (h : Bx G a N) (hN : N + 7000000 < 1000000000) (hR : ∀ G', Fr a G G' → R (.bl true) G') : SP (k + 101) 18 [.ref a] G R := by
  show spOf 9 1 (b18 (SP (k + 100))) _ _ _
  refine ⟨rfl, ?_⟩
  unfold b18
  have szl := sizeLine_eq
  with_reducible refine x_seq ?_
  refine x_asg (x_call (x_cons (x_var rfl (x_cons (x_c (x_nil ?_))))))
  refine names_ok (k := k + 98) h (by omega) (by decide) (by decide) fun p1 zs G1 p1a hp1 e1 zl zw f1 B1 => x_gname ?_
  obtain ⟨z0, z1, z2, z3, rfl⟩ := len4 zl
  -- the words
  have W := words_ok (k := k + 99) (G := G1) (a := a) (p1 := p1) (z0 := z0) (z1 := z1) (z2 := z2) (z3 := z3) (x2 := none) (x3 := none) (x4 := none) (x5 := none) (x6 := none) (x7 := none) (x8 := none)
    (M := { nx := (msSeq (msAsg (mTup (maCons (mC (.str "case")) (maCons (mTup (maCons (mC (.str "name")) (maCons (mOp oIx (mVar 1) (mC (.int 0))) maNil))) (maCons (mTup (maCons (mTup (maCons (mCall omMin1 (maCons (mSl (mVar 1) moN (moS (mC (.int 2)))) maNil)) (maCons (mOp oIx (mVar 1) (mC (.int 0))) (maCons (mTup (maCons (mC (.str "fun")) (maCons (mOp oIx (mVar 1) (mC (.int 1))) (maCons (mTup (maCons (mC (.str "name")) (maCons (mOp oIx (mVar 1) (mC (.int 0))) maNil))) maNil)))) maNil)))) maNil)) maNil)))) (mgName 3)) (msSeq (msAsg (mLst (maCons (mTup (maCons (mTup (maCons (mC (.int 0)) maNil)) (maCons (mOp oIx (mVar 1) (mC (.int 0))) maNil))) maNil)) (mgName 4)) (msSeq (msIf (tmNot (mTru (mCall (SP (k + 100) 7) (maCons (mCall (SP (k + 100) 4) (maCons (mVar 3) maNil)) (maCons (mVar 4) maNil))))) (msRet (mC (.bl false))) msNext) (msSeq (msFor (miRange (mC (.int 12))) (mgName 5) (msSeq (msAsg (mCall (SP (k + 100) 12) (maCons (mVar 0) (maCons (mVar 2) (maCons (mLst maNil) (maCons (mOp oAdd (mC (.int 2)) (mCall (SP (k + 100) 6) (maCons (mVar 0) (maCons (mC (.int 3)) maNil)))) maNil))))) (mgName 6)) (msIf (mB (mOp oLeU (mCall omLen (maCons (mCall (SP (k + 100) 11) (maCons (mVar 6) maNil)) maNil)) (mC (.int 40)))) (msSeq (msAsg (mCall (SP (k + 100) 17) (maCons (mVar 6) maNil)) (mgName 4)) (msFor (miRange (mC (.int 2))) (mgName 7) (msSeq (msAsg (mCall (SP (k + 100) 4) (maCons (mVar 6) maNil)) (mgName 8)) (msSeq (msIf (tmOr (tmNot (mTru (mCall (SP (k + 100) 7) (maCons (mVar 8) (maCons (mVar 4) maNil))))) (tmNot (mTru (mCall (SP (k + 100) 7) (maCons (mVar 8) (maCons (mCall (SP (k + 100) 14) (maCons (mVar 6) (maCons (mTup maNil) (maCons (mLst maNil) maNil)))) maNil)))))) (msRet (mC (.bl false))) msNext) (msExpr (mBm "list" omAppend (mVar 8) (maCons (mC (.str "more")) maNil))))))) msNext))) (msRet (mC (.bl true))))))) { nx := fun _ G' => fwdT R T.non G', rt := fwdT R }, rt := fwdT R }) B1 (by omega) e1 p1a zw
  refine W ?_
  clear W
  intro w ls ks fs G2 hw ws f2 B2
  dsimp only
  have e2 := f2 _ _ p1a e1
  have hz0 := zw z0 (by simp)
  have hz1 := zw z1 (by simp)
  have at0 : atI ([z0, z1, z2, z3].map T.str) 0 = some (.str z0) := rfl
  have at1 : atI ([z0, z1, z2, z3].map T.str) 1 = some (.str z1) := rfl
  have c2 : cutT [z0, z1, z2, z3] none (some 2) = [z0, z1] := by rw [cut_hi _ (by decide)]; rfl
  have F2 : Fr a G G2 := f1.trans f2
  with_reducible refine x_seq ?_
  refine x_asg (x_tup (x_cons (x_c (x_cons (x_tup (x_cons (x_c (x_cons (x_op (x_var rfl (x_c (x_ix e2 at0 (x_nil ⟨by show 2 ≤ sizeLine; omega, ?_⟩)))))))))))))
  refine x_cons (x_tup (x_cons (x_tup (x_cons (x_call (x_cons (x_sl (x_var rfl (x_slN (x_slS (x_c ⟨2, rfl, x_slL e2 fun q hq => ?_⟩)))))))))))
  rw [c2]
  have e3 := get_new (d := .lst ([z0, z1].map T.str)) hq e2
  have ml := minS_mem z0 [z1]
  refine x_nil ⟨_, rfl, .inr ⟨z0, [z1], .inr ⟨q, rfl, put_same⟩, ?_⟩⟩
  generalize minS z0 [z1] = l at ml ⊢
  have hl : Wd l := by
    rcases List.mem_cons.mp ml with rfl | ml
    · exact hz0
    · rw [List.mem_singleton.mp ml]; exact hz1
  refine x_cons (x_op (x_var rfl (x_c (x_ix e3 at0 (x_cons (x_tup (x_cons (x_c (x_cons (x_op (x_var rfl (x_c (x_ix e3 at1 (x_cons (x_tup (x_cons (x_c (x_cons (x_op (x_var rfl (x_c (x_ix e3 at0 (x_nil ⟨by show 2 ≤ sizeLine; omega, x_nil ⟨by show 3 ≤ sizeLine; omega, x_nil ⟨by show 3 ≤ sizeLine; omega, x_nil ⟨by show 1 ≤ sizeLine; omega, x_nil ⟨by show 3 ≤ sizeLine; omega, x_gname ?_⟩⟩⟩⟩⟩)))))))))))))))))))))))
  have B3 := B2.new (c := .lst ([z0, z1].map T.str)) hq
  have F3 : Fr a G (Mi.put G2 q (.lst ([z0, z1].map T.str))) := F2.trans (Fr.new hq)
  have hw3 := hw.fr (Fr.new (a := a) (c := .lst ([z0, z1].map T.str)) hq)
  generalize Mi.put G2 q (.lst ([z0, z1].map T.str)) = G3 at *
  with_reducible refine x_seq ?_
  refine x_asg (x_lst (x_cons (x_tup (x_cons (x_tup (x_cons (x_c (x_nil ⟨by show 1 ≤ sizeLine; omega, x_cons (x_op (x_var rfl (x_c (x_ix e3 at0 (x_nil ⟨by show 2 ≤ sizeLine; omega, x_nil ⟨by show 1 ≤ sizeLine; omega, fun p4 hp4 => x_gname ?_⟩⟩)))))⟩))))))))
  have B4 := B3.new (c := .lst [T.tup [.tup [.int 0], .str z0]]) hp4
  have F4 : Fr a G (Mi.put G3 p4 (.lst [T.tup [.tup [.int 0], .str z0]])) := F3.trans (Fr.new hp4)
  have hw4 := hw3.fr (Fr.new (a := a) (c := .lst [T.tup [.tup [.int 0], .str z0]]) hp4)
  have e4 : Mi.put G3 p4 (.lst [T.tup [.tup [.int 0], .str z0]]) p4 = some (.lst (nmd 2 (tkn l z0 z1) [] [])) := by rw [put_same, tkn_nmd]; rfl
  generalize Mi.put G3 p4 (.lst [T.tup [.tup [.int 0], .str z0]]) = G4 at *
  have tk := tkn_tm hl hz0 hz1
  have tl : (allp 2 (tkn l z0 z1) [] []).length ≤ 40 := by rw [tkn_all]; show 4 ≤ 40; decide
  with_reducible refine x_seq ?_
  with_reducible refine x_if ?_
  refine x_not (x_tru (x_call (x_cons (x_call (x_cons (x_var (show _ = some (some (tkn l z0 z1)) from rfl) (x_nil ?_)))))))
  refine namedIn_ok (k := k + 96) tk (by decide) tl fun p5 G5 hp5 e5 f5 => x_cons (x_var rfl (x_nil ?_))
  refine same_seq (k := k + 99) (n := 2) (same_all 2 (k + 99) (by omega)) (b := false) ⟨p5, rfl, e5⟩ ⟨p4, rfl, f5 _ _ e4⟩ (by have := nmd_len tl; omega) (nmd_sd tk (by decide)) fun G6 f6 => ⟨_, rfl, ?_⟩
  refine x_iteF rfl (x_next ?_)
  have f46 := f5.trans f6
  have B6 := B4.ext f46
  have F6 : Fr a G G6 := F4.trans f46.fr
  have hw6 := hw4.fr f46.fr
  dsimp only
  with_reducible refine x_seq ?_
  refine x_for (x_irange (x_c ⟨12, rfl, by decide, by decide, ?_⟩))
  refine ⟨fun i r G' => ∃ (x4 x5 x6 x7 x8 : Option T), r = [some (.ref a), some (.ref p1), some w, some (tkn l z0 z1), x4, x5, x6, x7, x8] ∧ Fr a G6 G' ∧ Bx G' a (N + 21 + 511110 * (i : Nat)),
    ⟨_, _, _, _, _, rfl, Fr.refl _, B6.le (by omega)⟩, fun i r G' _ q hq => (by cases hq), ?_, ?_⟩
  · intro i t2 r G' ht2 ⟨x4, x5, x6, x7, x8, w1, w2, w3⟩
    subst w1
    obtain ⟨rfl, hi⟩ := range_at ht2
    have hi : i < 12 := hi
    refine x_gname ?_
    with_reducible refine x_seq ?_
    refine x_asg (x_call (x_cons (x_var rfl (x_cons (x_var rfl (x_cons (x_lst (x_nil ⟨by show 0 ≤ sizeLine; omega, fun q9 hq9 => ?_⟩))))))))
    have q9a := w3.ne hq9
    refine x_cons (x_op (x_c (x_call (x_cons (x_var rfl (x_cons (x_c (x_nil ?_))))))))
    refine take_ok (k := k + 99) (w3.new (c := .lst []) hq9) (by omega) (by decide) (by decide) fun v G7 v0 v1 f7 B7 => x_add (x_nil ?_)
    have F7 : Fr a G' G7 := (Fr.new hq9).trans f7
    have cd := Cst_mono (d := (2 + v).toNat) (e := 4) (by omega)
    have c4 : Cst 4 = 511100 := by decide
    rw [show (2 + v) = (((2 + v).toNat : Nat) : Int) by omega]
    refine term_ok (2 + v).toNat (k + 100) (by omega) G7 a q9 _ w ls ks fs [] _ B7 (by omega) (hw6.fr (w2.trans F7)) ws q9a (f7 _ _ q9a put_same) (by simp; omega) (by simp) fun t G8 ht f8 B8 => x_gname ?_
    have F8 : Fr a G' G8 := F7.trans f8
    have ht4 : Tm 4 t := ht.le (by omega)
    have B8' : Bx G8 a (N + 21 + 511110 * ((i + 1 : Nat) : Int)) := B8.le (by omega)
    have fin : ∀ {N2 : Mi.Env → Gp → Prop} y4 y7 y8 G9, Fr a G8 G9 → Bx G9 a (N + 21 + 511110 * ((i + 1 : Nat) : Int)) →
        (N2 = fwd fun r G' => ∃ (x4 x5 x6 x7 x8 : Option T), r = [some (.ref a), some (.ref p1), some w, some (tkn l z0 z1), x4, x5, x6, x7, x8] ∧ Fr a G6 G' ∧ Bx G' a (N + 21 + 511110 * ((i + 1 : Nat) : Int))) →
        N2 [some (.ref a), some (.ref p1), some w, some (tkn l z0 z1), y4, some (.int (i : Nat)), some t, y7, y8] G9 := fun y4 y7 y8 G9 f b e => by
      subst e
      exact fwd.of ⟨_, _, _, _, _, rfl, w2.trans (F8.trans f), b⟩
    with_reducible refine x_if ?_
    refine x_b (x_op (x_call (x_cons (x_call (x_cons (x_var rfl (x_nil ?_)))))))
    refine places_ok 4 (k + 100) (by omega) t G8 _ ht4 (by decide) (by decide) fun p ps G9 eps _ _ f9 _ e9 => ?_
    subst eps
    refine x_nil (x_len (.inr (.inr ⟨p, rfl, e9⟩)) (x_c (x_leI ⟨_, rfl, ?_⟩)))
    refine x_ite (fun q => ?_) (fun q => ?_)
    · have q := of_decide_eq_true q
      rw [List.length_map, plc_len] at q
      have q : (allp 4 t [] []).length ≤ 40 := by omega
      with_reducible refine x_seq ?_
      refine x_asg (x_call (x_cons (x_var rfl (x_nil ?_))))
      refine lookedUp_ok (k := k + 91) ht4 (by decide) q fun pd G10 hpd e10 f10 => x_gname ?_
      dsimp only
      refine again_ok (k := k + 80) ht4 (by decide) q e10 fun y7 y8 G11 f11 => ?_
      have f811 := f9.trans (f10.trans f11)
      exact fin _ _ _ G11 f811.fr (B8'.ext f811) rfl
    · refine x_next ?_
      exact fin _ _ _ G9 f9.fr (B8'.ext f9) rfl
  · intro r G' ⟨x4, x5, x6, x7, x8, w1, w2, w3⟩
    subst w1
    dsimp only
    exact x_ret (x_c (fwdT.of (hR G' (F6.trans w2))))
end Lw

set_option Elab.async false
set_option linter.all false
set_option maxRecDepth 100000
set_option maxHeartbeats 1000000
namespace Lw
open PySem L2 Mi
local macro_rules | `(tactic| walk_at "get") => `(tactic| first | assumption | exact put_same | (refine get_new (by assumption) ?_; walk_at "get") | (refine get_ne (by assumption) ?_; walk_at "get"))
local macro_rules | `(tactic| walk_at "sq") => `(tactic| first | assumption | exact .inl rfl | exact .inr (.inl rfl) | exact .inr (.inr ⟨_, rfl, by walk_at "get"⟩))
local macro_rules | `(tactic| walk_at "size") => `(tactic| first | assumption | (simp only [List.length_cons, List.length_nil]; decide) | (have := sizeLine_eq; omega))
local macro_rules | `(tactic| walk_at "txt") => `(tactic| first | assumption | (simp only [Str.length, Str.cps_append, Array.size_append]; have := sizeLine_eq; omega))
local macro_rules | `(tactic| walk_at "go1") => `(tactic| first
  | ((with_reducible refine' x_var ?e ?_); (case e => with_unfolding_all rfl))
  | with_reducible refine x_seq ?_
  | with_reducible refine x_asg ?_
  | with_reducible refine x_if ?_
  | with_reducible refine x_ret ?_
  | with_reducible refine x_next ?_
  | with_reducible refine x_expr ?_
  | with_reducible refine x_gname ?_
  | with_reducible refine x_gcons ?_
  | with_reducible refine x_gnil ?_
  | with_reducible refine x_gsub ?_
  | with_reducible refine x_c ?_
  | with_reducible refine x_op ?_
  | with_reducible refine x_call ?_
  | with_reducible refine x_cons ?_
  | with_reducible refine x_nil ?_
  | with_reducible refine x_par ?_
  | with_reducible refine x_tup ?_
  | with_reducible refine x_lst ?_
  | with_reducible refine x_b ?_
  | with_reducible refine x_tru ?_
  | with_reducible refine x_not ?_
  | with_reducible refine x_or ?_
  | with_reducible refine x_and ?_
  | with_reducible refine x_ife ?_
  | with_reducible refine x_add ?_
  | with_reducible refine x_sub ?_
  | with_reducible refine x_gtI ?_
  | with_reducible refine x_ltI ?_
  | with_reducible refine x_geI ?_
  | with_reducible refine x_leI ?_
  | with_reducible refine x_abs ?_
  | with_reducible refine x_intb ?_
  | with_reducible refine x_for ?_
  | with_reducible refine x_irange ?_
  | with_reducible refine x_lc ?_
  | with_reducible refine x_yes ?_
  | with_reducible refine x_bm ?_
  | with_reducible refine x_bm0 ?_
  | with_reducible refine x_andv ?_
  | with_reducible refine x_orv ?_
  | with_reducible refine x_notv ?_
  | with_reducible refine x_eqI ?_
  | with_reducible refine x_tystr ?_
  | ((with_reducible refine' x_gtup ?e ?_); (case e => with_unfolding_all rfl))
  | ((with_reducible refine' x_pow ?e ?_); (case e => exact ⟨by decide, by decide, by decide⟩))
  | ((with_reducible refine' x_ix ?e ?q ?_); (case e => walk_at "get"); (case q => with_unfolding_all rfl))
  | ((with_reducible refine' x_ixt ?q ?_); (case q => with_unfolding_all rfl))
  | ((with_reducible refine' x_sto ?e ?q ?_); (case e => walk_at "get"); (case q => with_unfolding_all rfl))
  | ((with_reducible refine' x_adds ?e ?_); (case e => walk_at "txt"))
  | ((with_reducible refine' x_muls ?e ?f ?g ?_); (case e => omega); (case f => omega); (case g => walk_at "txt"))
  | ((with_reducible refine' x_divmod ?e ?_); (case e => exact ⟨by omega, by omega⟩))
  | ((with_reducible refine' x_mod ?e ?_); (case e => omega))
  | ((with_reducible refine' x_fdivC ?e ?f ?_); (case e => omega); (case f => omega))
  | ((with_reducible refine' x_mulL ?e ?f ?_); (case e => omega); (case f => omega))
  | ((with_reducible refine' x_mulR ?e ?f ?_); (case e => omega); (case f => omega))
  | ((with_reducible refine' x_len ?e ?_); (case e => walk_at "sq"))
  | ((with_reducible refine' x_range ?e ?f ?_); (case e => omega); (case f => omega))
  | ((with_reducible refine' x_tylst ?e ?_); (case e => walk_at "get"))
  | ((with_reducible refine' x_append ?e ?f ?_); (case e => walk_at "get"); (case f => walk_at "size"))
  | ((with_reducible refine' And.intro ?e ?_); (case e => (show _ ≤ sizeLine; walk_at "size")))
  | ((with_reducible refine' Exists.intro _ (And.intro ?e ?_)); (case e => with_unfolding_all rfl)))
theorem law_ok {k : Nat} {ns : List Int} {G : Gp} {R : KT} (hR : ∀ G', R (.bl true) G') : SP (k + 102) 19 [.cl (ns.map T.int)] G R := by
  show spOf 2 1 (b19 (SP (k + 101))) _ _ _
  refine ⟨rfl, ?_⟩
  unfold b19
  refine x_ret (x_call (x_cons ?_))
  have bd : ∀ n : Int, 0 ≤ n → (if (if (3 : Int) < n then (3 : Int) else n) > 1 then (if (3 : Int) < n then (3 : Int) else n) else 1) ≤ 3 ∧ 0 ≤ (if (if (3 : Int) < n then (3 : Int) else n) > 1 then (if (3 : Int) < n then (3 : Int) else n) else 1) := fun n hn => by
    split <;> split <;> omega
  have bn := bd (((ns.map T.int).length : Nat) : Int) (by omega)
  refine comp_ok (ts := rangeT 0 (if (if (3 : Int) < (((ns.map T.int).length : Nat) : Int) then (3 : Int) else (((ns.map T.int).length : Nat) : Int)) > 1 then (if (3 : Int) < (((ns.map T.int).length : Nat) : Int) then (3 : Int) else (((ns.map T.int).length : Nat) : Int)) else 1).toNat) (f := fun _ => .bl true) ?_ (fun Nn main => ?_) (fun t G1 K ht f1 k2 => ?_) fun D G' _ e2 f2 => ?_
  · simp only [rangeT, List.length_map, List.length_range]
    omega
  · refine x_irange (x_call (x_cons (x_c (x_cons (x_call ?_)))))
    refine x_cons (x_call (x_cons (x_var rfl (x_nil (x_len (.inr (.inl rfl)) ?_)))))
    refine x_cons (x_c (x_nil (x_min2 (x_nil (x_max2 ⟨_, rfl, by omega, by omega, ?_⟩)))))
    exact main [] G (Ext.refl G) fun _ _ q hq => by cases hq
  · obtain ⟨i, hi⟩ := List.getElem?_of_mem ht
    obtain ⟨rfl, hi2⟩ := range_at hi
    refine x_call (x_cons (x_call (x_cons (x_var rfl (x_cons (x_var rfl (x_nil ?_)))))))
    refine box_ok (k := k + 100) (by omega) fun p G2 hp f2 B2 => ?_
    refine x_nil (right_ok (k := k) B2 (by decide) fun G3 f3 => k2 G3 fun b c e => ?_)
    exact f3 b c (fun z => by rw [z, hp] at e; cases e) (f2 b c e)
  · refine x_nil (x_all (bs := (rangeT 0 (if (if (3 : Int) < (((ns.map T.int).length : Nat) : Int) then (3 : Int) else (((ns.map T.int).length : Nat) : Int)) > 1 then (if (3 : Int) < (((ns.map T.int).length : Nat) : Int) then (3 : Int) else (((ns.map T.int).length : Nat) : Int)) else 1).toNat).map fun _ => true) (by rw [e2, List.map_map]; rfl) ?_)
    have e : ((rangeT 0 (if (if (3 : Int) < (((ns.map T.int).length : Nat) : Int) then (3 : Int) else (((ns.map T.int).length : Nat) : Int)) > 1 then (if (3 : Int) < (((ns.map T.int).length : Nat) : Int) then (3 : Int) else (((ns.map T.int).length : Nat) : Int)) else 1).toNat).map fun _ => true).all id = true := by
      rw [List.all_eq_true]
      intro b hb
      obtain ⟨_, _, rfl⟩ := List.mem_map.mp hb
      rfl
    rw [e]
    exact fwdT.of (hR G')

end Lw

set_option Elab.async false
set_option linter.all false
set_option maxRecDepth 100000
set_option maxHeartbeats 4000000
namespace Lw
open PySem L2 Mi
section
variable {P : Program} {w : World} {K : PySem.W.Frag} {mg : Str → Option Value} {base : Heap} {fa : Nat → Addr} {fdd : Nat → FuncData}
theorem all_ok (Z : Txt w K mg fa fdd) : ∀ k : Nat, AllOk P w K mg base fa fdd k
  | 0 => ⟨fn_none, fn_none, fn_none, fn_none, fn_none, fn_none, fn_none, fn_none, fn_none, fn_none, fn_none, fn_none, fn_none, fn_none, fn_none, fn_none, fn_none, fn_none, fn_none, fn_none⟩
  | k + 1 => let A := all_ok Z k; ⟨ok0 Z A, ok1 Z A, ok2 Z A, ok3 Z A, ok4 Z A, ok5 Z A, ok6 Z A, ok7 Z A, ok8 Z A, ok9 Z A, ok10 Z A, ok11 Z A, ok12 Z A, ok13 Z A, ok14 Z A, ok15 Z A, ok16 Z A, ok17 Z A, ok18 Z A, ok19 Z A⟩
end
/-- a written dict, entry by entry -/
def EntR (K : PySem.W.Frag) : List DictEntry → List (Str × T) → Prop
  | [], [] => True
  | e :: es, (k, t) :: kvs => (∃ tk, e.key = .str k tk) ∧ (∃ v, RelV v e.val ∧ ∀ H, Rp K H v t) ∧ EntR K es kvs
  | _, _ => False
def EntL (K : PySem.W.Frag) : List DictEntry → List (Str × List T) → Prop
  | [], [] => True
  | e :: es, (k, ts) :: kvs => (∃ tk, e.key = .str k tk) ∧ (∃ p vs, e.val = .ref p ∧ (∀ H, SqT K H p vs) ∧ ∀ H, Rps K H vs ts) ∧ EntL K es kvs
  | _, _ => False
theorem isStr_str (k z : Str) (t : Tok) : (Value.str k t).isStr z = decide (k = z) := by
  rw [PySem.W.isStr_of]
  show (k == z) = _
  by_cases h : k = z
  · rw [decide_eq_true h, h]; exact beq_self_eq_true z
  · rw [decide_eq_false h]; exact beq_eq_false_iff_ne.mpr h
theorem ent_look {K : PySem.W.Frag} {z : Str} : ∀ {es : List DictEntry} {kvs : List (Str × T)}, EntR K es kvs → (es.any (·.refKey) = false) ∧ KRel K (lkT kvs z) ((es.find? (·.key.isStr z)).map (·.val))
  | [], [], _ => ⟨rfl, trivial⟩
  | e :: es, (k, t) :: kvs, ⟨⟨tk, ek⟩, hv, h⟩ => by
    obtain ⟨i1, i2⟩ := ent_look (z := z) h
    refine ⟨by rw [List.any_cons, i1, Bool.or_false]; unfold DictEntry.refKey; rw [ek], ?_⟩
    unfold lkT
    by_cases hk : k = z
    · rw [if_pos hk, List.find?_cons_of_pos (by rw [ek, isStr_str]; exact decide_eq_true hk)]
      exact hv
    · rw [if_neg hk, List.find?_cons_of_neg (by rw [ek, isStr_str]; simpa using hk)]
      exact i2
  | [], _ :: _, h => h.elim
  | _ :: _, [], h => h.elim
theorem ent_lookL {K : PySem.W.Frag} {z : Str} : ∀ {es : List DictEntry} {kvs : List (Str × List T)}, EntL K es kvs → (es.any (·.refKey) = false) ∧ KRelL K (lkL kvs z) ((es.find? (·.key.isStr z)).map (·.val))
  | [], [], _ => ⟨rfl, trivial⟩
  | e :: es, (k, t) :: kvs, ⟨⟨tk, ek⟩, ⟨p, vs, ev, hq, hr⟩, h⟩ => by
    obtain ⟨i1, i2⟩ := ent_lookL (z := z) h
    refine ⟨by rw [List.any_cons, i1, Bool.or_false]; unfold DictEntry.refKey; rw [ek], ?_⟩
    unfold lkL
    by_cases hk : k = z
    · rw [if_pos hk, List.find?_cons_of_pos (by rw [ek, isStr_str]; exact decide_eq_true hk)]
      exact ⟨p, vs, ev, hq, hr⟩
    · rw [if_neg hk, List.find?_cons_of_neg (by rw [ek, isStr_str]; simpa using hk)]
      exact i2
  | [], _ :: _, h => h.elim
  | _ :: _, [], h => h.elim
theorem ns_of {K : PySem.W.Frag} {d : Addr} {oc : Value} {od : Option Addr} {es : Array DictEntry} {n : Nat} {sl : Array (Option Value)} {z : Str} (l : K.lookup d = some ⟨oc, od, .dict es n, sl⟩) (h : es.toList.any (·.refKey) = false) : PySem.W.nsIn K d z = some ((es.toList.find? (·.key.isStr z)).map (·.val)) := by
  unfold PySem.W.nsIn
  rw [l]
  show (match es.toList.find? (·.key.isStr z) with | some e => some (some e.val) | none => if es.toList.any (·.refKey) then none else some none) = _
  cases es.toList.find? (·.key.isStr z) with
  | some e => rfl
  | none => rw [h]; rfl
theorem kd_of {K : PySem.W.Frag} {w : World} {mg : Str → Option Value} {x : Str} {kvs : List (Str × T)} {d : Addr} {es : Array DictEntry} {n : Nat} (m : mg x = some (.ref d)) (l : K.lookup d = some ⟨.type "dict", none, .dict es n, #[]⟩) (lit : PySem.W.KeysLit w.params es.toList) (low : (d == sysModules) = false) (h : EntR K es.toList kvs) : KD K w mg x kvs :=
  ⟨d, es, n, m, ⟨l, lit, low⟩, fun z => ⟨_, ns_of l (ent_look (z := z) h).1, (ent_look (z := z) h).2⟩⟩
theorem kdt_of {K : PySem.W.Frag} {w : World} {mg : Str → Option Value} {x : Str} {kvs : List (Str × List T)} {d : Addr} {es : Array DictEntry} {n : Nat} (m : mg x = some (.ref d)) (l : K.lookup d = some ⟨.type "dict", none, .dict es n, #[]⟩) (lit : PySem.W.KeysLit w.params es.toList) (low : (d == sysModules) = false) (h : EntL K es.toList kvs) : KDt K w mg x kvs :=
  ⟨d, es, n, m, ⟨l, lit, low⟩, fun z => ⟨_, ns_of l (ent_lookL (z := z) h).1, (ent_lookL (z := z) h).2⟩⟩
theorem rps_nil {K : PySem.W.Frag} : ∀ H, Rps K H [] [] := fun _ => rfl
theorem rps_cons {K : PySem.W.Frag} {v : V} {t : T} {vs : List V} {ts : List T} (h : ∀ H, Rp K H v t) (k : ∀ H, Rps K H vs ts) : ∀ H, Rps K H (v :: vs) (t :: ts) := fun H => ⟨v, vs, rfl, h H, k H⟩
theorem tup_of {K : PySem.W.Frag} {p : Addr} {od : Option Addr} {its : Array Value} {n : Nat} {sl : Array (Option Value)} {vs : List V} (l : K.lookup p = some ⟨.type "tuple", od, .seq its n, sl⟩) (z : its.size ≤ sizeLine) (v : Vals vs its.toList) : ∀ H, SqT K H p vs := fun H => .inr ⟨_, its, n, l, rfl, rfl, z, v⟩
section
theorem all_mk {l : PySem.W.OpenLaw} {w : World} {K : PySem.W.Frag} {h : Heap} {mg : Str → Option Value} {fl : Addr} (X : K.In h) (G : h.Ns mainGlobals mg) (hfa : mg "law" = some (.ref fl))
    {f0 : Addr} {od0 an0 : Option Addr} {sl0 : Array (Option Value)} {oc0 kV0 dc0 pm0 cd0 ct0 : Value}
    {f1 : Addr} {od1 an1 : Option Addr} {sl1 : Array (Option Value)} {oc1 kV1 dc1 pm1 cd1 ct1 : Value}
    {f2 : Addr} {od2 an2 : Option Addr} {sl2 : Array (Option Value)} {oc2 kV2 dc2 pm2 cd2 ct2 : Value}
    {f3 : Addr} {od3 an3 : Option Addr} {sl3 : Array (Option Value)} {oc3 kV3 dc3 pm3 cd3 ct3 : Value}
    {f4 : Addr} {od4 an4 : Option Addr} {sl4 : Array (Option Value)} {oc4 kV4 dc4 pm4 cd4 ct4 : Value}
    {f5 : Addr} {od5 an5 : Option Addr} {sl5 : Array (Option Value)} {oc5 kV5 dc5 pm5 cd5 ct5 : Value}
    {f6 : Addr} {od6 an6 : Option Addr} {sl6 : Array (Option Value)} {oc6 kV6 dc6 pm6 cd6 ct6 : Value}
    {f7 : Addr} {od7 an7 : Option Addr} {sl7 : Array (Option Value)} {oc7 kV7 dc7 pm7 cd7 ct7 : Value}
    {f8 : Addr} {od8 an8 : Option Addr} {sl8 : Array (Option Value)} {oc8 kV8 dc8 pm8 cd8 ct8 : Value}
    {f9 : Addr} {od9 an9 : Option Addr} {sl9 : Array (Option Value)} {oc9 kV9 dc9 pm9 cd9 ct9 : Value}
    {f10 : Addr} {od10 an10 : Option Addr} {sl10 : Array (Option Value)} {oc10 kV10 dc10 pm10 cd10 ct10 : Value}
    {f11 : Addr} {od11 an11 : Option Addr} {sl11 : Array (Option Value)} {oc11 kV11 dc11 pm11 cd11 ct11 : Value}
    {f12 : Addr} {od12 an12 : Option Addr} {sl12 : Array (Option Value)} {oc12 kV12 dc12 pm12 cd12 ct12 : Value}
    {f13 : Addr} {od13 an13 : Option Addr} {sl13 : Array (Option Value)} {oc13 kV13 dc13 pm13 cd13 ct13 : Value}
    {f14 : Addr} {od14 an14 : Option Addr} {sl14 : Array (Option Value)} {oc14 kV14 dc14 pm14 cd14 ct14 : Value}
    {f15 : Addr} {od15 an15 : Option Addr} {sl15 : Array (Option Value)} {oc15 kV15 dc15 pm15 cd15 ct15 : Value}
    {f16 : Addr} {od16 an16 : Option Addr} {sl16 : Array (Option Value)} {oc16 kV16 dc16 pm16 cd16 ct16 : Value}
    {f17 : Addr} {od17 an17 : Option Addr} {sl17 : Array (Option Value)} {oc17 kV17 dc17 pm17 cd17 ct17 : Value}
    {f18 : Addr} {od18 an18 : Option Addr} {sl18 : Array (Option Value)} {oc18 kV18 dc18 pm18 cd18 ct18 : Value}
    {f19 : Addr} {od19 an19 : Option Addr} {sl19 : Array (Option Value)} {oc19 kV19 dc19 pm19 cd19 ct19 : Value}
    {dTERMS_AT : Addr} {esTERMS_AT : Array DictEntry} {nTERMS_AT : Nat}
    (a0 : PySem.W.nsIn K mainGlobals "term_parts" = some (some (.ref f0))) (l0 : K.lookup f0 = some ⟨oc0, od0, .func (PySem.W.fnOf "term_parts" "term_parts" (defArgs s0) (defBody s0) (defScope s0) .none kV0 dc0 pm0 an0 cd0 ct0), sl0⟩) (c0 : PySem.W.codeIn K cd0 "term_parts" = true) (k0 : PySem.W.keepIn K (.ref f0) = true)
    (a1 : PySem.W.nsIn K mainGlobals "bindings" = some (some (.ref f1))) (l1 : K.lookup f1 = some ⟨oc1, od1, .func (PySem.W.fnOf "bindings" "bindings" (defArgs s1) (defBody s1) (defScope s1) .none kV1 dc1 pm1 an1 cd1 ct1), sl1⟩) (c1 : PySem.W.codeIn K cd1 "bindings" = true) (k1 : PySem.W.keepIn K (.ref f1) = true)
    (a2 : PySem.W.nsIn K mainGlobals "places_of" = some (some (.ref f2))) (l2 : K.lookup f2 = some ⟨oc2, od2, .func (PySem.W.fnOf "places_of" "places_of" (defArgs s2) (defBody s2) (defScope s2) .none kV2 dc2 pm2 an2 cd2 ct2), sl2⟩) (c2 : PySem.W.codeIn K cd2 "places_of" = true) (k2 : PySem.W.keepIn K (.ref f2) = true)
    (a3 : PySem.W.nsIn K mainGlobals "placed_parts" = some (some (.ref f3))) (l3 : K.lookup f3 = some ⟨oc3, od3, .func (PySem.W.fnOf "placed_parts" "placed_parts" (defArgs s3) (defBody s3) (defScope s3) .none kV3 dc3 pm3 an3 cd3 ct3), sl3⟩) (c3 : PySem.W.codeIn K cd3 "placed_parts" = true) (k3 : PySem.W.keepIn K (.ref f3) = true)
    (a4 : PySem.W.nsIn K mainGlobals "named_in" = some (some (.ref f4))) (l4 : K.lookup f4 = some ⟨oc4, od4, .func (PySem.W.fnOf "named_in" "named_in" (defArgs s4) (defBody s4) (defScope s4) .none kV4 dc4 pm4 an4 cd4 ct4), sl4⟩) (c4 : PySem.W.codeIn K cd4 "named_in" = true) (k4 : PySem.W.keepIn K (.ref f4) = true)
    (a5 : PySem.W.nsIn K mainGlobals "_law_box" = some (some (.ref f5))) (l5 : K.lookup f5 = some ⟨oc5, od5, .func (PySem.W.fnOf "_law_box" "_law_box" (defArgs s5) (defBody s5) (defScope s5) .none kV5 dc5 pm5 an5 cd5 ct5), sl5⟩) (c5 : PySem.W.codeIn K cd5 "_law_box" = true) (k5 : PySem.W.keepIn K (.ref f5) = true)
    (a6 : PySem.W.nsIn K mainGlobals "_law_take" = some (some (.ref f6))) (l6 : K.lookup f6 = some ⟨oc6, od6, .func (PySem.W.fnOf "_law_take" "_law_take" (defArgs s6) (defBody s6) (defScope s6) .none kV6 dc6 pm6 an6 cd6 ct6), sl6⟩) (c6 : PySem.W.codeIn K cd6 "_law_take" = true) (k6 : PySem.W.keepIn K (.ref f6) = true)
    (a7 : PySem.W.nsIn K mainGlobals "_law_same" = some (some (.ref f7))) (l7 : K.lookup f7 = some ⟨oc7, od7, .func (PySem.W.fnOf "_law_same" "_law_same" (defArgs s7) (defBody s7) (defScope s7) .none kV7 dc7 pm7 an7 cd7 ct7), sl7⟩) (c7 : PySem.W.codeIn K cd7 "_law_same" = true) (k7 : PySem.W.keepIn K (.ref f7) = true)
    (a8 : PySem.W.nsIn K mainGlobals "_law_of" = some (some (.ref f8))) (l8 : K.lookup f8 = some ⟨oc8, od8, .func (PySem.W.fnOf "_law_of" "_law_of" (defArgs s8) (defBody s8) (defScope s8) .none kV8 dc8 pm8 an8 cd8 ct8), sl8⟩) (c8 : PySem.W.codeIn K cd8 "_law_of" = true) (k8 : PySem.W.keepIn K (.ref f8) = true)
    (a9 : PySem.W.nsIn K mainGlobals "_law_names" = some (some (.ref f9))) (l9 : K.lookup f9 = some ⟨oc9, od9, .func (PySem.W.fnOf "_law_names" "_law_names" (defArgs s9) (defBody s9) (defScope s9) .none kV9 dc9 pm9 an9 cd9 ct9), sl9⟩) (c9 : PySem.W.codeIn K cd9 "_law_names" = true) (k9 : PySem.W.keepIn K (.ref f9) = true)
    (a10 : PySem.W.nsIn K mainGlobals "_law_parts" = some (some (.ref f10))) (l10 : K.lookup f10 = some ⟨oc10, od10, .func (PySem.W.fnOf "_law_parts" "_law_parts" (defArgs s10) (defBody s10) (defScope s10) .none kV10 dc10 pm10 an10 cd10 ct10), sl10⟩) (c10 : PySem.W.codeIn K cd10 "_law_parts" = true) (k10 : PySem.W.keepIn K (.ref f10) = true)
    (a11 : PySem.W.nsIn K mainGlobals "_law_places" = some (some (.ref f11))) (l11 : K.lookup f11 = some ⟨oc11, od11, .func (PySem.W.fnOf "_law_places" "_law_places" (defArgs s11) (defBody s11) (defScope s11) .none kV11 dc11 pm11 an11 cd11 ct11), sl11⟩) (c11 : PySem.W.codeIn K cd11 "_law_places" = true) (k11 : PySem.W.keepIn K (.ref f11) = true)
    (a12 : PySem.W.nsIn K mainGlobals "_law_term" = some (some (.ref f12))) (l12 : K.lookup f12 = some ⟨oc12, od12, .func (PySem.W.fnOf "_law_term" "_law_term" (defArgs s12) (defBody s12) (defScope s12) .none kV12 dc12 pm12 an12 cd12 ct12), sl12⟩) (c12 : PySem.W.codeIn K cd12 "_law_term" = true) (k12 : PySem.W.keepIn K (.ref f12) = true)
    (a13 : PySem.W.nsIn K mainGlobals "_law_term_case" = some (some (.ref f13))) (l13 : K.lookup f13 = some ⟨oc13, od13, .func (PySem.W.fnOf "_law_term_case" "_law_term_case" (defArgs s13) (defBody s13) (defScope s13) .none kV13 dc13 pm13 an13 cd13 ct13), sl13⟩) (c13 : PySem.W.codeIn K cd13 "_law_term_case" = true) (k13 : PySem.W.keepIn K (.ref f13) = true)
    (a14 : PySem.W.nsIn K mainGlobals "_law_named" = some (some (.ref f14))) (l14 : K.lookup f14 = some ⟨oc14, od14, .func (PySem.W.fnOf "_law_named" "_law_named" (defArgs s14) (defBody s14) (defScope s14) .none kV14 dc14 pm14 an14 cd14 ct14), sl14⟩) (c14 : PySem.W.codeIn K cd14 "_law_named" = true) (k14 : PySem.W.keepIn K (.ref f14) = true)
    (a15 : PySem.W.nsIn K mainGlobals "_law_part" = some (some (.ref f15))) (l15 : K.lookup f15 = some ⟨oc15, od15, .func (PySem.W.fnOf "_law_part" "_law_part" (defArgs s15) (defBody s15) (defScope s15) .none kV15 dc15 pm15 an15 cd15 ct15), sl15⟩) (c15 : PySem.W.codeIn K cd15 "_law_part" = true) (k15 : PySem.W.keepIn K (.ref f15) = true)
    (a16 : PySem.W.nsIn K mainGlobals "_law_is_bound" = some (some (.ref f16))) (l16 : K.lookup f16 = some ⟨oc16, od16, .func (PySem.W.fnOf "_law_is_bound" "_law_is_bound" (defArgs s16) (defBody s16) (defScope s16) .none kV16 dc16 pm16 an16 cd16 ct16), sl16⟩) (c16 : PySem.W.codeIn K cd16 "_law_is_bound" = true) (k16 : PySem.W.keepIn K (.ref f16) = true)
    (a17 : PySem.W.nsIn K mainGlobals "_law_looked_up" = some (some (.ref f17))) (l17 : K.lookup f17 = some ⟨oc17, od17, .func (PySem.W.fnOf "_law_looked_up" "_law_looked_up" (defArgs s17) (defBody s17) (defScope s17) .none kV17 dc17 pm17 an17 cd17 ct17), sl17⟩) (c17 : PySem.W.codeIn K cd17 "_law_looked_up" = true) (k17 : PySem.W.keepIn K (.ref f17) = true)
    (a18 : PySem.W.nsIn K mainGlobals "_law_right" = some (some (.ref f18))) (l18 : K.lookup f18 = some ⟨oc18, od18, .func (PySem.W.fnOf "_law_right" "_law_right" (defArgs s18) (defBody s18) (defScope s18) .none kV18 dc18 pm18 an18 cd18 ct18), sl18⟩) (c18 : PySem.W.codeIn K cd18 "_law_right" = true) (k18 : PySem.W.keepIn K (.ref f18) = true)
    (a19 : PySem.W.nsIn K mainGlobals "law" = some (some (.ref f19))) (l19 : K.lookup f19 = some ⟨oc19, od19, .func (PySem.W.fnOf "law" "law" (defArgs s19) (defBody s19) (defScope s19) .none kV19 dc19 pm19 an19 cd19 ct19), sl19⟩) (c19 : PySem.W.codeIn K cd19 "law" = true) (k19 : PySem.W.keepIn K (.ref f19) = true)
    (mTERMS_AT : PySem.W.nsIn K mainGlobals "TERMS_AT" = some (some (.ref dTERMS_AT))) (lTERMS_AT : K.lookup dTERMS_AT = some ⟨.type "dict", none, .dict esTERMS_AT nTERMS_AT, #[]⟩) (tTERMS_AT : PySem.W.KeysLit w.params esTERMS_AT.toList) (wTERMS_AT : (dTERMS_AT == sysModules) = false) (eTERMS_AT : EntL K esTERMS_AT.toList kl_TERMS_AT)
    (zabs : PySem.W.nsIn K mainGlobals "abs" = some none)
    (zall : PySem.W.nsIn K mainGlobals "all" = some none)
    (zbool : PySem.W.nsIn K mainGlobals "bool" = some none)
    (zdivmod : PySem.W.nsIn K mainGlobals "divmod" = some none)
    (zenumerate : PySem.W.nsIn K mainGlobals "enumerate" = some none)
    (zint : PySem.W.nsIn K mainGlobals "int" = some none)
    (zisinstance : PySem.W.nsIn K mainGlobals "isinstance" = some none)
    (zlen : PySem.W.nsIn K mainGlobals "len" = some none)
    (zlist : PySem.W.nsIn K mainGlobals "list" = some none)
    (zmax : PySem.W.nsIn K mainGlobals "max" = some none)
    (zmin : PySem.W.nsIn K mainGlobals "min" = some none)
    (zrange : PySem.W.nsIn K mainGlobals "range" = some none)
    (zsorted : PySem.W.nsIn K mainGlobals "sorted" = some none)
    (zstr : PySem.W.nsIn K mainGlobals "str" = some none)
    (ztuple : PySem.W.nsIn K mainGlobals "tuple" = some none)
    (zzip : PySem.W.nsIn K mainGlobals "zip" = some none) :
    ∃ fd : FuncData, (∀ (s : Shared) (v : Value), BindsTo s fd ⟨[v], []⟩ [("script", v)]) ∧ ∀ base : Heap, K.In base → base.Ns mainGlobals mg → FnG l.prog w K mg base 102 fl fd ["script"] (liM K (SP 102 19)) := by
  have e := hfa.symm.trans (PySem.W.mg_of X G a19)
  cases e
  have F0 := fun_mk (st := s0) l0 c0 k0
  have B0 := F0.binds (ps := ["term"]) fun _ _ _ _ _ _ us hl => match us, hl with | [_], _ => rfl
  have F1 := fun_mk (st := s1) l1 c1 k1
  have B1 := F1.binds (ps := ["term", "first", "known", "around"]) fun _ _ _ _ _ _ us hl => match us, hl with | [_, _, _, _], _ => rfl
  have F2 := fun_mk (st := s2) l2 c2 k2
  have B2 := F2.binds (ps := ["term"]) fun _ _ _ _ _ _ us hl => match us, hl with | [_], _ => rfl
  have F3 := fun_mk (st := s3) l3 c3 k3
  have B3 := F3.binds (ps := ["term"]) fun _ _ _ _ _ _ us hl => match us, hl with | [_], _ => rfl
  have F4 := fun_mk (st := s4) l4 c4 k4
  have B4 := F4.binds (ps := ["term"]) fun _ _ _ _ _ _ us hl => match us, hl with | [_], _ => rfl
  have F5 := fun_mk (st := s5) l5 c5 k5
  have B5 := F5.binds (ps := ["script", "k"]) fun _ _ _ _ _ _ us hl => match us, hl with | [_, _], _ => rfl
  have F6 := fun_mk (st := s6) l6 c6 k6
  have B6 := F6.binds (ps := ["box", "size"]) fun _ _ _ _ _ _ us hl => match us, hl with | [_, _], _ => rfl
  have F7 := fun_mk (st := s7) l7 c7 k7
  have B7 := F7.binds (ps := ["found", "due"]) fun _ _ _ _ _ _ us hl => match us, hl with | [_, _], _ => rfl
  have F8 := fun_mk (st := s8) l8 c8 k8
  have B8 := F8.binds (ps := ["box", "some"]) fun _ _ _ _ _ _ us hl => match us, hl with | [_, _], _ => rfl
  have F9 := fun_mk (st := s9) l9 c9 k9
  have B9 := F9.binds (ps := ["box", "many"]) fun _ _ _ _ _ _ us hl => match us, hl with | [_, _], _ => rfl
  have F10 := fun_mk (st := s10) l10 c10 k10
  have B10 := F10.binds (ps := ["term"]) fun _ _ _ _ _ _ us hl => match us, hl with | [_], _ => rfl
  have F11 := fun_mk (st := s11) l11 c11 k11
  have B11 := F11.binds (ps := ["term"]) fun _ _ _ _ _ _ us hl => match us, hl with | [_], _ => rfl
  have F12 := fun_mk (st := s12) l12 c12 k12
  have B12 := F12.binds (ps := ["box", "w", "bound", "deep"]) fun _ _ _ _ _ _ us hl => match us, hl with | [_, _, _, _], _ => rfl
  have F13 := fun_mk (st := s13) l13 c13 k13
  have B13 := F13.binds (ps := ["box", "w", "bound", "one", "deep"]) fun _ _ _ _ _ _ us hl => match us, hl with | [_, _, _, _, _], _ => rfl
  have F14 := fun_mk (st := s14) l14 c14 k14
  have B14 := F14.binds (ps := ["term", "place", "bound"]) fun _ _ _ _ _ _ us hl => match us, hl with | [_, _, _], _ => rfl
  have F15 := fun_mk (st := s15) l15 c15 k15
  have B15 := F15.binds (ps := ["term", "place"]) fun _ _ _ _ _ _ us hl => match us, hl with | [_, _], _ => rfl
  have F16 := fun_mk (st := s16) l16 c16 k16
  have B16 := F16.binds (ps := ["term", "place", "x"]) fun _ _ _ _ _ _ us hl => match us, hl with | [_, _, _], _ => rfl
  have F17 := fun_mk (st := s17) l17 c17 k17
  have B17 := F17.binds (ps := ["term"]) fun _ _ _ _ _ _ us hl => match us, hl with | [_], _ => rfl
  have F18 := fun_mk (st := s18) l18 c18 k18
  have B18 := F18.binds (ps := ["box"]) fun _ _ _ _ _ _ us hl => match us, hl with | [_], _ => rfl
  have F19 := fun_mk (st := s19) l19 c19 k19
  have B19 := F19.binds (ps := ["script"]) fun _ _ _ _ _ _ us hl => match us, hl with | [_], _ => rfl
  have Z : Txt w K mg (fun j => [f0, f1, f2, f3, f4, f5, f6, f7, f8, f9, f10, f11, f12, f13, f14, f15, f16, f17, f18, fl].getD j 0) (fun j => [PySem.W.fnOf "term_parts" "term_parts" (defArgs s0) (defBody s0) (defScope s0) .none kV0 dc0 pm0 an0 cd0 ct0, PySem.W.fnOf "bindings" "bindings" (defArgs s1) (defBody s1) (defScope s1) .none kV1 dc1 pm1 an1 cd1 ct1, PySem.W.fnOf "places_of" "places_of" (defArgs s2) (defBody s2) (defScope s2) .none kV2 dc2 pm2 an2 cd2 ct2, PySem.W.fnOf "placed_parts" "placed_parts" (defArgs s3) (defBody s3) (defScope s3) .none kV3 dc3 pm3 an3 cd3 ct3, PySem.W.fnOf "named_in" "named_in" (defArgs s4) (defBody s4) (defScope s4) .none kV4 dc4 pm4 an4 cd4 ct4, PySem.W.fnOf "_law_box" "_law_box" (defArgs s5) (defBody s5) (defScope s5) .none kV5 dc5 pm5 an5 cd5 ct5, PySem.W.fnOf "_law_take" "_law_take" (defArgs s6) (defBody s6) (defScope s6) .none kV6 dc6 pm6 an6 cd6 ct6, PySem.W.fnOf "_law_same" "_law_same" (defArgs s7) (defBody s7) (defScope s7) .none kV7 dc7 pm7 an7 cd7 ct7, PySem.W.fnOf "_law_of" "_law_of" (defArgs s8) (defBody s8) (defScope s8) .none kV8 dc8 pm8 an8 cd8 ct8, PySem.W.fnOf "_law_names" "_law_names" (defArgs s9) (defBody s9) (defScope s9) .none kV9 dc9 pm9 an9 cd9 ct9, PySem.W.fnOf "_law_parts" "_law_parts" (defArgs s10) (defBody s10) (defScope s10) .none kV10 dc10 pm10 an10 cd10 ct10, PySem.W.fnOf "_law_places" "_law_places" (defArgs s11) (defBody s11) (defScope s11) .none kV11 dc11 pm11 an11 cd11 ct11, PySem.W.fnOf "_law_term" "_law_term" (defArgs s12) (defBody s12) (defScope s12) .none kV12 dc12 pm12 an12 cd12 ct12, PySem.W.fnOf "_law_term_case" "_law_term_case" (defArgs s13) (defBody s13) (defScope s13) .none kV13 dc13 pm13 an13 cd13 ct13, PySem.W.fnOf "_law_named" "_law_named" (defArgs s14) (defBody s14) (defScope s14) .none kV14 dc14 pm14 an14 cd14 ct14, PySem.W.fnOf "_law_part" "_law_part" (defArgs s15) (defBody s15) (defScope s15) .none kV15 dc15 pm15 an15 cd15 ct15, PySem.W.fnOf "_law_is_bound" "_law_is_bound" (defArgs s16) (defBody s16) (defScope s16) .none kV16 dc16 pm16 an16 cd16 ct16, PySem.W.fnOf "_law_looked_up" "_law_looked_up" (defArgs s17) (defBody s17) (defScope s17) .none kV17 dc17 pm17 an17 cd17 ct17, PySem.W.fnOf "_law_right" "_law_right" (defArgs s18) (defBody s18) (defScope s18) .none kV18 dc18 pm18 an18 cd18 ct18, PySem.W.fnOf "law" "law" (defArgs s19) (defBody s19) (defScope s19) .none kV19 dc19 pm19 an19 cd19 ct19].getD j (PySem.W.fnOf "term_parts" "term_parts" (defArgs s0) (defBody s0) (defScope s0) .none kV0 dc0 pm0 an0 cd0 ct0)) := {
    F0 := F0, B0 := B0, M0 := PySem.W.mg_of X G a0,
    F1 := F1, B1 := B1, M1 := PySem.W.mg_of X G a1,
    F2 := F2, B2 := B2, M2 := PySem.W.mg_of X G a2,
    F3 := F3, B3 := B3, M3 := PySem.W.mg_of X G a3,
    F4 := F4, B4 := B4, M4 := PySem.W.mg_of X G a4,
    F5 := F5, B5 := B5, M5 := PySem.W.mg_of X G a5,
    F6 := F6, B6 := B6, M6 := PySem.W.mg_of X G a6,
    F7 := F7, B7 := B7, M7 := PySem.W.mg_of X G a7,
    F8 := F8, B8 := B8, M8 := PySem.W.mg_of X G a8,
    F9 := F9, B9 := B9, M9 := PySem.W.mg_of X G a9,
    F10 := F10, B10 := B10, M10 := PySem.W.mg_of X G a10,
    F11 := F11, B11 := B11, M11 := PySem.W.mg_of X G a11,
    F12 := F12, B12 := B12, M12 := PySem.W.mg_of X G a12,
    F13 := F13, B13 := B13, M13 := PySem.W.mg_of X G a13,
    F14 := F14, B14 := B14, M14 := PySem.W.mg_of X G a14,
    F15 := F15, B15 := B15, M15 := PySem.W.mg_of X G a15,
    F16 := F16, B16 := B16, M16 := PySem.W.mg_of X G a16,
    F17 := F17, B17 := B17, M17 := PySem.W.mg_of X G a17,
    F18 := F18, B18 := B18, M18 := PySem.W.mg_of X G a18,
    F19 := F19, B19 := B19, M19 := PySem.W.mg_of X G a19,
    L_TERMS_AT := kdt_of (PySem.W.mg_of X G mTERMS_AT) lTERMS_AT tTERMS_AT wTERMS_AT eTERMS_AT,
    zabs := PySem.W.mg_none_of X G zabs,
    zall := PySem.W.mg_none_of X G zall,
    zbool := PySem.W.mg_none_of X G zbool,
    zdivmod := PySem.W.mg_none_of X G zdivmod,
    zenumerate := PySem.W.mg_none_of X G zenumerate,
    zint := PySem.W.mg_none_of X G zint,
    zisinstance := PySem.W.mg_none_of X G zisinstance,
    zlen := PySem.W.mg_none_of X G zlen,
    zlist := PySem.W.mg_none_of X G zlist,
    zmax := PySem.W.mg_none_of X G zmax,
    zmin := PySem.W.mg_none_of X G zmin,
    zrange := PySem.W.mg_none_of X G zrange,
    zsorted := PySem.W.mg_none_of X G zsorted,
    zstr := PySem.W.mg_none_of X G zstr,
    ztuple := PySem.W.mg_none_of X G ztuple,
    zzip := PySem.W.mg_none_of X G zzip }
  exact ⟨PySem.W.fnOf "law" "law" (defArgs s19) (defBody s19) (defScope s19) .none kV19 dc19 pm19 an19 cd19 ct19, fun s v => .of_eq rfl, fun base _ _ => FnG.of ((all_ok Z 102).f19)⟩
end
theorem walk {l : PySem.W.OpenLaw} {q : Program} {loose : List Str} {XP : (Str → Option Value) → Heap → Prop} {YP : World → Heap → Prop} {d : DefRec} {K : Params → PySem.W.Frag} (hn : l.most = some 63) (hdf : d.params.defaults = [])
    (hY : ∀ (w : World) (h : Heap), YP w h → (K w.params).In h)
    (F : ∀ (w : World) (mg : Str → Option Value) (fa : Addr) (h : Heap), (K w.params).In h → h.Ns mainGlobals mg → mg d.name = some (.ref fa) →
      ∃ fd : FuncData, (∀ (s : Shared) (u : Value), BindsTo s fd ⟨[u], []⟩ [("script", u)]) ∧ ∀ base : Heap, (K w.params).In base → base.Ns mainGlobals mg → FnG l.prog w (K w.params) mg base 102 fa fd ["script"] (liM (K w.params) (SP 102 19))) :
    PySem.W.WalkO q loose XP YP l.row.toRowW d [] (fun f vs => PySem.call f vs) :=
  walk_ofG (n := 63) (k := 102) (x := "script") (sp := fun w => liM (K w.params) (SP 102 19)) hn (by decide) hdf ⟨rfl, by decide, by decide⟩ hY F fun w H a ns hl hO hS => by
    have hc : SqC (K w.params) H a (ns.map V.int) := by
      rcases hS with (h | ⟨o, h⟩) | h
      · rcases hO a with z | ⟨o, xs, z⟩
        · rw [h] at z; cases z
        · rw [h] at z; cases z
      · exact .inl ⟨o, h⟩
      · exact .inr h
    have hr : ∀ ns : List Int, Rps (K w.params) H (ns.map V.int) (ns.map T.int) := by
      intro ns
      induction ns with
      | nil => rfl
      | cons n r ih => exact ⟨_, _, rfl, rfl, ih⟩
    refine ⟨[.cl (ns.map T.int)], fun _ => none, fun t _ => t = .bl true, ?_, fun _ _ e => (by cases e), law_ok (k := 0) fun _ => rfl, fun t G' H' v e _ _ r => by subst e; exact r⟩
    exact ⟨_, [], rfl, ⟨a, _, rfl, hc, by rw [List.length_map]; have := sizeLine_eq; omega, hr ns⟩, rfl⟩
end Lw
open PySem PySem.W PyProof.Rows
set_option maxRecDepth 100000 in
set_option maxHeartbeats 0 in
theorem PySem.Challenge.cw_sealedkinds_k15_names_not_bound_holds : PySem.Challenge.rw_sealedkinds_k15_names_not_bound.Holds := by
  w_on; o_law; k_head; (case hw => w_witness2)
  k_fill
  refine Lw.walk (l := PySem.Challenge.rw_sealedkinds_k15_names_not_bound) rfl rfl (fun w h Y => PySem.W.kIn_of Y) ?F
  case F =>
    intro w mg fa h KX G hmg
    refine' Lw.all_mk KX G hmg ?a0 ?l0 ?c0 ?k0 ?a1 ?l1 ?c1 ?k1 ?a2 ?l2 ?c2 ?k2 ?a3 ?l3 ?c3 ?k3 ?a4 ?l4 ?c4 ?k4 ?a5 ?l5 ?c5 ?k5 ?a6 ?l6 ?c6 ?k6 ?a7 ?l7 ?c7 ?k7 ?a8 ?l8 ?c8 ?k8 ?a9 ?l9 ?c9 ?k9 ?a10 ?l10 ?c10 ?k10 ?a11 ?l11 ?c11 ?k11 ?a12 ?l12 ?c12 ?k12 ?a13 ?l13 ?c13 ?k13 ?a14 ?l14 ?c14 ?k14 ?a15 ?l15 ?c15 ?k15 ?a16 ?l16 ?c16 ?k16 ?a17 ?l17 ?c17 ?k17 ?a18 ?l18 ?c18 ?k18 ?a19 ?l19 ?c19 ?k19 ?mTERMS_AT ?lTERMS_AT ?tTERMS_AT ?wTERMS_AT ?eTERMS_AT ?zabs ?zall ?zbool ?zdivmod ?zenumerate ?zint ?zisinstance ?zlen ?zlist ?zmax ?zmin ?zrange ?zsorted ?zstr ?ztuple ?zzip
    (case a0 => k_is)
    (case l0 => k_is)
    (case c0 => k_is)
    (case k0 => k_is)
    (case a1 => k_is)
    (case l1 => k_is)
    (case c1 => k_is)
    (case k1 => k_is)
    (case a2 => k_is)
    (case l2 => k_is)
    (case c2 => k_is)
    (case k2 => k_is)
    (case a3 => k_is)
    (case l3 => k_is)
    (case c3 => k_is)
    (case k3 => k_is)
    (case a4 => k_is)
    (case l4 => k_is)
    (case c4 => k_is)
    (case k4 => k_is)
    (case a5 => k_is)
    (case l5 => k_is)
    (case c5 => k_is)
    (case k5 => k_is)
    (case a6 => k_is)
    (case l6 => k_is)
    (case c6 => k_is)
    (case k6 => k_is)
    (case a7 => k_is)
    (case l7 => k_is)
    (case c7 => k_is)
    (case k7 => k_is)
    (case a8 => k_is)
    (case l8 => k_is)
    (case c8 => k_is)
    (case k8 => k_is)
    (case a9 => k_is)
    (case l9 => k_is)
    (case c9 => k_is)
    (case k9 => k_is)
    (case a10 => k_is)
    (case l10 => k_is)
    (case c10 => k_is)
    (case k10 => k_is)
    (case a11 => k_is)
    (case l11 => k_is)
    (case c11 => k_is)
    (case k11 => k_is)
    (case a12 => k_is)
    (case l12 => k_is)
    (case c12 => k_is)
    (case k12 => k_is)
    (case a13 => k_is)
    (case l13 => k_is)
    (case c13 => k_is)
    (case k13 => k_is)
    (case a14 => k_is)
    (case l14 => k_is)
    (case c14 => k_is)
    (case k14 => k_is)
    (case a15 => k_is)
    (case l15 => k_is)
    (case c15 => k_is)
    (case k15 => k_is)
    (case a16 => k_is)
    (case l16 => k_is)
    (case c16 => k_is)
    (case k16 => k_is)
    (case a17 => k_is)
    (case l17 => k_is)
    (case c17 => k_is)
    (case k17 => k_is)
    (case a18 => k_is)
    (case l18 => k_is)
    (case c18 => k_is)
    (case k18 => k_is)
    (case a19 => k_is)
    (case l19 => k_is)
    (case c19 => k_is)
    (case k19 => k_is)
    (case mTERMS_AT => k_is)
    (case lTERMS_AT => k_is)
    (case tTERMS_AT => exact And.intro ⟨_, _, rfl, rfl⟩ (And.intro ⟨_, _, rfl, rfl⟩ (And.intro ⟨_, _, rfl, rfl⟩ (And.intro ⟨_, _, rfl, rfl⟩ (And.intro ⟨_, _, rfl, rfl⟩ (And.intro ⟨_, _, rfl, rfl⟩ (And.intro ⟨_, _, rfl, rfl⟩ (And.intro ⟨_, _, rfl, rfl⟩ (And.intro ⟨_, _, rfl, rfl⟩ (And.intro ⟨_, _, rfl, rfl⟩ (And.intro ⟨_, _, rfl, rfl⟩ (And.intro ⟨_, _, rfl, rfl⟩ (And.intro ⟨_, _, rfl, rfl⟩ (True.intro))))))))))))))
    (case wTERMS_AT => rfl)
    (case eTERMS_AT =>
      refine' And.intro ⟨_, rfl⟩ (And.intro ⟨_, [], rfl, Lw.tup_of ?l ?s ?v, Lw.rps_nil⟩ ?n)
      (case l => k_is)
      (case s => show _ ≤ sizeLine; decide)
      (case v => exact .nil)
      (case n =>
      refine' And.intro ⟨_, rfl⟩ (And.intro ⟨_, [], rfl, Lw.tup_of ?l ?s ?v, Lw.rps_nil⟩ ?n)
      (case l => k_is)
      (case s => show _ ≤ sizeLine; decide)
      (case v => exact .nil)
      (case n =>
      refine' And.intro ⟨_, rfl⟩ (And.intro ⟨_, [], rfl, Lw.tup_of ?l ?s ?v, Lw.rps_nil⟩ ?n)
      (case l => k_is)
      (case s => show _ ≤ sizeLine; decide)
      (case v => exact .nil)
      (case n =>
      refine' And.intro ⟨_, rfl⟩ (And.intro ⟨_, [], rfl, Lw.tup_of ?l ?s ?v, Lw.rps_nil⟩ ?n)
      (case l => k_is)
      (case s => show _ ≤ sizeLine; decide)
      (case v => exact .nil)
      (case n =>
      refine' And.intro ⟨_, rfl⟩ (And.intro ⟨_, [L2.V.int 2], rfl, Lw.tup_of ?l ?s ?v, Lw.rps_cons (fun _ => rfl) (Lw.rps_nil)⟩ ?n)
      (case l => k_is)
      (case s => show _ ≤ sizeLine; decide)
      (case v => exact .cons (⟨_, rfl⟩) (.nil))
      (case n =>
      refine' And.intro ⟨_, rfl⟩ (And.intro ⟨_, [L2.V.int 1, L2.V.int 2], rfl, Lw.tup_of ?l ?s ?v, Lw.rps_cons (fun _ => rfl) (Lw.rps_cons (fun _ => rfl) (Lw.rps_nil))⟩ ?n)
      (case l => k_is)
      (case s => show _ ≤ sizeLine; decide)
      (case v => exact .cons (⟨_, rfl⟩) (.cons (⟨_, rfl⟩) (.nil)))
      (case n =>
      refine' And.intro ⟨_, rfl⟩ (And.intro ⟨_, [L2.V.int 1, L2.V.int 2], rfl, Lw.tup_of ?l ?s ?v, Lw.rps_cons (fun _ => rfl) (Lw.rps_cons (fun _ => rfl) (Lw.rps_nil))⟩ ?n)
      (case l => k_is)
      (case s => show _ ≤ sizeLine; decide)
      (case v => exact .cons (⟨_, rfl⟩) (.cons (⟨_, rfl⟩) (.nil)))
      (case n =>
      refine' And.intro ⟨_, rfl⟩ (And.intro ⟨_, [L2.V.int 1, L2.V.int 2], rfl, Lw.tup_of ?l ?s ?v, Lw.rps_cons (fun _ => rfl) (Lw.rps_cons (fun _ => rfl) (Lw.rps_nil))⟩ ?n)
      (case l => k_is)
      (case s => show _ ≤ sizeLine; decide)
      (case v => exact .cons (⟨_, rfl⟩) (.cons (⟨_, rfl⟩) (.nil)))
      (case n =>
      refine' And.intro ⟨_, rfl⟩ (And.intro ⟨_, [L2.V.int 1, L2.V.int 2], rfl, Lw.tup_of ?l ?s ?v, Lw.rps_cons (fun _ => rfl) (Lw.rps_cons (fun _ => rfl) (Lw.rps_nil))⟩ ?n)
      (case l => k_is)
      (case s => show _ ≤ sizeLine; decide)
      (case v => exact .cons (⟨_, rfl⟩) (.cons (⟨_, rfl⟩) (.nil)))
      (case n =>
      refine' And.intro ⟨_, rfl⟩ (And.intro ⟨_, [L2.V.int 1, L2.V.int 2, L2.V.int 3, L2.V.int 4], rfl, Lw.tup_of ?l ?s ?v, Lw.rps_cons (fun _ => rfl) (Lw.rps_cons (fun _ => rfl) (Lw.rps_cons (fun _ => rfl) (Lw.rps_cons (fun _ => rfl) (Lw.rps_nil))))⟩ ?n)
      (case l => k_is)
      (case s => show _ ≤ sizeLine; decide)
      (case v => exact .cons (⟨_, rfl⟩) (.cons (⟨_, rfl⟩) (.cons (⟨_, rfl⟩) (.cons (⟨_, rfl⟩) (.nil)))))
      (case n =>
      refine' And.intro ⟨_, rfl⟩ (And.intro ⟨_, [L2.V.int 1], rfl, Lw.tup_of ?l ?s ?v, Lw.rps_cons (fun _ => rfl) (Lw.rps_nil)⟩ ?n)
      (case l => k_is)
      (case s => show _ ≤ sizeLine; decide)
      (case v => exact .cons (⟨_, rfl⟩) (.nil))
      (case n =>
      refine' And.intro ⟨_, rfl⟩ (And.intro ⟨_, [L2.V.int 1, L2.V.int 3], rfl, Lw.tup_of ?l ?s ?v, Lw.rps_cons (fun _ => rfl) (Lw.rps_cons (fun _ => rfl) (Lw.rps_nil))⟩ ?n)
      (case l => k_is)
      (case s => show _ ≤ sizeLine; decide)
      (case v => exact .cons (⟨_, rfl⟩) (.cons (⟨_, rfl⟩) (.nil)))
      (case n =>
      refine' And.intro ⟨_, rfl⟩ (And.intro ⟨_, [L2.V.int 2], rfl, Lw.tup_of ?l ?s ?v, Lw.rps_cons (fun _ => rfl) (Lw.rps_nil)⟩ ?n)
      (case l => k_is)
      (case s => show _ ≤ sizeLine; decide)
      (case v => exact .cons (⟨_, rfl⟩) (.nil))
      (case n =>
      exact True.intro))))))))))))))
    (case zabs => k_is)
    (case zall => k_is)
    (case zbool => k_is)
    (case zdivmod => k_is)
    (case zenumerate => k_is)
    (case zint => k_is)
    (case zisinstance => k_is)
    (case zlen => k_is)
    (case zlist => k_is)
    (case zmax => k_is)
    (case zmin => k_is)
    (case zrange => k_is)
    (case zsorted => k_is)
    (case zstr => k_is)
    (case ztuple => k_is)
    (case zzip => k_is)

